import PyProof.Rows.All
import Wide.All
import OpenK.AllK
import Wide.FinOn
import HandS.Base
import HandS.Call
import HandS.List
import HandS.Comp
import HandS.Ends
import HandS.Dict
import HandS.Iter
import HandS.Text
import HandS.Words
import HandS.WordsList
import HandS.Wide
import HandS.Strs
import HandS.SetFor
import HandS.SortInts
import HandS.Defaults
import HandS.IsInst
import HandS.Walk
import HandS.Codes
import HandS.Exc
import HandS.ExcValue
import PySem.Challenge.RW_halfsearch_k04_searches
set_option Elab.async false
set_option maxRecDepth 100000
namespace HSP
open PySem PySem.Spec PyProof.Rows L2
/-! ## trees of pairs, as they lie in the heap -/
inductive Tr where
  | nil
  | nod (l r : Tr)
  deriving DecidableEq
def Tr.size : Tr → Nat
  | .nil => 0
  | .nod l r => l.size + 1 + r.size
def Tr.ht : Tr → Nat
  | .nil => 0
  | .nod l r => max l.ht r.ht + 1
theorem Tr.ht_le : ∀ t : Tr, t.ht ≤ t.size
  | .nil => Nat.le_refl _
  | .nod l r => by
    have h1 := l.ht_le
    have h2 := r.ht_le
    simp only [Tr.ht, Tr.size]
    omega
inductive TrAt (H : Hp) : V → Tr → Prop
  | nil : TrAt H .non .nil
  | nod {a : Addr} {x y : V} {l r : Tr} : H a = some (.tup [x, y]) → TrAt H x l → TrAt H y r → TrAt H (.ref a) (.nod l r)
theorem TrAt.keep {H H' : Hp} {v : V} {t : Tr} (h : TrAt H v t) (s : ∀ a x y, H a = some (.tup [x, y]) → H' a = some (.tup [x, y])) : TrAt H' v t := by
  induction h with
  | nil => exact .nil
  | nod e _ _ ih1 ih2 => exact .nod (s _ _ _ e) ih1 ih2
theorem TrAt.same {H H' : Hp} {v : V} {t : Tr} (h : TrAt H v t) (s : Same H H') : TrAt H' v t := h.keep fun a x y e => s a _ e
/-! ## heaps: all but one place stays -/
def Keep (p : Addr) (H H' : Hp) : Prop := ∀ b o, b ≠ p → H b = some o → H' b = some o
theorem Keep.refl (p : Addr) (H : Hp) : Keep p H H := fun _ _ _ e => e
theorem Keep.trans {p : Addr} {H H1 H2 : Hp} (a : Keep p H H1) (b : Keep p H1 H2) : Keep p H H2 := fun c o n e => b c o n (a c o n e)
theorem Keep.of {p : Addr} {H H' : Hp} (s : Same H H') : Keep p H H' := fun b o _ e => s b o e
theorem Keep.at {p : Addr} {H : Hp} {o : HO} : Keep p H (upd H p o) := fun b u n e => by
  rw [upd_ne n]; exact e
theorem Keep.new {p q : Addr} {H : Hp} {o : HO} (h : H q = none) : Keep p H (upd H q o) := fun b u _ e => by
  rw [upd_ne (ne_of_none e h)]; exact e
theorem Keep.tree {p : Addr} {H H' : Hp} {v : V} {t : Tr} {xs : List V} (k : Keep p H H') (hp : H p = some (.lst xs)) (h : TrAt H v t) : TrAt H' v t :=
  h.keep fun a x y e => k a _ (fun z => by rw [z, hp] at e; cases e) e
theorem Same.new {H : Hp} {p : Addr} {o : HO} (h : H p = none) : Same H (upd H p o) := fun b u e => by
  rw [upd_ne (ne_of_none e h)]; exact e
theorem Keep.same {p : Addr} {H H1 H' : Hp} (s : Same H H1) (n : H p = none) (k : Keep p H1 H') : Same H H' := fun b o e => k b o (ne_of_none e n) (s b o e)
/-! ## powers -/
def CPowW (i j : Int) : Prop := 0 ≤ j ∧ (Builtin.Int.intBits i : Int) * j ≤ 2 ^ 27
section
variable {X : Cx}
theorem op_powW : OpR X (binaryOp .Pow) (rI CPowW fun i j => .int (i ^ j.toNat)) :=
  opI fun _ _ _ _ _ _ _ hc q => pow_int hc.1 hc.2 q
end
end HSP
namespace HSP
open PySem PySem.Spec PyProof.Rows L2
/-! ## a def of the text that keeps a promise, called by its name -/
/-- the def stands under its own name behind the top -/
def At (K : PySem.W.Frag) (mg : Str → Option Value) (x : Str) (st : Stmt) : Prop := ∃ (f : Addr) (fd : FuncData), mg x = some (.ref f) ∧ Fun K x x st f fd
structure Df (P : Program) (w : World) (K : PySem.W.Frag) (mg : Str → Option Value) (base : Heap) (x : Str) (n : Nat) (ps : List Str) (sp : Sp) : Prop where
  ex : ∃ (f : Addr) (fd : FuncData), mg x = some (.ref f) ∧ PySem.W.keepIn K (.ref f) = true ∧ Binds K fd ps [] ∧ FnOk P w K mg base CX0 n f fd ps sp
section
variable {P : Program} {w : World} {K : PySem.W.Frag} {mg : Str → Option Value} {base : Heap}
theorem Df.mk' {x : Str} {st : Stmt} {N ps : List Str} {k : Nat} {sp : Sp} (a : At K mg x st) (S : FnScope N ps (defScope st)) (len : ∀ vs H Q E, sp vs H Q E → vs.length = ps.length)
    (hb : ∀ (kV doc pm : Value) (an : Option Addr) (cdv ct : Value) (us : List Value), us.length = ps.length → bindArgs (PySem.W.fnOf x x (defArgs st) (defBody st) (defScope st) .none kV doc pm an cdv ct) ⟨us, []⟩ = pure (ps.zip us))
    (body : ∀ (f : Addr) (cdv : Value) (A : Around) (outer : List Env) (s : Shared) (H : Hp) (vs : List V) (Q : VK) (E : XK), Room k (A.deeper (envOfC x (defScope st) s.heap.objs.size f cdv)) → sp vs H Q E →
      ∃ t, PSs (cxOf CX0 P w K mg base N x (defScope st) f cdv A outer s H E).nox (defBody st) t ∧ t { nx := fun _ H' => Q .non H', rt := Q } (start N vs) H) : Df P w K mg base x (k + 1) ps sp := by
  obtain ⟨f, fd, hm, F⟩ := a
  exact ⟨f, fd, hm, F.kp, F.binds hb, F.ok S len (body f)⟩
theorem Df.mono {x : Str} {j k : Nat} {ps : List Str} {sp : Sp} (D : Df P w K mg base x j ps sp) (h : j ≤ k) : Df P w K mg base x k ps sp := by
  obtain ⟨f, fd, a, b, c, d⟩ := D.ex
  exact ⟨f, fd, a, b, c, d.mono h⟩
theorem Df.imp {x : Str} {k : Nat} {ps : List Str} {sp sp' : Sp} (D : Df P w K mg base x k ps sp) (h : ∀ vs H Q E, sp' vs H Q E → sp vs H Q E) : Df P w K mg base x k ps sp' := by
  obtain ⟨f, fd, a, b, c, d⟩ := D.ex
  exact ⟨f, fd, a, b, c, d.imp h⟩
end
section
variable {X : Cx} {k : Nat} {ps : List Str} {sp : Sp} {x : Str} {p pos : Pos} {e : Expr} {es : List Expr} {t : TA}
theorem pe_df (D : Df X.prog X.w X.K X.mg X.base x k ps sp) (hr : Room k X.A) (ha : PA X (e :: es) t) (hg : Gl X x := by rfl) (hdb : (x == ("__debug__" : Str)) = false := by decide)
    (he : starEach (e :: es) X.env = (false, eval e X.env) :: starEach es X.env := by rfl) (hpl : (backTo pos (starEach es X.env)).any (·.1) = false := by rfl) : PE X (.Call (.Name x p) (e :: es) [] pos) (tCall sp [] E0 t) := by
  obtain ⟨f, fd, hm, hk, hb, F⟩ := D.ex
  exact pe_call F hr hg hm hk hb .nil pass0 ha hdb he hpl
end
/-! ## what a test or a value is -/
theorem int_inj {i j : Int} (h : i = j) : V.int i = V.int j := by rw [h]
/-! ## the built-ins, not shadowed -/
structure Bl (mg : Str → Option Value) : Prop where
  isinstance : mg "isinstance" = none
  int : mg "int" = none
  bool : mg "bool" = none
  tuple : mg "tuple" = none
  list : mg "list" = none
  str : mg "str" = none
  len : mg "len" = none
  range : mg "range" = none
  enumerate : mg "enumerate" = none
  sorted : mg "sorted" = none
  set : mg "set" = none
  sum : mg "sum" = none
  max : mg "max" = none
  abs : mg "abs" = none
  zip : mg "zip" = none
  min : mg "min" = none
end HSP
namespace HSP
open PySem PySem.Spec PyProof.Rows L2
def topS (i : Nat) : Stmt := PySem.Challenge.pw_halfsearch_k04_searches.main.body.getD i (.Pass ⟨0, 0, 0, 0⟩)
abbrev s_is_whole : Stmt := topS 4
abbrev p_is_whole : List Str := ["thing"]
abbrev n_is_whole : List Str := ["thing"]
abbrev s_is_tree : Stmt := topS 5
abbrev p_is_tree : List Str := ["thing"]
abbrev n_is_tree : List Str := ["thing", "waiting", "part"]
abbrev s_count_nodes : Stmt := topS 6
abbrev p_count_nodes : List Str := ["tree"]
abbrev n_count_nodes : List Str := ["tree", "many", "waiting", "part"]
abbrev s_check_tree : Stmt := topS 7
abbrev p_check_tree : List Str := ["tree"]
abbrev n_check_tree : List Str := ["tree"]
abbrev s_check_row : Stmt := topS 8
abbrev p_check_row : List Str := ["row"]
abbrev n_check_row : List Str := ["row", "node", "value"]
abbrev s_check_values : Stmt := topS 9
abbrev p_check_values : List Str := ["tree", "values"]
abbrev n_check_values : List Str := ["tree", "values"]
abbrev s_turn : Stmt := topS 11
abbrev p_turn : List Str := ["twice", "value", "at_equal"]
abbrev n_turn : List Str := ["twice", "value", "at_equal"]
abbrev s_search : Stmt := topS 12
abbrev p_search : List Str := ["tree", "values", "twice", "at_equal"]
abbrev n_search : List Str := ["tree", "values", "twice", "at_equal", "nodes", "first", "part", "left", "right", "node", "way"]
abbrev s_find : Stmt := topS 13
abbrev p_find : List Str := ["tree", "values", "twice"]
abbrev n_find : List Str := ["tree", "values", "twice", "_", "ending"]
abbrev s_looked : Stmt := topS 14
abbrev p_looked : List Str := ["tree", "values", "twice"]
abbrev n_looked : List Str := ["tree", "values", "twice", "nodes", "_"]
abbrev s_law_draws : Stmt := topS 16
abbrev p_law_draws : List Str := ["cell"]
abbrev n_law_draws : List Str := ["cell"]
abbrev s_law_next : Stmt := topS 17
abbrev p_law_next : List Str := ["draws"]
abbrev n_law_next : List Str := ["draws", "k", "number"]
abbrev s_law_size : Stmt := topS 18
abbrev p_law_size : List Str := ["a_tree"]
abbrev n_law_size : List Str := ["a_tree"]
abbrev s_law_tree : Stmt := topS 19
abbrev p_law_tree : List Str := ["draws", "room"]
abbrev n_law_tree : List Str := ["draws", "room", "at"]
abbrev s_law_values : Stmt := topS 20
abbrev p_law_values : List Str := ["draws", "many"]
abbrev n_law_values : List Str := ["draws", "many", "pick", "spread", "k", "told", "at"]
abbrev s_law_visits : Stmt := topS 21
abbrev p_law_visits : List Str := ["a_tree", "a_values", "a_twice"]
abbrev n_law_visits : List Str := ["a_tree", "a_values", "a_twice", "told", "first", "node"]
abbrev s_law_end : Stmt := topS 22
abbrev p_law_end : List Str := ["a_tree", "a_values", "a_twice"]
abbrev n_law_end : List Str := ["a_tree", "a_values", "a_twice", "told"]
abbrev s_law_right : Stmt := topS 23
abbrev p_law_right : List Str := ["draws"]
abbrev n_law_right : List Str := ["draws", "a_tree", "a_values", "kept", "some", "a_twice", "walk", "told", "nodes", "value", "node"]
abbrev s_law : Stmt := topS 24
abbrev p_law : List Str := ["script"]
abbrev n_law : List Str := ["script", "cell", "draws", "turn_v"]
end HSP
namespace HSP
open PySem PySem.Spec PyProof.Rows L2
section
variable {P : Program} {w : World} {K : PySem.W.Frag} {mg : Str → Option Value} {base : Heap}
/-! ### count_nodes -/
/-- what waits: trees of together n nodes -/
inductive Waits (H : Hp) : List V → List Tr → Prop
  | nil : Waits H [] []
  | cons {v : V} {t : Tr} {vs : List V} {ts : List Tr} : TrAt H v t → Waits H vs ts → Waits H (v :: vs) (t :: ts)
theorem Waits.len {H : Hp} {vs : List V} {ts : List Tr} (h : Waits H vs ts) : vs.length = ts.length := by
  induction h with
  | nil => rfl
  | cons _ _ ih => rw [List.length_cons, List.length_cons, ih]
def sizes : List Tr → Nat
  | [] => 0
  | t :: r => t.size + sizes r
def turns : List Tr → Nat
  | [] => 0
  | t :: r => 2 * t.size + 1 + turns r
/-- the list on which they wait, the last one first -/
theorem last_rev {v : V} {vs : List V} : (v :: vs).reverse[(v :: vs).reverse.length - 1]? = some v := by
  rw [List.reverse_cons, List.length_append, List.length_singleton, Nat.add_sub_cancel, List.getElem?_append_right (Nat.le_refl _), Nat.sub_self]
  all_goals rfl
theorem drop_rev {v : V} {vs : List V} : (v :: vs).reverse.dropLast = vs.reverse := by
  rw [List.reverse_cons, List.dropLast_concat]
theorem rev_push {v : V} {vs : List V} : vs.reverse ++ [v] = (v :: vs).reverse := by rw [List.reverse_cons]
theorem rev_empty {vs : List V} : (!vs.reverse.isEmpty) = !vs.isEmpty := by
  cases vs with
  | nil => rfl
  | cons v r =>
    rw [List.reverse_cons]
    cases r.reverse <;> rfl
def spCount : Sp := fun vs H Q _ => ∃ (v : V) (t : Tr), vs = [v] ∧ TrAt H v t ∧ t.size ≤ 1000 ∧ ∀ H', Same H H' → Q (.int t.size) H'
theorem sc_count : FnScope n_count_nodes ["tree"] (defScope s_count_nodes) := ⟨rfl, rfl, rfl, by decide +kernel, rfl, by decide +kernel, by decide +kernel⟩
theorem ok_count (a : At K mg "count_nodes" s_count_nodes) : Df P w K mg base "count_nodes" 1 ["tree"] spCount := by
  refine Df.mk' a sc_count (fun vs H Q E h => ?_) (fun _ _ _ _ _ _ us hl => match us, hl with | [_], _ => rfl) (fun f cdv A outer s H vs Q E hr h => ?_)
  · obtain ⟨v, t, rfl, _⟩ := h
    rfl
  obtain ⟨v, t, rfl, ht, hz, q⟩ := h
  refine ⟨_, pss_cons (ps_set (i := 1) sc_count.nd rfl (.inl rfl) pe_int)
    (pss_cons (ps_set (i := 2) sc_count.nd rfl (.inl rfl) (pe_lst (pa_cons (pv 0) pa_nil)))
    (pss_cons (ps_while PassesOwn.never (pt_truth (pv 2) (by intro _; rfl))
      (pss_cons (ps_set (i := 3) sc_count.nd rfl (.inl rfl) (pe_bm0 PySem.F.plainAttrs_list PySem.F.slot_list_pop PySem.F.type_list_pop mt_pop (pv 2)))
      (pss_one (ps_if (pt_cmpR op_notN (pv 3) pe_non (nomark _))
        (pss_cons (ps_aug (i := 1) sc_count.nd rfl (.inl rfl) pe_int ip_add)
        (pss_cons (ps_expr (pe_bm PySem.F.plainAttrs_list PySem.F.slot_list_append PySem.F.type_list_append mt_append (pv 2) (pa_cons (pe_ix ix_tup (pv 3) pe_int (fun _ _ => rfl)) pa_nil)))
        (pss_one (ps_expr (pe_bm PySem.F.plainAttrs_list PySem.F.slot_list_append PySem.F.type_list_append mt_append (pv 2) (pa_cons (pe_ix ix_tup (pv 3) pe_int (fun _ _ => rfl)) pa_nil)))))) pss_nil))))
    (pss_one (ps_ret (pv 1))))), ?_⟩
  refine ⟨v, rfl, (by show 1 ≤ sizeLine; decide), fun l hl => ?_⟩
  have s0 : Same H (upd H l (.lst [v])) := Same.new hl
  refine ⟨fun m σ H1 => ∃ (vs : List V) (ts : List Tr) (n : Nat) (y : Option V), σ = [some v, some (.int n), some (.ref l), y] ∧ Same H H1 ∧ H1 l = some (.lst vs.reverse) ∧ Waits H vs ts ∧ n + sizes ts = t.size ∧ vs.length ≤ n + 1 ∧ m = turns ts,
    ⟨_, [v], [t], 0, none, rfl, s0, upd_same, .cons ht .nil, by show 0 + (t.size + 0) = t.size; omega, by show 1 ≤ 0 + 1; omega, rfl⟩, fun m σ H1 hW => ?_⟩
  obtain ⟨vs, ts, n, y, rfl, sm, el, hw, hn, hlen, rfl⟩ := hW
  refine ⟨.ref l, rfl, !vs.reverse.isEmpty, .inl ⟨_, .of el, rfl⟩, ?_⟩
  rw [rev_empty]
  cases hw with
  | nil =>
    refine iteF ?_
    exact ⟨_, rfl, by rw [show ((n : Nat) : Int) = ((t.size : Nat) : Int) from congrArg _ hn]; exact q _ sm⟩
  | @cons x u xs us hx hxs =>
    refine iteT ⟨fun σ' H' => ∃ m', m' < turns (u :: us) ∧ ∃ (vs : List V) (ts : List Tr) (n : Nat) (y : Option V), σ' = [some v, some (.int n), some (.ref l), y] ∧ Same H H' ∧ H' l = some (.lst vs.reverse) ∧ Waits H vs ts ∧ n + sizes ts = t.size ∧ vs.length ≤ n + 1 ∧ m' = turns ts,
      fun σ' H' hN => hN, ?_⟩
    refine ⟨.ref l, rfl, .inl ⟨rfl, _, .of el⟩, l, _, x, rfl, rfl, el, last_rev, ?_⟩
    rw [drop_rev]
    have sm2 : Same H (upd H1 l (.lst xs.reverse)) := fun b o e => by rw [upd_ne (ne_of_none e hl)]; exact sm b o e
    refine ⟨x, rfl, rfl, _, rfl, ?_⟩
    cases hx with
    | nil =>
      refine iteF ?_
      refine ⟨_, ?_, xs, us, n, _, rfl, sm2, upd_same, hxs, ?_, ?_, rfl⟩
      · show turns us < 2 * 0 + 1 + turns us; omega
      · have : 0 + sizes us = sizes (Tr.nil :: us) := rfl
        omega
      · rw [List.length_cons] at hlen; omega
    | @nod a x1 y1 l1 r1 ea hl1 hr1 =>
      refine iteT ?_
      refine ⟨_, rfl, _, _, rfl, rfl, ?_⟩
      have e2 : (upd H1 l (.lst xs.reverse)) a = some (.tup [x1, y1]) := sm2 _ _ ea
      refine ⟨_, rfl, .inl ⟨rfl, _, .of upd_same⟩, _, rfl, a, _, _, y1, rfl, rfl, .of e2, atI_nat (j := 1) rfl, l, _, _, rfl, rfl, upd_same, ?_, ?_⟩
      · rw [List.length_reverse]
        rw [List.length_cons] at hlen
        exact small1000 (by omega)
      refine ⟨_, rfl, .inl ⟨rfl, _, .of upd_same⟩, _, rfl, a, _, _, x1, rfl, rfl, .of (by rw [upd_ne (ne_of_none ea hl)]; exact e2), atI_nat (xs := [x1, y1]) (j := 0) rfl, l, _, _, rfl, rfl, upd_same, ?_, ?_⟩
      · rw [List.length_append, List.length_reverse, List.length_singleton]
        rw [List.length_cons] at hlen
        have e1 : sizes (Tr.nod l1 r1 :: us) = (l1.size + 1 + r1.size) + sizes us := rfl
        exact small1000 (by omega)
      rw [rev_push, rev_push]
      refine ⟨_, ?_, x1 :: y1 :: xs, l1 :: r1 :: us, n + 1, _, rfl, fun b o e => ?_, upd_same, .cons hl1 (.cons hr1 hxs), ?_, ?_, rfl⟩
      · show 2 * l1.size + 1 + (2 * r1.size + 1 + turns us) < 2 * (l1.size + 1 + r1.size) + 1 + turns us
        omega
      · rw [upd_ne (ne_of_none e hl), upd_ne (ne_of_none e hl)]
        exact sm2 b o e
      · have e1 : sizes (Tr.nod l1 r1 :: us) = (l1.size + 1 + r1.size) + sizes us := rfl
        show n + 1 + (l1.size + (r1.size + sizes us)) = t.size
        omega
      · rw [List.length_cons] at hlen
        show xs.length + 1 + 1 ≤ n + 1 + 1
        omega
end
end HSP
namespace HSP
open PySem PySem.Spec PyProof.Rows L2
section
variable {P : Program} {w : World} {K : PySem.W.Frag} {mg : Str → Option Value} {base : Heap}
/-! ### is_whole -/
def spWhole : Sp := fun vs H Q _ => ∃ i : Int, vs = [.int i] ∧ Q (.bl true) H
theorem sc_whole : FnScope n_is_whole ["thing"] (defScope s_is_whole) := ⟨rfl, rfl, rfl, by decide +kernel, rfl, by decide +kernel, by decide +kernel⟩
theorem ok_whole (B : Bl mg) (a : At K mg "is_whole" s_is_whole) : Df P w K mg base "is_whole" 1 ["thing"] spWhole := by
  refine Df.mk' a sc_whole (fun vs H Q E h => ?_) (fun _ _ _ _ _ _ us hl => match us, hl with | [_], _ => rfl) (fun f cdv A outer s H vs Q E hr h => ?_)
  · obtain ⟨v, rfl, _⟩ := h
    rfl
  obtain ⟨i, rfl, q⟩ := h
  refine ⟨_, pss_one (ps_ret (pe_and (pe_callB call_isi (by rfl) B.isinstance (by decide +kernel) (pa_cons (pv 0) (pa_cons (pe_bltn (v := .ty "int") (by rfl) B.int (by decide +kernel) rfl) pa_nil)))
    (pe_one (pe_not (pe_callB call_isi (by rfl) B.isinstance (by decide +kernel) (pa_cons (pv 0) (pa_cons (pe_bltn (v := .ty "bool") (by rfl) B.bool (by decide +kernel) rfl) pa_nil))))))), ?_⟩
  refine ⟨_, rfl, _, _, _, _, true, rfl, .ty "int", .base (.int i), rfl, true, rfl, iteT ?_⟩
  exact ⟨_, rfl, _, _, _, _, false, rfl, .ty "bool", .base (.int i), rfl, false, rfl, q⟩
end
end HSP
namespace HSP
open PySem PySem.Spec PyProof.Rows L2
section
variable {P : Program} {w : World} {K : PySem.W.Frag} {mg : Str → Option Value} {base : Heap}
/-! ### is_tree -/
def spTree : Sp := fun vs H Q _ => ∃ (v : V) (t : Tr), vs = [v] ∧ TrAt H v t ∧ t.size ≤ 1000 ∧ ∀ H', Same H H' → Q (.bl true) H'
theorem sc_tree : FnScope n_is_tree ["thing"] (defScope s_is_tree) := ⟨rfl, rfl, rfl, by decide +kernel, rfl, by decide +kernel, by decide +kernel⟩
theorem ok_tree (B : Bl mg) (a : At K mg "is_tree" s_is_tree) : Df P w K mg base "is_tree" 1 ["thing"] spTree := by
  refine Df.mk' a sc_tree (fun vs H Q E h => ?_) (fun _ _ _ _ _ _ us hl => match us, hl with | [_], _ => rfl) (fun f cdv A outer s H vs Q E hr h => ?_)
  · obtain ⟨v, t, rfl, _⟩ := h
    rfl
  obtain ⟨v, t, rfl, ht, hz, q⟩ := h
  refine ⟨_, pss_cons (ps_set (i := 1) sc_tree.nd rfl (.inl rfl) (pe_lst (pa_cons (pv 0) pa_nil)))
    (pss_cons (ps_while PassesOwn.never (pt_truth (pv 1) (by intro _; rfl))
      (pss_cons (ps_set (i := 2) sc_tree.nd rfl (.inl rfl) (pe_bm0 PySem.F.plainAttrs_list PySem.F.slot_list_pop PySem.F.type_list_pop mt_pop (pv 1)))
      (pss_one (ps_if (pt_cmpR op_notN (pv 2) pe_non (nomark _))
        (pss_cons (ps_if (PW.pt (pw_or (pt_not (pt_val (pe_callB call_isi (by rfl) B.isinstance (by decide +kernel) (pa_cons (pv 2) (pa_cons (pe_bltn (v := .ty "tuple") (by rfl) B.tuple (by decide +kernel) rfl) pa_nil)))))
            (pw_or1 (pt_cmpR op_ne (pe_callB call_len_seq (by rfl) B.len PySem.boot_len (pa_cons (pv 2) pa_nil)) pe_int (nomark _)))))
          (pss_one (ps_ret pe_bl)) pss_nil)
        (pss_cons (ps_expr (pe_bm PySem.F.plainAttrs_list PySem.F.slot_list_append PySem.F.type_list_append mt_append (pv 1) (pa_cons (pe_ix ix_tup (pv 2) pe_int (fun _ _ => rfl)) pa_nil)))
        (pss_one (ps_expr (pe_bm PySem.F.plainAttrs_list PySem.F.slot_list_append PySem.F.type_list_append mt_append (pv 1) (pa_cons (pe_ix ix_tup (pv 2) pe_int (fun _ _ => rfl)) pa_nil)))))) pss_nil))))
    (pss_one (ps_ret pe_bl))), ?_⟩
  refine ⟨v, rfl, (by show 1 ≤ sizeLine; decide), fun l hl => ?_⟩
  have s0 : Same H (upd H l (.lst [v])) := Same.new hl
  refine ⟨fun m σ H1 => ∃ (vs : List V) (ts : List Tr) (n : Nat) (y : Option V), σ = [some v, some (.ref l), y] ∧ Same H H1 ∧ H1 l = some (.lst vs.reverse) ∧ Waits H vs ts ∧ n + sizes ts = t.size ∧ vs.length ≤ n + 1 ∧ m = turns ts,
    ⟨_, [v], [t], 0, none, rfl, s0, upd_same, .cons ht .nil, by show 0 + (t.size + 0) = t.size; omega, by show 1 ≤ 0 + 1; omega, rfl⟩, fun m σ H1 hW => ?_⟩
  obtain ⟨vs, ts, n, y, rfl, sm, el, hw, hn, hlen, rfl⟩ := hW
  refine ⟨.ref l, rfl, !vs.reverse.isEmpty, .inl ⟨_, .of el, rfl⟩, ?_⟩
  rw [rev_empty]
  cases hw with
  | nil => exact iteF (q _ sm)
  | @cons x u xs us hx hxs =>
    refine iteT ⟨fun σ' H' => ∃ m', m' < turns (u :: us) ∧ ∃ (vs : List V) (ts : List Tr) (n : Nat) (y : Option V), σ' = [some v, some (.ref l), y] ∧ Same H H' ∧ H' l = some (.lst vs.reverse) ∧ Waits H vs ts ∧ n + sizes ts = t.size ∧ vs.length ≤ n + 1 ∧ m' = turns ts,
      fun σ' H' hN => hN, ?_⟩
    refine ⟨.ref l, rfl, .inl ⟨rfl, _, .of el⟩, l, _, x, rfl, rfl, el, last_rev, ?_⟩
    rw [drop_rev]
    have sm2 : Same H (upd H1 l (.lst xs.reverse)) := fun b o e => by rw [upd_ne (ne_of_none e hl)]; exact sm b o e
    refine ⟨x, rfl, rfl, _, rfl, ?_⟩
    cases hx with
    | nil =>
      refine iteF ?_
      refine ⟨_, ?_, xs, us, n, _, rfl, sm2, upd_same, hxs, ?_, ?_, rfl⟩
      · show turns us < 2 * 0 + 1 + turns us; omega
      · have : 0 + sizes us = sizes (Tr.nil :: us) := rfl
        omega
      · rw [List.length_cons] at hlen; omega
    | @nod a x1 y1 l1 r1 ea hl1 hr1 =>
      refine iteT ?_
      have e2 : (upd H1 l (.lst xs.reverse)) a = some (.tup [x1, y1]) := sm2 _ _ ea
      refine ⟨_, rfl, _, _, _, _, true, rfl, .ty "tuple", .base (.tup e2), rfl, true, rfl, iteF ?_⟩
      refine ⟨_, rfl, a, _, rfl, .inr (.of e2), rfl, _, rfl, iteF ?_⟩
      refine ⟨_, rfl, .inl ⟨rfl, _, .of upd_same⟩, _, rfl, a, _, _, y1, rfl, rfl, .of e2, atI_nat (j := 1) rfl, l, _, _, rfl, rfl, upd_same, ?_, ?_⟩
      · rw [List.length_reverse]
        rw [List.length_cons] at hlen
        exact small1000 (by omega)
      refine ⟨_, rfl, .inl ⟨rfl, _, .of upd_same⟩, _, rfl, a, _, _, x1, rfl, rfl, .of (by rw [upd_ne (ne_of_none ea hl)]; exact e2), atI_nat (xs := [x1, y1]) (j := 0) rfl, l, _, _, rfl, rfl, upd_same, ?_, ?_⟩
      · rw [List.length_append, List.length_reverse, List.length_singleton]
        rw [List.length_cons] at hlen
        have e1 : sizes (Tr.nod l1 r1 :: us) = (l1.size + 1 + r1.size) + sizes us := rfl
        exact small1000 (by omega)
      rw [rev_push, rev_push]
      refine ⟨_, ?_, x1 :: y1 :: xs, l1 :: r1 :: us, n + 1, _, rfl, fun b o e => ?_, upd_same, .cons hl1 (.cons hr1 hxs), ?_, ?_, rfl⟩
      · show 2 * l1.size + 1 + (2 * r1.size + 1 + turns us) < 2 * (l1.size + 1 + r1.size) + 1 + turns us
        omega
      · rw [upd_ne (ne_of_none e hl), upd_ne (ne_of_none e hl)]
        exact sm2 b o e
      · have e1 : sizes (Tr.nod l1 r1 :: us) = (l1.size + 1 + r1.size) + sizes us := rfl
        show n + 1 + (l1.size + (r1.size + sizes us)) = t.size
        omega
      · rw [List.length_cons] at hlen
        show xs.length + 1 + 1 ≤ n + 1 + 1
        omega
/-! ### check_tree -/
theorem sc_chkT : FnScope n_check_tree ["tree"] (defScope s_check_tree) := ⟨rfl, rfl, rfl, by decide +kernel, rfl, by decide +kernel, by decide +kernel⟩
def spChkT : Sp := fun vs H Q _ => ∃ (v : V) (t : Tr), vs = [v] ∧ TrAt H v t ∧ t.size ≤ 1000 ∧ ∀ H', Same H H' → Q .non H'
theorem ok_chkT (T : Df P w K mg base "is_tree" 1 ["thing"] spTree) (a : At K mg "check_tree" s_check_tree) : Df P w K mg base "check_tree" 2 ["tree"] spChkT := by
  refine Df.mk' a sc_chkT (fun vs H Q E h => ?_) (fun _ _ _ _ _ _ us hl => match us, hl with | [_], _ => rfl) (fun f cdv A outer s H vs Q E hr h => ?_)
  · obtain ⟨v, t, rfl, _⟩ := h
    rfl
  obtain ⟨v, t, rfl, ht, hz, q⟩ := h
  refine ⟨_, pss_one (ps_if (pt_not (pt_val (pe_df T hr (pa_cons (pv 0) pa_nil)))) (pss_one ps_never) pss_nil), ?_⟩
  refine ⟨v, rfl, v, t, rfl, ht, hz, fun H' sm => ⟨true, rfl, iteF ?_⟩⟩
  exact q H' sm
end
end HSP
namespace HSP
open PySem PySem.Spec PyProof.Rows L2
section
variable {P : Program} {w : World} {K : PySem.W.Frag} {mg : Str → Option Value} {base : Heap}
/-! ### check_row -/
theorem sc_chkR : FnScope n_check_row ["row"] (defScope s_check_row) := ⟨rfl, rfl, rfl, by decide +kernel, rfl, by decide +kernel, by decide +kernel⟩
def spChkR : Sp := fun vs H Q _ => ∃ (a : Addr) (ns : List Int), vs = [.ref a] ∧ H a = some (.lst (ns.map V.int)) ∧ ∀ H', Same H H' → Q .non H'
theorem ok_chkR (B : Bl mg) (W1 : Df P w K mg base "is_whole" 1 ["thing"] spWhole) (a : At K mg "check_row" s_check_row) : Df P w K mg base "check_row" 2 ["row"] spChkR := by
  refine Df.mk' a sc_chkR (fun vs H Q E h => ?_) (fun _ _ _ _ _ _ us hl => match us, hl with | [_], _ => rfl) (fun f cdv A outer s H vs Q E hr h => ?_)
  · obtain ⟨a, ns, rfl, _⟩ := h
    rfl
  obtain ⟨a, ns, rfl, ha, q⟩ := h
  refine ⟨_, (pss_cons (ps_if (pt_not (pt_val (pe_callB call_isi (by rfl) B.isinstance (by decide +kernel) (pa_cons (pv 0) (pa_cons (pe_bltn (v := .ty "list") (by rfl) B.list (by decide +kernel) rfl) pa_nil))))) (pss_one ps_never) pss_nil)
 (pss_one (ps_for PassesOwn.never rfl (pi_enum (by rfl) B.enumerate (pa_cons (pv 0) pa_nil)) (pg_tup rfl (pgs_cons (pg_name (i := 1) sc_chkR.nd rfl (.inl rfl)) (pgs_cons (pg_name (i := 2) sc_chkR.nd rfl (.inl rfl)) pgs_nil))) (pss_one (ps_if (pt_not (pt_val (pe_df W1 hr (pa_cons (pv 2) pa_nil)))) (pss_one ps_never) pss_nil))))), ?_⟩
  refine ⟨_, rfl, _, _, _, _, true, rfl, .ty "list", .base (.lst ha), rfl, true, rfl, iteF ?_⟩
  refine ⟨.ref a, rfl, a, ns.map V.int, rfl, .of ha, ?_⟩
  refine for_it (walk_enum (K := K) (a := a) (xs := ns.map V.int)) (fun _ σ H3 => Same H H3 ∧ ∃ y2 y3, σ = [some (.ref a), y2, y3]) ⟨Same.refl _, none, none, rfl⟩ (fun i σ H3 _ h3 => .of (h3.1 _ _ ha)) (fun i x σ H3 H4 hi h3 hy => ?_) (fun σ H3 h3 => q _ h3.1)
  obtain ⟨s3, y2, y3, rfl⟩ := h3
  obtain ⟨p, x1, x2, rfl, np, rfl, ex1, ex2⟩ := hy
  rw [List.length_map] at hi
  have g1 : (ns.map V.int)[i]? = some (.int ns[i]) := by
    rw [List.getElem?_map, List.getElem?_eq_getElem hi]
    rfl
  cases g1.symm.trans ex2
  refine ⟨p, [x1, .int ns[i]], rfl, .of upd_same, rfl, x1, _, rfl, _, [], rfl, rfl, ?_⟩
  refine ⟨_, rfl, _, rfl, true, rfl, iteF ?_⟩
  exact ⟨s3.trans (Same.new np), _, _, rfl⟩
end
end HSP
namespace HSP
open PySem PySem.Spec PyProof.Rows L2
section
variable {P : Program} {w : World} {K : PySem.W.Frag} {mg : Str → Option Value} {base : Heap}
/-! ### check_values -/
theorem sc_chkV : FnScope n_check_values ["tree", "values"] (defScope s_check_values) := ⟨rfl, rfl, rfl, by decide +kernel, rfl, by decide +kernel, by decide +kernel⟩
def spChkV : Sp := fun vs H Q _ => ∃ (v : V) (t : Tr) (a : Addr) (ns : List Int), vs = [v, .ref a] ∧ TrAt H v t ∧ t.size ≤ 1000 ∧ H a = some (.lst (ns.map V.int)) ∧ ns.length = t.size ∧ ∀ H', Same H H' → Q .non H'
theorem ok_chkV (B : Bl mg) (R : Df P w K mg base "check_row" 2 ["row"] spChkR) (C : Df P w K mg base "count_nodes" 1 ["tree"] spCount) (T : Df P w K mg base "check_tree" 2 ["tree"] spChkT)
    (a : At K mg "check_values" s_check_values) : Df P w K mg base "check_values" 3 ["tree", "values"] spChkV := by
  refine Df.mk' a sc_chkV (fun vs H Q E h => ?_) (fun _ _ _ _ _ _ us hl => match us, hl with | [_, _], _ => rfl) (fun f cdv A outer s H vs Q E hr h => ?_)
  · obtain ⟨v, t, a, ns, rfl, _⟩ := h
    rfl
  obtain ⟨v, t, a, ns, rfl, ht, hz, ha, hn, q⟩ := h
  refine ⟨_, (pss_cons (ps_expr (pe_df T hr (pa_cons (pv 0) pa_nil)))
 (pss_cons (ps_if (PW.pt (pw_and (pt_val (pe_callB call_isi (by rfl) B.isinstance (by decide +kernel) (pa_cons (pv 1) (pa_cons (pe_bltn (v := .ty "list") (by rfl) B.list (by decide +kernel) rfl) pa_nil)))) (pw_and1 (pt_cmpR op_ne (pe_callB call_len_seq (by rfl) B.len PySem.boot_len (pa_cons (pv 1) pa_nil)) (pe_df C (hr.mono (by decide)) (pa_cons (pv 0) pa_nil)) (nomark _))))) (pss_one ps_never) pss_nil)
 (pss_one (ps_expr (pe_df R hr (pa_cons (pv 1) pa_nil)))))), ?_⟩
  refine ⟨v, rfl, v, t, rfl, ht, hz, fun H1 s1 => ?_⟩
  refine ⟨_, rfl, _, _, _, _, true, rfl, .ty "list", .base (.lst (s1 _ _ ha)), rfl, true, rfl, iteT ?_⟩
  refine ⟨_, rfl, a, _, rfl, .inl (.of (s1 _ _ ha)), v, rfl, v, t, rfl, ht.same s1, hz, fun H2 s2 => ?_⟩
  have e1 : V.int (((ns.map V.int).length : Nat) : Int) = V.int ((t.size : Nat) : Int) := by rw [List.length_map, hn]
  refine ⟨rfl, _, rfl, ?_⟩
  rw [e1, decide_eq_true rfl]
  refine iteF ?_
  exact ⟨.ref a, rfl, a, ns, rfl, s2 _ _ (s1 _ _ ha), fun H3 s3 => q _ ((s1.trans s2).trans s3)⟩
end
end HSP
namespace HSP
open PySem PySem.Spec PyProof.Rows L2
theorem Paired.app {α β : Type} {R : α → β → Prop} : ∀ {l : List α} {m : List β} {l' : List α} {m' : List β}, Paired R l m → Paired R l' m' → Paired R (l ++ l') (m ++ m')
  | _, _, _, _, .nil, h => h
  | _, _, _, _, .cons a t, h => .cons a (Paired.app t h)
theorem ixN_in {n : Nat} {i : Int} (h0 : 0 ≤ i) (h1 : i < (n : Int)) : ixN n i = some i.toNat := by
  unfold ixN
  rw [if_pos h0, if_pos h1]
def valAt (ns : List Int) (i : Nat) : Int := ns.getD i 0
theorem valAt_get {ns : List Int} {i : Nat} (h : i < ns.length) : (ns.map V.int)[i]? = some (.int (valAt ns i)) := by
  rw [List.getElem?_map, List.getElem?_eq_getElem h, valAt, List.getD_eq_getElem?_getD, List.getElem?_eq_getElem h]
  rfl
def natV (n : Nat) : V := .int (n : Int)
theorem ite_no {c A B : Prop} [Decidable c] (h : ¬ c) (b : B) : if decide c = true then A else B := by
  rw [decide_eq_false h]
  exact iteF b
theorem ite_yes {c A B : Prop} [Decidable c] (h : c) (a : A) : if decide c = true then A else B := by
  rw [decide_eq_true h]
  exact iteT a
inductive Md where
  | fin | lft | rgt
def Md.str : Md → Str
  | .fin => "end"
  | .lft => "left"
  | .rgt => "right"
/-- where a search goes on -/
def wayOf (tw v : Int) (m : Md) : Md := if tw = 2 * v then m else if tw < 2 * v then .lft else .rgt
/-! ### the search, as a function of the tree -/
/-- how it ends: is it found, and the node or the gap -/
def sEnd (g : Nat → Int) (tw : Int) (m : Md) : Tr → Nat → Bool × Nat
  | .nil, f => (false, f)
  | .nod l r, f => match wayOf tw (g (f + l.size)) m with
    | .fin => (true, f + l.size)
    | .lft => sEnd g tw m l f
    | .rgt => sEnd g tw m r (f + l.size + 1)
/-- the nodes at which it is -/
def sPath (g : Nat → Int) (tw : Int) (m : Md) : Tr → Nat → List Nat
  | .nil, _ => []
  | .nod l r, f => (f + l.size) :: match wayOf tw (g (f + l.size)) m with
    | .fin => []
    | .lft => sPath g tw m l f
    | .rgt => sPath g tw m r (f + l.size + 1)
theorem sPath_in (g : Nat → Int) (tw : Int) (m : Md) : ∀ (t : Tr) (f i : Nat), i ∈ sPath g tw m t f → f ≤ i ∧ i < f + t.size
  | .nil, _, _, h => by cases h
  | .nod l r, f, i, h => by
    have e : sPath g tw m (.nod l r) f = (f + l.size) :: match wayOf tw (g (f + l.size)) m with | .fin => [] | .lft => sPath g tw m l f | .rgt => sPath g tw m r (f + l.size + 1) := rfl
    have z : (Tr.nod l r).size = l.size + 1 + r.size := rfl
    rw [e] at h
    rw [z]
    rcases List.mem_cons.mp h with q | q
    · omega
    · cases w : wayOf tw (g (f + l.size)) m with
      | fin => rw [w] at q; cases q
      | lft =>
        rw [w] at q
        have := sPath_in g tw m l f i q
        omega
      | rgt =>
        rw [w] at q
        have := sPath_in g tw m r (f + l.size + 1) i q
        omega
theorem sPath_len (g : Nat → Int) (tw : Int) (m : Md) : ∀ (t : Tr) (f : Nat), (sPath g tw m t f).length ≤ t.size
  | .nil, _ => Nat.le_refl _
  | .nod l r, f => by
    have e : sPath g tw m (.nod l r) f = (f + l.size) :: match wayOf tw (g (f + l.size)) m with | .fin => [] | .lft => sPath g tw m l f | .rgt => sPath g tw m r (f + l.size + 1) := rfl
    have z : (Tr.nod l r).size = l.size + 1 + r.size := rfl
    rw [e, z, List.length_cons]
    cases wayOf tw (g (f + l.size)) m with
    | fin => show 0 + 1 ≤ _; omega
    | lft => have := sPath_len g tw m l f; show (sPath g tw m l f).length + 1 ≤ _; omega
    | rgt => have := sPath_len g tw m r (f + l.size + 1); show (sPath g tw m r (f + l.size + 1)).length + 1 ≤ _; omega
def optNV : Option Nat → V
  | none => .non
  | some n => natV n
def kindV (b : Bool) : V := if b = true then .str "found" else .str "gap"
end HSP
namespace HSP
open PySem PySem.Spec PyProof.Rows L2
section
variable {P : Program} {w : World} {K : PySem.W.Frag} {mg : Str → Option Value} {base : Heap}
/-! ### turn -/
theorem sc_turn : FnScope n_turn ["twice", "value", "at_equal"] (defScope s_turn) := ⟨rfl, rfl, rfl, by decide +kernel, rfl, by decide +kernel, by decide +kernel⟩
def spTurn : Sp := fun vs H Q _ => ∃ (tw v : Int) (m : Md), vs = [.int tw, .int v, .str m.str] ∧ Q (.str (wayOf tw v m).str) H
theorem ok_turn (a : At K mg "turn" s_turn) : Df P w K mg base "turn" 1 ["twice", "value", "at_equal"] spTurn := by
  refine Df.mk' a sc_turn (fun vs H Q E h => ?_) (fun _ _ _ _ _ _ us hl => match us, hl with | [_, _, _], _ => rfl) (fun f cdv A outer s H vs Q E hr h => ?_)
  · obtain ⟨tw, v, m, rfl, _⟩ := h
    rfl
  obtain ⟨tw, v, m, rfl, q⟩ := h
  refine ⟨_, pss_cons (ps_if (pt_cmpR op_eq (pv 0) (pe_op op_mul pe_int (pv 1)) (nomark _)) (pss_one (ps_ret (pv 2))) pss_nil)
    (pss_one (ps_ret (pe_ifExp (pt_cmpR op_lt (pv 0) (pe_op op_mul pe_int (pv 1)) (nomark _)) pe_str pe_str))), ?_⟩
  refine ⟨_, rfl, _, rfl, _, _, rfl, rfl, .inl ⟨by decide, by decide⟩, rfl, _, rfl, ?_⟩
  unfold wayOf at q
  refine ite2 (fun c => ?_) (fun c => ?_)
  · have c1 : tw = 2 * v := V.int.inj (of_decide_eq_true c)
    rw [if_pos c1] at q
    exact ⟨_, rfl, q⟩
  · have c1 : ¬ tw = 2 * v := fun z => c (decide_eq_true (congrArg V.int z))
    rw [if_neg c1] at q
    refine ⟨_, rfl, _, rfl, _, _, rfl, rfl, .inl ⟨by decide, by decide⟩, _, _, rfl, rfl, _, rfl, ?_⟩
    refine ite2 (fun d => ?_) (fun d => ?_)
    · rw [if_pos (of_decide_eq_true d)] at q
      exact q
    · rw [if_neg (of_decide_eq_false (Bool.eq_false_iff.mpr d))] at q
      exact q
end
end HSP
namespace HSP
open PySem PySem.Spec PyProof.Rows L2
theorem ne_fin_lft : ¬ (V.str Md.lft.str = V.str "end") := by decide +kernel
theorem ne_fin_rgt : ¬ (V.str Md.rgt.str = V.str "end") := by decide +kernel
theorem ne_lft_rgt : ¬ (V.str Md.rgt.str = V.str "left") := by decide +kernel
/-- what search hands back at p: the list at n, the ending at e -/
def Ended (H H' : Hp) (e : Addr) (r : Bool × Nat) : Prop := H e = none ∧ H' e = some (.tup [kindV r.1, natV r.2])
section
variable {P : Program} {w : World} {K : PySem.W.Frag} {mg : Str → Option Value} {base : Heap}
theorem sc_search : FnScope n_search ["tree", "values", "twice", "at_equal"] (defScope s_search) := ⟨rfl, rfl, rfl, by decide +kernel, rfl, by decide +kernel, by decide +kernel⟩
def spSearch : Sp := fun vs H Q _ => ∃ (v : V) (t : Tr) (a : Addr) (ns : List Int) (tw : Int) (m : Md), vs = [v, .ref a, .int tw, .str m.str] ∧ TrAt H v t ∧ t.size ≤ 1000 ∧ H a = some (.lst (ns.map V.int)) ∧ ns.length = t.size ∧
  ∀ (H' : Hp) (p n e : Addr), Same H H' → H' p = some (.tup [.ref n, .ref e]) → H n = none → H' n = some (.lst ((sPath (valAt ns) tw m t 0).map natV)) → Ended H H' e (sEnd (valAt ns) tw m t 0) → Q (.ref p) H'
theorem ok_search (C : Df P w K mg base "count_nodes" 1 ["tree"] spCount) (T : Df P w K mg base "turn" 1 ["twice", "value", "at_equal"] spTurn) (a : At K mg "search" s_search) :
    Df P w K mg base "search" 2 ["tree", "values", "twice", "at_equal"] spSearch := by
  refine Df.mk' a sc_search (fun vs H Q E h => ?_) (fun _ _ _ _ _ _ us hl => match us, hl with | [_, _, _, _], _ => rfl) (fun f cdv A outer s H vs Q E hr h => ?_)
  · obtain ⟨v, t, a, ns, tw, m, rfl, _⟩ := h
    rfl
  obtain ⟨v, t, a, ns, tw, m, rfl, ht, hz, ha, hn, q⟩ := h
  refine ⟨_, (pss_cons (ps_set (i := 4) sc_search.nd rfl (.inl rfl) (pe_lst pa_nil))
 (pss_cons (ps_set (i := 5) sc_search.nd rfl (.inl rfl) pe_int)
 (pss_cons (ps_set (i := 6) sc_search.nd rfl (.inl rfl) (pv 0))
 (pss_cons (ps_while PassesOwn.never (pt_cmpR op_notN (pv 6) pe_non (nomark _)) (pss_cons (ps_asg (pv 6) (pg_tup rfl (pgs_cons (pg_name (i := 7) sc_search.nd rfl (.inl rfl)) (pgs_cons (pg_name (i := 8) sc_search.nd rfl (.inl rfl)) pgs_nil))))
 (pss_cons (ps_set (i := 9) sc_search.nd rfl (.inl rfl) (pe_op op_add (pv 5) (pe_df C hr (pa_cons (pv 7) pa_nil))))
 (pss_cons (ps_expr (pe_bm PySem.F.plainAttrs_list PySem.F.slot_list_append PySem.F.type_list_append mt_append (pv 4) (pa_cons (pv 9) pa_nil)))
 (pss_cons (ps_set (i := 10) sc_search.nd rfl (.inl rfl) (pe_df T hr (pa_cons (pv 2) (pa_cons (pe_ix ix_list (pv 1) (pv 9) (fun _ _ => rfl)) (pa_cons (pv 3) pa_nil)))))
 (pss_cons (ps_if (pt_cmpR op_eq (pv 10) pe_str (nomark _)) (pss_one (ps_ret (pe_tup (pa_cons (pv 4) (pa_cons (pe_tup (pa_cons pe_str (pa_cons (pv 9) pa_nil))) pa_nil))))) pss_nil)
 (pss_one (ps_if (pt_cmpR op_eq (pv 10) pe_str (nomark _)) (pss_one (ps_set (i := 6) sc_search.nd rfl (.inl rfl) (pv 7))) (pss_cons (ps_set (i := 6) sc_search.nd rfl (.inl rfl) (pv 8))
 (pss_one (ps_set (i := 5) sc_search.nd rfl (.inl rfl) (pe_op op_add (pv 9) pe_int))))))))))))
 (pss_one (ps_ret (pe_tup (pa_cons (pv 4) (pa_cons (pe_tup (pa_cons pe_str (pa_cons (pv 5) pa_nil))) pa_nil))))))))), ?_⟩
  refine ⟨Nat.zero_le _, fun l hl => ?_⟩
  refine ⟨v, rfl, ?_⟩
  have s0 : Same H (upd H l (.lst [])) := Same.new hl
  refine ⟨fun k σ H1 => ∃ (x : V) (u : Tr) (f : Nat) (z : List Nat) (y1 y2 y3 y4 : Option V), σ = [some v, some (.ref a), some (.int tw), some (.str m.str), some (.ref l), some (.int f), some x, y1, y2, y3, y4] ∧ Same H H1 ∧ H1 l = some (.lst (z.map natV)) ∧ TrAt H x u ∧
      f + u.size ≤ t.size ∧ z.length ≤ f + (t.size - (f + u.size)) ∧ sPath (valAt ns) tw m t 0 = z ++ sPath (valAt ns) tw m u f ∧ sEnd (valAt ns) tw m t 0 = sEnd (valAt ns) tw m u f ∧ k = u.size,
    ⟨_, v, t, 0, [], none, none, none, none, rfl, s0, upd_same, ht, by omega, by show 0 ≤ _; omega, rfl, rfl, rfl⟩, fun k σ H1 hW => ?_⟩
  obtain ⟨x, u, f, z, y1, y2, y3, y4, rfl, sm, el, hx, hf, hzl, hP, hE, rfl⟩ := hW
  refine ⟨x, rfl, rfl, _, rfl, ?_⟩
  cases hx with
  | nil =>
    refine iteF ?_
    refine ⟨_, rfl, _, rfl, (by show 2 ≤ sizeLine; decide), fun e he => ⟨(by show 2 ≤ sizeLine; decide), fun p hp => ?_⟩⟩
    have s1 : Same H1 (upd H1 e (.tup [.str "gap", .int (f : Int)])) := Same.new he
    have s2 := Same.new (o := .tup [.ref l, .ref e]) hp
    refine q _ p l e (sm.trans (s1.trans s2)) upd_same hl (s2 _ _ (s1 _ _ ?_)) ⟨sm.free he, s2 _ _ ?_⟩
    · rw [el, hP]
      show _ = some (HO.lst ((z ++ []).map natV))
      rw [List.append_nil]
    · rw [hE]
      exact upd_same
  | @nod b x1 x2 t1 t2 eb h1 h2 =>
    refine iteT ⟨fun σ' H' => ∃ k', k' < (Tr.nod t1 t2).size ∧ ∃ (x : V) (u : Tr) (f : Nat) (z : List Nat) (y1 y2 y3 y4 : Option V), σ' = [some v, some (.ref a), some (.int tw), some (.str m.str), some (.ref l), some (.int f), some x, y1, y2, y3, y4] ∧ Same H H' ∧ H' l = some (.lst (z.map natV)) ∧ TrAt H x u ∧
      f + u.size ≤ t.size ∧ z.length ≤ f + (t.size - (f + u.size)) ∧ sPath (valAt ns) tw m t 0 = z ++ sPath (valAt ns) tw m u f ∧ sEnd (valAt ns) tw m t 0 = sEnd (valAt ns) tw m u f ∧ k' = u.size,
      fun σ' H' hN => hN, ?_⟩
    have hsz : (Tr.nod t1 t2).size = t1.size + 1 + t2.size := rfl
    rw [hsz] at hf hzl
    refine ⟨_, rfl, b, [x1, x2], rfl, .of (sm _ _ eb), rfl, x1, _, rfl, x2, [], rfl, rfl, ?_⟩
    refine ⟨_, rfl, x1, rfl, x1, t1, rfl, h1.same sm, by omega, fun H2 s2 => ⟨_, _, rfl, rfl, ?_⟩⟩
    refine ⟨_, rfl, .inl ⟨rfl, _, .of (s2 _ _ el)⟩, _, rfl, l, _, _, rfl, rfl, s2 _ _ el, ?_, ?_⟩
    · rw [List.length_map]
      exact small1000 (by omega)
    have sm3 : Same H (upd H2 l (.lst (z.map natV ++ [V.int ((f : Int) + (t1.size : Int))]))) := fun c o e => by
      rw [upd_ne (ne_of_none e hl)]
      exact s2 _ _ (sm _ _ e)
    have en : V.int ((f : Int) + (t1.size : Int)) = natV (f + t1.size) := congrArg V.int (by omega)
    have ez : z.map natV ++ [V.int ((f : Int) + (t1.size : Int))] = (z ++ [f + t1.size]).map natV := by
      rw [List.map_append, en]
      rfl
    refine ⟨_, rfl, _, rfl, _, rfl, a, _, _, _, rfl, rfl, .of (sm3 _ _ ha), at_of (j := f + t1.size) (by omega) (valAt_get (by omega)), _, rfl, tw, _, m, rfl, ?_⟩
    refine ⟨_, rfl, rfl, _, rfl, ?_⟩
    have uP : sPath (valAt ns) tw m (.nod t1 t2) f = (f + t1.size) :: match wayOf tw (valAt ns (f + t1.size)) m with | .fin => [] | .lft => sPath (valAt ns) tw m t1 f | .rgt => sPath (valAt ns) tw m t2 (f + t1.size + 1) := rfl
    have uE : sEnd (valAt ns) tw m (.nod t1 t2) f = match wayOf tw (valAt ns (f + t1.size)) m with | .fin => (true, f + t1.size) | .lft => sEnd (valAt ns) tw m t1 f | .rgt => sEnd (valAt ns) tw m t2 (f + t1.size + 1) := rfl
    rw [uP] at hP
    rw [uE] at hE
    have el3 : (upd H2 l (.lst (z.map natV ++ [V.int ((f : Int) + (t1.size : Int))]))) l = some (.lst ((z ++ [f + t1.size]).map natV)) := by rw [upd_same, ez]
    generalize upd H2 l (.lst (z.map natV ++ [V.int ((f : Int) + (t1.size : Int))])) = H3 at sm3 el3 ⊢
    cases ew : wayOf tw (valAt ns (f + t1.size)) m with
    | fin =>
      rw [ew] at hP hE
      refine ite_yes rfl ?_
      refine ⟨_, rfl, _, rfl, (by show 2 ≤ sizeLine; decide), fun e he => ⟨(by show 2 ≤ sizeLine; decide), fun p hp => ?_⟩⟩
      have s4 := Same.new (o := .tup [.str "found", .int ((f : Int) + (t1.size : Int))]) he
      have s5 := Same.new (o := .tup [.ref l, .ref e]) hp
      refine q _ p l e (sm3.trans (s4.trans s5)) upd_same hl (s5 _ _ (s4 _ _ ?_)) ⟨sm3.free he, s5 _ _ ?_⟩
      · rw [el3, hP]
      · rw [hE, upd_same]
        exact congrArg (fun q => some (HO.tup [V.str "found", q])) en
    | lft =>
      rw [ew] at hP hE
      refine ite_no ne_fin_lft ?_
      refine ⟨_, rfl, rfl, _, rfl, ite_yes rfl ?_⟩
      refine ⟨_, rfl, t1.size, by omega, x1, t1, f, z ++ [f + t1.size], _, _, _, _, rfl, sm3, el3, h1, by omega, ?_, ?_, hE, rfl⟩
      · rw [List.length_append, List.length_singleton]
        omega
      · rw [hP, List.append_assoc]
        rfl
    | rgt =>
      rw [ew] at hP hE
      refine ite_no ne_fin_rgt ?_
      refine ⟨_, rfl, rfl, _, rfl, ite_no ne_lft_rgt ?_⟩
      refine ⟨_, rfl, _, rfl, _, _, rfl, rfl, t2.size, by omega, x2, t2, f + t1.size + 1, z ++ [f + t1.size], some x1, some x2, some (.int ((f : Int) + (t1.size : Int))), some (.str Md.rgt.str), ?_, sm3, el3, h2, by omega, ?_, ?_, hE, rfl⟩
      · exact congrArg (fun q => [some v, some (V.ref a), some (V.int tw), some (V.str m.str), some (V.ref l), some (V.int q), some x2, some x1, some x2, some (V.int ((f : Int) + (t1.size : Int))), some (V.str Md.rgt.str)]) (by omega : (f : Int) + (t1.size : Int) + 1 = ((f + t1.size + 1 : Nat) : Int))
      · rw [List.length_append, List.length_singleton]
        omega
      · rw [hP, List.append_assoc]
        rfl
end
end HSP
namespace HSP
open PySem PySem.Spec PyProof.Rows L2
/-! ## defs that may show an object: nothing is being shown around them -/
structure FnG (P : Program) (w : World) (K : PySem.W.Frag) (mg : Str → Option Value) (base : Heap) (CX : CXT) (k : Nat) (f : Addr) (fd : FuncData) (ps : List Str) (sp : Sp) : Prop where
  len : ∀ vs H Q E, sp vs H Q E → vs.length = ps.length
  run : ∀ (A : Around) (outer : List Env) (s : Shared) (H : Hp) (args : Args) (us : List Value) (vs : List V) (Q : VK) (E : XK), A.guards = some [] → Room k A → Env0 P w K mg base A outer s H → BindsTo s fd args (ps.zip us) → Vals vs us → sp vs H Q E →
    codeAny (model P w) A (.call (.ref f) args) (CR CX outer P w H s Q E) s
section
variable {P : Program} {w : World} {K : PySem.W.Frag} {mg : Str → Option Value} {base : Heap}
theorem FnG.of {CX : CXT} {k : Nat} {f : Addr} {fd : FuncData} {ps : List Str} {sp : Sp} (F : FnOk P w K mg base CX k f fd ps sp) : FnG P w K mg base CX k f fd ps sp :=
  ⟨F.len, fun A outer s H args us vs Q E _ hr e hb hv hs => F.run A outer s H args us vs Q E hr e hb hv hs⟩
theorem FnG.mk' {CX : CXT} {x qual : Str} {st : Stmt} {f : Addr} {fd : FuncData} {N ps : List Str} {k : Nat} {sp : Sp} (F : Fun K x qual st f fd) (S : FnScope N ps (defScope st)) (len : ∀ vs H Q E, sp vs H Q E → vs.length = ps.length)
    (body : ∀ (cdv : Value) (A : Around) (outer : List Env) (s : Shared) (H : Hp) (vs : List V) (Q : VK) (E : XK), A.guards = some [] → Room k (A.deeper (envOfC qual (defScope st) s.heap.objs.size f cdv)) → sp vs H Q E →
      ∃ t, PSs (cxOf CX P w K mg base N qual (defScope st) f cdv A outer s H E) (defBody st) t ∧ t { nx := fun _ H' => Q .non H', rt := Q } (start N vs) H) : FnG P w K mg base CX (k + 1) f fd ps sp := by
  obtain ⟨oc, od, kV, doc, pm, an, cdv, ct, osl, e1, lk, hcd⟩ := F.ex
  subst e1
  refine ⟨len, fun A outer s H args us vs Q E hg hr e0 hb rv hs => ?_⟩
  have kin : K.In s.heap := e0.mod.kin.keeps fun b o e => (e0.bs b o e).1
  have nol : s.heap.NoLimit := e0.mod.nolimit.keeps fun b o e => (e0.bs b o e).1
  have kinds : ∀ y ∈ ps.zip us, (defScope st).names.lookup y.1 = some .local ∨ ((defScope st).names.lookup y.1 = some .cell ∧ ((cellsFrom (s.heap.objs.size + 1) (defScope st).names []).lookup y.1).isSome = true) := by
    intro y hy
    refine (S.par y.1 (List.of_mem_zip (a := y.1) (b := y.2) hy).1).imp id fun c => ⟨c, PySem.W.cellsFrom_some _ _ _ (.inl c)⟩
  refine codeAny_call_function hr.depth (kin _ _ lk) rfl S.co S.gen rfl (PySem.W.codeRec_of kin hcd) (hb _ _ _ _ (wpAny_newFunctionEnv_cells S.kind kinds fun env he s1 x => ?_))
  subst he
  obtain ⟨t, ht, hq⟩ := body cdv A outer s H vs Q E hg (hr.deeper _) hs
  have I := inv_start (CX := CX) (E := E) S hr.hd e0 (len _ _ _ _ hs) rv x
  refine ⟨nol.keeps x.toInCall.keep, codeAny_func (wpAny_mono (ht.run [] s1 (start N vs) H _ I hq) (fun fl s' q => ?_) fun _ _ q => q)⟩
  match fl, q with
  | .ret u, ⟨v, σ', H', J, r, q⟩ => exact ⟨v, H', J.os, J.bare, J.base, J.hok, r, q⟩
  | .next, ⟨σ', H', J, q⟩ => exact ⟨.non, H', J.os, J.bare, J.base, J.hok, rfl, q⟩
  | .brk, ⟨_, _, _, q⟩ => exact q.elim
  | .cont, ⟨_, _, _, q⟩ => exact q.elim
end
end HSP
namespace HSP
open PySem PySem.Spec PyProof.Rows L2
theorem deeper_guards (A : Around) (env : Env) : (A.deeper env).guards = A.guards := rfl
/-! ### calls of such defs -/
structure DfG (P : Program) (w : World) (K : PySem.W.Frag) (mg : Str → Option Value) (base : Heap) (x : Str) (n : Nat) (ps : List Str) (sp : Sp) : Prop where
  ex : ∃ (f : Addr) (fd : FuncData), mg x = some (.ref f) ∧ PySem.W.keepIn K (.ref f) = true ∧ Binds K fd ps [] ∧ FnG P w K mg base CX0 n f fd ps sp
section
variable {P : Program} {w : World} {K : PySem.W.Frag} {mg : Str → Option Value} {base : Heap}
theorem DfG.mk' {x : Str} {st : Stmt} {N ps : List Str} {k : Nat} {sp : Sp} (a : At K mg x st) (S : FnScope N ps (defScope st)) (len : ∀ vs H Q E, sp vs H Q E → vs.length = ps.length)
    (hb : ∀ (kV doc pm : Value) (an : Option Addr) (cdv ct : Value) (us : List Value), us.length = ps.length → bindArgs (PySem.W.fnOf x x (defArgs st) (defBody st) (defScope st) .none kV doc pm an cdv ct) ⟨us, []⟩ = pure (ps.zip us))
    (body : ∀ (f : Addr) (cdv : Value) (A : Around) (outer : List Env) (s : Shared) (H : Hp) (vs : List V) (Q : VK) (E : XK), A.guards = some [] → Room k (A.deeper (envOfC x (defScope st) s.heap.objs.size f cdv)) → sp vs H Q E →
      ∃ t, PSs (cxOf CX0 P w K mg base N x (defScope st) f cdv A outer s H E).nox (defBody st) t ∧ t { nx := fun _ H' => Q .non H', rt := Q } (start N vs) H) : DfG P w K mg base x (k + 1) ps sp := by
  obtain ⟨f, fd, hm, F⟩ := a
  refine ⟨f, fd, hm, F.kp, F.binds hb, FnG.mk' F S len fun cdv A outer s H vs Q E hg hr hs => ?_⟩
  obtain ⟨t, h1, h2⟩ := body f cdv A outer s H vs Q E hg hr hs
  exact ⟨t, h1.nox, h2⟩
end
section
variable {X : Cx} {k n : Nat} {ps ks : List Str} {sp : Sp} {x : Str} {p pos : Pos} {e : Expr} {es : List Expr} {kws : List Keyword} {t tk : TA} {f : Addr} {fd : FuncData} {ds : List Value} {dvs : List V} {g : List Value → List Value → List Value} {gV : List V → List V → List V}
theorem pe_dfG (D : DfG X.prog X.w X.K X.mg X.base x k ps sp) (hgd : X.A.guards = some []) (hr : Room k X.A) (ha : PA X (e :: es) t) (hg : Gl X x := by rfl) (hdb : (x == ("__debug__" : Str)) = false := by decide)
    (he : starEach (e :: es) X.env = (false, eval e X.env) :: starEach es X.env := by rfl) (hpl : (backTo pos (starEach es X.env)).any (·.1) = false := by rfl) : PE X (.Call (.Name x p) (e :: es) [] pos) (tCall sp [] E0 t) := by
  obtain ⟨f, fd, hm, hk, hb, F⟩ := D.ex
  refine ⟨fun pins s σ H Q I h => wpAny_Call_Name_kw (ld_glob I hg hm ?_ hdb)⟩
  refine PySem.W.callWith_K (h₀ := X.base) I.ok.mod.kin hk (thn (ha.run pos pins s σ H _ I h) fun us s1 z => ?_) he hpl
  obtain ⟨vs, H1, I1, r, q⟩ := z
  refine ⟨I1.kIn, ?_⟩
  have q' : sp vs H1 Q E0 := by
    have z : sp (vs ++ []) H1 Q E0 := q
    rw [List.append_nil] at z
    exact z
  have l1 : (us ++ []).length = ps.length := by rw [List.append_nil, ← r.length]; exact F.len _ _ _ _ q'
  have hb' := hb s1 us I1.kIn l1
  rw [List.append_nil] at hb'
  refine wpAny_call (codeAny_mono (F.run X.A X.stack s1 H1 ⟨us, []⟩ us vs Q E0 hgd hr I1.env0 hb' r q') fun res s' hq => ?_)
  match res, hq with
  | .error _, hq => exact (show False from hq).elim
  | .ok (.ret u), hq => exact I1.after hq
/-- f(k = v, ..): keywords alone -/
theorem pe_callK0 {CX : CXT} {E : XK} (F : FnOk X.prog X.w X.K X.mg X.base CX k f fd ps sp) (hr : Room k X.A) (hg : Gl X x) (hm : X.mg x = some (.ref f)) (hk : PySem.W.keepIn X.K (.ref f) = true) (hb : KBn X.K fd ps 0 ks g gV) (hx : Passes CX X E) (hkw : PK X kws tk)
    (hall : (backToKw pos (keywordEach kws X.env)).all (·.1.isSome) = true := by rfl) (hks : (backToKw pos (keywordEach kws X.env)).filterMap (·.1) = ks := by rfl) (hdb : (x == ("__debug__" : Str)) = false := by decide)
    (hpl : (backToKw pos (keywordEach kws X.env)).any (·.1.isNone) = false := by rfl) : PE X (.Call (.Name x p) [] kws pos) (tCallN 0 ks.length sp gV E tNil tk) := by
  refine ⟨fun pins s σ H Q I h => wpAny_Call_Name_kw (ld_glob I hg hm ?_ hdb)⟩
  refine PySem.W.callWith_KW0 (h₀ := X.base) I.ok.mod.kin hk hall (thn (hkw.run pos pins s σ H _ I h) fun ws s1 z => ?_) hpl
  obtain ⟨zs, H1, I1, rz, l1, l2, q⟩ := z
  rw [hks]
  exact ⟨I1.kIn, run_fnN (us := []) F hr hb hx I1 .nil rz l1 l2 q⟩
/-! ### repr of data -/
def rReprD (K : PySem.W.Frag) : List V → Hp → VK → Prop := fun vs H Q => ∃ (a : Addr) (d : PyData), vs = [.ref a] ∧ Dp K H (.ref a) d ∧ d.showable = true ∧ d.hasDict = false ∧ d.depth ≤ 60 ∧ d.shown.length ≤ sizeLine ∧ Q (.str d.shown) H
theorem cr_reprD (hgd : X.A.guards = some []) (hu : X.A.units + 64 < cLine) : CallR X (.builtin "repr") (rReprD X.K) := by
  intro pins s σ H vs us Q I r h
  obtain ⟨a, d, rfl, hd, hs, hn, h60, hz, q⟩ := h
  rw [Vals.ref1 r]
  obtain ⟨as, rd⟩ := Dp.reads I d (.ref a) (.ref a) hd rfl
  exact repr_of_reads' rd hs (fun z => by rw [hn] at z; cases z) hgd (by omega) (fun _ _ e => e) (fun h' u tk kp => ⟨.str _, H, I.kept kp, ⟨u, rfl⟩, q⟩) hz
end
end HSP
namespace HSP
open PySem PySem.Spec PyProof.Rows L2
/-! ## defs that are also called by name, the names the other way round -/
structure DfB (P : Program) (w : World) (K : PySem.W.Frag) (mg : Str → Option Value) (base : Heap) (x : Str) (n : Nat) (ps ks : List Str) (sp : Sp) : Prop where
  ex : ∃ (f : Addr) (fd : FuncData), mg x = some (.ref f) ∧ PySem.W.keepIn K (.ref f) = true ∧ Binds K fd ps [] ∧ KBn K fd ps 0 ks (fun _ ws => ws.reverse) (fun _ zs => zs.reverse) ∧ FnOk P w K mg base CX0 n f fd ps sp
section
variable {P : Program} {w : World} {K : PySem.W.Frag} {mg : Str → Option Value} {base : Heap}
theorem DfB.df {x : Str} {n : Nat} {ps ks : List Str} {sp : Sp} (D : DfB P w K mg base x n ps ks sp) : Df P w K mg base x n ps sp := by
  obtain ⟨f, fd, h1, h2, h3, _, h5⟩ := D.ex
  exact ⟨f, fd, h1, h2, h3, h5⟩
theorem Vals.rev {vs : List V} {us : List Value} (r : Vals vs us) : Vals vs.reverse us.reverse := by
  induction r with
  | nil => exact .nil
  | cons h t ih =>
    rw [List.reverse_cons, List.reverse_cons]
    exact ih.append (.cons h .nil)
theorem DfB.mk' {x : Str} {st : Stmt} {N ps ks : List Str} {k : Nat} {sp : Sp} (a : At K mg x st) (S : FnScope N ps (defScope st)) (len : ∀ vs H Q E, sp vs H Q E → vs.length = ps.length)
    (hb : ∀ (kV doc pm : Value) (an : Option Addr) (cdv ct : Value) (us : List Value), us.length = ps.length → bindArgs (PySem.W.fnOf x x (defArgs st) (defBody st) (defScope st) .none kV doc pm an cdv ct) ⟨us, []⟩ = pure (ps.zip us))
    (hk : ∀ (kV doc pm : Value) (an : Option Addr) (cdv ct : Value) (ws : List Value), ws.length = ks.length → bindArgs (PySem.W.fnOf x x (defArgs st) (defBody st) (defScope st) .none kV doc pm an cdv ct) ⟨[], ks.zip ws⟩ = pure (ps.zip ws.reverse))
    (body : ∀ (f : Addr) (cdv : Value) (A : Around) (outer : List Env) (s : Shared) (H : Hp) (vs : List V) (Q : VK) (E : XK), Room k (A.deeper (envOfC x (defScope st) s.heap.objs.size f cdv)) → sp vs H Q E →
      ∃ t, PSs (cxOf CX0 P w K mg base N x (defScope st) f cdv A outer s H E).nox (defBody st) t ∧ t { nx := fun _ H' => Q .non H', rt := Q } (start N vs) H) : DfB P w K mg base x (k + 1) ps ks sp := by
  obtain ⟨f, fd, hm, F⟩ := a
  refine ⟨f, fd, hm, F.kp, F.binds hb, ⟨fun s us ws _ h1 h2 => ?_, fun _ r => HSP.Vals.rev r⟩, F.ok S len (body f)⟩
  obtain ⟨oc, od, kV, doc, pm, an, cdv, ct, osl, rfl, _⟩ := F.ex
  rw [List.length_eq_zero_iff.mp h1]
  exact .of_eq (hk kV doc pm an cdv ct ws h2)
end
section
variable {X : Cx} {k : Nat} {ps ks : List Str} {sp : Sp} {x : Str} {p pos : Pos} {kws : List Keyword} {tk : TA}
theorem pe_dfK (D : DfB X.prog X.w X.K X.mg X.base x k ps ks sp) (hr : Room k X.A) (hkw : PK X kws tk) (hg : Gl X x := by rfl) (hall : (backToKw pos (keywordEach kws X.env)).all (·.1.isSome) = true := by rfl) (hks : (backToKw pos (keywordEach kws X.env)).filterMap (·.1) = ks := by rfl)
    (hdb : (x == ("__debug__" : Str)) = false := by decide) (hpl : (backToKw pos (keywordEach kws X.env)).any (·.1.isNone) = false := by rfl) : PE X (.Call (.Name x p) [] kws pos) (tCallN 0 ks.length sp (fun _ zs => zs.reverse) E0 tNil tk) := by
  obtain ⟨f, fd, hm, hk, _, kb, F⟩ := D.ex
  exact pe_callK0 F hr hg hm hk kb pass0 hkw hall hks hdb hpl
end
end HSP
namespace HSP
open PySem PySem.Spec PyProof.Rows L2
section
variable {P : Program} {w : World} {K : PySem.W.Frag} {mg : Str → Option Value} {base : Heap}
/-! ### find, looked, also by name -/
theorem sc_find : FnScope n_find ["tree", "values", "twice"] (defScope s_find) := ⟨rfl, rfl, rfl, by decide +kernel, rfl, by decide +kernel, by decide +kernel⟩
def spFind : Sp := fun vs H Q _ => ∃ (v : V) (t : Tr) (a : Addr) (ns : List Int) (tw : Int), vs = [v, .ref a, .int tw] ∧ TrAt H v t ∧ t.size ≤ 1000 ∧ H a = some (.lst (ns.map V.int)) ∧ ns.length = t.size ∧
  ∀ (H' : Hp) (e : Addr), Same H H' → Ended H H' e (sEnd (valAt ns) tw .fin t 0) → Q (.ref e) H'
theorem okB_find (C : Df P w K mg base "check_values" 3 ["tree", "values"] spChkV) (S : Df P w K mg base "search" 2 ["tree", "values", "twice", "at_equal"] spSearch) (a : At K mg "find" s_find) :
    DfB P w K mg base "find" 4 ["tree", "values", "twice"] ["twice", "values", "tree"] spFind := by
  refine DfB.mk' a sc_find (fun vs H Q E h => ?_) (fun _ _ _ _ _ _ us hl => match us, hl with | [_, _, _], _ => rfl) (fun _ _ _ _ _ _ us hl => match us, hl with | [_, _, _], _ => rfl) (fun f cdv A outer s H vs Q E hr h => ?_)
  · obtain ⟨v, t, a, ns, tw, rfl, _⟩ := h
    rfl
  obtain ⟨v, t, a, ns, tw, rfl, ht, hz, ha, hn, q⟩ := h
  refine ⟨_, (pss_cons (ps_expr (pe_df C hr (pa_cons (pv 0) (pa_cons (pv 1) pa_nil))))
 (pss_cons (ps_asg (pe_df S (hr.mono (by decide)) (pa_cons (pv 0) (pa_cons (pv 1) (pa_cons (pv 2) (pa_cons pe_str pa_nil))))) (pg_tup rfl (pgs_cons (pg_name (i := 3) sc_find.nd rfl (.inl rfl)) (pgs_cons (pg_name (i := 4) sc_find.nd rfl (.inl rfl)) pgs_nil))))
 (pss_one (ps_ret (pv 4))))), ?_⟩
  refine ⟨v, rfl, _, rfl, v, t, a, ns, rfl, ht, hz, ha, hn, fun H1 s1 => ?_⟩
  refine ⟨v, rfl, _, rfl, _, rfl, v, t, a, ns, tw, .fin, rfl, ht.same s1, hz, s1 _ _ ha, hn, fun H2 p n e s2 ep hn2 en ee => ?_⟩
  refine ⟨p, _, rfl, .of ep, rfl, _, _, rfl, _, [], rfl, rfl, ?_⟩
  exact ⟨_, rfl, q H2 e (s1.trans s2) ⟨s1.free ee.1, ee.2⟩⟩
end
end HSP
namespace HSP
open PySem PySem.Spec PyProof.Rows L2
section
variable {P : Program} {w : World} {K : PySem.W.Frag} {mg : Str → Option Value} {base : Heap}
/-! ### looked -/
theorem sc_looked : FnScope n_looked ["tree", "values", "twice"] (defScope s_looked) := ⟨rfl, rfl, rfl, by decide +kernel, rfl, by decide +kernel, by decide +kernel⟩
def spLooked : Sp := fun vs H Q _ => ∃ (v : V) (t : Tr) (a : Addr) (ns : List Int) (tw : Int), vs = [v, .ref a, .int tw] ∧ TrAt H v t ∧ t.size ≤ 1000 ∧ H a = some (.lst (ns.map V.int)) ∧ ns.length = t.size ∧
  ∀ (H' : Hp) (n : Addr), Same H H' → H n = none → H' n = some (.lst ((sPath (valAt ns) tw .fin t 0).map natV)) → Q (.ref n) H'
theorem okB_looked (C : Df P w K mg base "check_values" 3 ["tree", "values"] spChkV) (S : Df P w K mg base "search" 2 ["tree", "values", "twice", "at_equal"] spSearch) (a : At K mg "looked" s_looked) :
    DfB P w K mg base "looked" 4 ["tree", "values", "twice"] ["twice", "values", "tree"] spLooked := by
  refine DfB.mk' a sc_looked (fun vs H Q E h => ?_) (fun _ _ _ _ _ _ us hl => match us, hl with | [_, _, _], _ => rfl) (fun _ _ _ _ _ _ us hl => match us, hl with | [_, _, _], _ => rfl) (fun f cdv A outer s H vs Q E hr h => ?_)
  · obtain ⟨v, t, a, ns, tw, rfl, _⟩ := h
    rfl
  obtain ⟨v, t, a, ns, tw, rfl, ht, hz, ha, hn, q⟩ := h
  refine ⟨_, (pss_cons (ps_expr (pe_df C hr (pa_cons (pv 0) (pa_cons (pv 1) pa_nil))))
 (pss_cons (ps_asg (pe_df S (hr.mono (by decide)) (pa_cons (pv 0) (pa_cons (pv 1) (pa_cons (pv 2) (pa_cons pe_str pa_nil))))) (pg_tup rfl (pgs_cons (pg_name (i := 3) sc_looked.nd rfl (.inl rfl)) (pgs_cons (pg_name (i := 4) sc_looked.nd rfl (.inl rfl)) pgs_nil))))
 (pss_one (ps_ret (pv 3))))), ?_⟩
  refine ⟨v, rfl, _, rfl, v, t, a, ns, rfl, ht, hz, ha, hn, fun H1 s1 => ?_⟩
  refine ⟨v, rfl, _, rfl, _, rfl, v, t, a, ns, tw, .fin, rfl, ht.same s1, hz, s1 _ _ ha, hn, fun H2 p n e s2 ep hn2 en ee => ?_⟩
  refine ⟨p, _, rfl, .of ep, rfl, _, _, rfl, _, [], rfl, rfl, ?_⟩
  exact ⟨_, rfl, q H2 n (s1.trans s2) (s1.free hn2) en⟩
end
end HSP
namespace HSP
open PySem PySem.Spec PyProof.Rows L2
/-! ## sum(rows, start): lists put behind one another -/
/-- a list object with these items -/
def LO (its : List Value) (n : Nat) : Obj := { cls := .type "list", data := .seq its.toArray n }
section
variable {prog : Program} {w : World} {A : Around}
theorem sumL_loop {I S : Addr} {fp wr : List Addr} {n : Nat} {Pv : Nat → Value → Prop} {St : Nat → Heap → Prop} (W : Walks prog w A.in1 I fp wr n Pv St) (hS : S ∉ fp) (row : Nat → Addr) (part : Nat → List Value) (hv : ∀ i v, Pv i v → v = .ref (row i)) (R : Result → Shared → Prop)
    (most : Nat) (hmost : most ≤ sizeLine) (hfp : ∀ i h, St i h → ∀ b ∈ fp, b < h.objs.size) :
    ∀ (k i : Nat) (s : Shared) (T : Addr) (acc : List Value) (c cT : Nat), n - i = k → i ≤ n → St i s.heap → s.heap.get? S = some (LO [.ref T] c) → s.heap.get? T = some (LO acc cT) → T ≠ S → T ∉ wr →
      (∀ j, j < n → row j ≠ S ∧ row j ∉ wr ∧ ∃ m, s.heap.get? (row j) = some (LO (part j) m)) → acc.length + (((List.range n).drop i).map fun j => (part j).length).sum ≤ most →
      (∀ (s' : Shared) (T' : Addr) (c' : Nat), (∀ b o, b ∉ wr → b ≠ S → s.heap.get? b = some o → s'.heap.get? b = some o) → s'.gens = s.gens → s'.drawn = s.drawn → s'.os = s.os →
        s'.heap.get? T' = some (LO (acc ++ (((List.range n).drop i).map part).flatten) c') → T' ≠ S → T' ∉ wr → (i = n ∧ T' = T ∨ s.heap.get? T' = none) → R (.ok (.ret (.ref T'))) s') →
      codeAny (model prog w) A (.builtin "sum.loop" ⟨[.ref I, .ref S, rawInt 2, rawInt 0], []⟩) R s := by
  have hSw : S ∉ wr := fun h => hS (W.sub _ h)
  intro k
  induction k with
  | zero =>
    intro i s T acc c cT hk hi hst eS eT nTS nTw rows hz hR
    obtain rfl : i = n := by omega
    refine codeAny_builtin F.entry_sum_loop ?_
    rw [Around.under_plainId F.plain_sum_loop _]
    show wpAny _ A.in1 (seqItems? (.ref S) >>= _) _ _ s
    refine wpAny_bind (wpAny_seqItems eS rfl (wpAny_bind (wpAny_tryCatch (W.done s _ _ hst fun h' tk kp => ?_))))
    have e0 : ((List.range i).drop i) = [] := List.drop_eq_nil_of_le (by rw [List.length_range]; exact Nat.le_refl _)
    refine wpAny_pure (hR { s with heap := h', toks := tk } T cT (fun b o n1 _ e => kp b o n1 e) rfl rfl rfl ?_ nTS nTw (.inl ⟨rfl, rfl⟩))
    rw [e0, List.map_nil, List.flatten_nil, List.append_nil]
    exact kp T _ nTw eT
  | succ k ih =>
    intro i s T acc c cT hk hi hst eS eT nTS nTw rows hz hR
    have hlt : i < n := by omega
    have ed : (List.range n).drop i = i :: (List.range n).drop (i + 1) := by
      have q := List.drop_eq_getElem_cons (l := List.range n) (i := i) (by rw [List.length_range]; exact hlt)
      rw [List.getElem_range] at q
      exact q
    rw [ed, List.map_cons, List.sum_cons] at hz
    refine codeAny_builtin F.entry_sum_loop ?_
    rw [Around.under_plainId F.plain_sum_loop _]
    show wpAny _ A.in1 (seqItems? (.ref S) >>= _) _ _ s
    refine wpAny_bind (wpAny_seqItems eS rfl (wpAny_bind (wpAny_tryCatch (W.item i s _ _ hlt hst fun v h1 tk hp hst1 kp => ?_))))
    obtain rfl := hv i v hp
    obtain ⟨nrS, nrw, m, er⟩ := rows i hlt
    have eS1 := kp S _ hSw eS
    have eT1 := kp T _ nTw eT
    have er1 := kp (row i) _ nrw er
    show wpAny _ A.in1 ((holding [Value.ref (row i)] (binaryOp .Add (.ref T) (.ref (row i)))).attempt >>= _) _ _ _
    refine wpAny_bind (wpAny_attempt (wpAny_holding (PySem.P.add_list eT1 er1 ?_ (by rw [List.size_toArray, List.size_toArray]; omega))))
    dsimp only
    have z1 : h1.objs.size ≠ S := fun z => by
      have q : S < h1.objs.size := Heap.lt_size eS1
      rw [z] at q
      exact Nat.lt_irrefl _ q
    have eS2 := Heap.get?_push_of_some ({ cls := .type "list", data := .seq (acc.toArray ++ (part i).toArray) } : Obj) eS1
    refine wpAny_bind (wpAny_updateSeq eS2 rfl ?_)
    have eS3 := Heap.get?_update_self (Obj.mapSeq fun _ => #[Value.ref h1.objs.size]) eS2 rfl
    refine wpAny_bind (wpAny_letGo (wpAny_bind (wpAny_updateSeq eS3 rfl ?_)))
    have eS4 := Heap.get?_update_self (Obj.mapSeq fun _ => #[Value.ref h1.objs.size]) eS3 rfl
    have kk : ∀ b o, b ≠ S → h1.get? b = some o → (((h1.push ({ cls := .type "list", data := .seq (acc.toArray ++ (part i).toArray) } : Obj)).update S (Obj.mapSeq fun _ => #[Value.ref h1.objs.size])).update S (Obj.mapSeq fun _ => #[Value.ref h1.objs.size])).get? b = some o := fun b o nb e =>
      (Heap.get?_update_other _ _ (Ne.symm nb)).trans ((Heap.get?_update_other _ _ (Ne.symm nb)).trans (Heap.get?_push_of_some _ e))
    have eN : (((h1.push ({ cls := .type "list", data := .seq (acc.toArray ++ (part i).toArray) } : Obj)).update S (Obj.mapSeq fun _ => #[Value.ref h1.objs.size])).update S (Obj.mapSeq fun _ => #[Value.ref h1.objs.size])).get? h1.objs.size = some (LO (acc ++ part i) 0) := by
      rw [Heap.get?_update_other _ _ (Ne.symm z1), Heap.get?_update_other _ _ (Ne.symm z1), Heap.get?_push_size _ rfl]
      unfold LO
      rw [List.append_toArray]
    refine wpAny_pure ⟨plainId_quiet F.plain_sum_loop _, ih (i + 1) _ h1.objs.size (acc ++ part i) _ 0 (by omega) hlt (W.frame _ _ _ hst1 fun b hb o e => kk b o (fun z => hS (z ▸ hb)) e) eS4 eN z1 (fun z => Nat.lt_irrefl _ (hfp _ _ hst1 _ (W.sub _ z))) (fun j hj => ?_) ?_ fun s' T' c' kp' g' d' o' e' m1 m2 m3 => ?_⟩
    · obtain ⟨n1, n2, m', e1⟩ := rows j hj
      exact ⟨n1, n2, m', kk _ _ n1 (kp _ _ n2 e1)⟩
    · rw [List.length_append]
      omega
    · refine hR s' T' c' (fun b o n1 n2 e => kp' b o n1 n2 (kk b o n2 (kp b o n1 e))) g' d' o' ?_ m1 m2 (.inr ?_)
      · rw [e', ed, List.map_cons, List.flatten_cons, List.append_assoc]
      · cases eo : s.heap.get? T' with
        | none => rfl
        | some o =>
          have e1 := kp T' o m2 eo
          rcases m3 with ⟨_, z⟩ | z
          · rw [z] at e1
            exact absurd (Heap.lt_size e1) (Nat.lt_irrefl _)
          · rw [kk T' o m1 e1] at z
            cases z
end
section
variable {prog : Program} {w : World} {A : Around} {E : Value → Shared → Prop} {s : Shared}
theorem args_sum2 (a b : Value) : argsOk "sum" ⟨[a, b], []⟩ := by
  unfold argsOk
  kernel_rfl
theorem sumL_call {l s0 : Addr} {rows : List Addr} {lits : List Value} {nl n0 : Nat} {parts : Nat → List Value} {acc : List Value} {Q : Value → Shared → Prop} (hh : A.handled = none)
    (el : s.heap.get? l = some (LO lits nl)) (hl : lits = rows.map Value.ref) (e0 : s.heap.get? s0 = some (LO acc n0)) (hr : ∀ j (h : j < rows.length), ∃ m, s.heap.get? rows[j] = some (LO (parts j) m))
    (hz : acc.length + ((List.range rows.length).map fun j => (parts j).length).sum ≤ sizeLine)
    (h : ∀ (s' : Shared) (T : Addr) (c : Nat), (∀ b o, s.heap.get? b = some o → s'.heap.get? b = some o) → s'.gens = s.gens → s'.os = s.os → s'.heap.get? T = some (LO (acc ++ ((List.range rows.length).map parts).flatten) c) → (rows = [] ∧ T = s0 ∨ s.heap.get? T = none) → Q (.ref T) s') :
    wpAny (model prog w) A (call (.builtin "sum") [.ref l, .ref s0]) Q E s := by
  have hlen : lits.toArray.size = rows.length := by rw [hl, List.size_toArray, List.length_map]
  refine call_function_tree F.kind_sum F.plain_sum F.entry_sum (args_sum2 _ _) ?_
  unfold Builtin.«sum»
  simp only [List.length_cons, List.length_nil]
  rw [if_neg (by decide)]
  refine wpAny_bind (wpAny_of_eq (show Builtin.Builtins.bindParams "sum" ["start"] 0 ⟨[.ref s0], []⟩ = pure [some (.ref s0)] from rfl) ?_)
  have hL : s.heap.IsList l lits.toArray := ⟨_, el, rfl, nl, rfl⟩
  refine wpAny_bind (wpAny_pyIter_list hL ?_)
  have lt1 : l < s.heap.objs.size := Heap.lt_size el
  have lt0 : s0 < s.heap.objs.size := Heap.lt_size e0
  have e1 := Heap.get?_push_of_some ({ cls := .type "list_iterator", data := .fields #[.ref l, .int 0 0] } : Obj) e0
  have tL : Shared.TypeIs { s with heap := s.heap.push { cls := .type "list_iterator", data := .fields #[.ref l, .int 0 0] } } (.ref s0) "list" := ⟨_, e1, rfl⟩
  refine wpAny_bind (wpAny_pure ?_)
  simp only [List.forIn_cons, List.forIn_nil]
  refine wpAny_bind (wpAny_bind (wpAny_bind (wpAny_isInstance (T := "list") (b := false) tL PySem.F.sub_list_str ?_)))
  simp only [Bool.false_eq_true, if_false]
  refine wpAny_pure (wpAny_bind (wpAny_bind (wpAny_isInstance (T := "list") (b := false) tL PySem.F.sub_list_bytes ?_)))
  simp only [Bool.false_eq_true, if_false]
  refine wpAny_pure (wpAny_bind (wpAny_bind (wpAny_isInstance (T := "list") (b := false) tL PySem.F.sub_list_bytearray ?_)))
  simp only [Bool.false_eq_true, if_false]
  refine wpAny_pure (wpAny_pure (wpAny_bind (wpAny_newObj_type ?_)))
  have sz1 : (s.heap.push ({ cls := .type "list_iterator", data := .fields #[.ref l, .int 0 0] } : Obj)).objs.size = s.heap.objs.size + 1 := Heap.size_push ..
  have nlI : l ≠ s.heap.objs.size := Nat.ne_of_lt lt1
  have kp : ∀ b o, s.heap.get? b = some o → ((s.heap.push ({ cls := .type "list_iterator", data := .fields #[.ref l, .int 0 0] } : Obj)).push (LO [.ref s0] 0)).get? b = some o := fun b o e => Heap.get?_push_of_some _ (Heap.get?_push_of_some _ e)
  refine wpAny_pure ⟨plainId_quiet F.plain_sum_loop _, sumL_loop (Walks.list (A := A.in1) (by simp [hh]) s.heap.objs.size l nlI lits.toArray) (S := (s.heap.push ({ cls := .type "list_iterator", data := .fields #[.ref l, .int 0 0] } : Obj)).objs.size) ?_ (fun j => rows.getD j 0) parts ?_ _ sizeLine (Nat.le_refl _) ?_
    (rows.length - 0) 0 _ s0 acc 0 n0 (by rw [hlen]) (Nat.zero_le _) ⟨⟨_, Heap.get?_push_of_some _ (Heap.get?_push_size _ rfl), rfl, rfl⟩, (hL.push _).push _⟩ ?_ (kp _ _ e0) (by rw [sz1]; exact Nat.ne_of_lt (Nat.lt_succ_of_lt lt0)) ?_ ?_ ?_ ?_⟩
  · rw [sz1]
    intro z
    rcases List.mem_cons.mp z with z | z
    · exact absurd z (Nat.ne_of_gt (Nat.lt_succ_self _))
    · exact absurd (List.mem_singleton.mp z) (Nat.ne_of_gt (Nat.lt_succ_of_lt lt1))
  · intro i v hv
    rw [List.getElem?_toArray, hl, List.getElem?_map] at hv
    cases hr2 : rows[i]? with
    | none => rw [hr2] at hv; cases hv
    | some b =>
      rw [hr2] at hv
      cases hv
      rw [List.getD_eq_getElem?_getD, hr2]
      rfl
  · intro i h st b hb
    rcases List.mem_cons.mp hb with z | z
    · obtain ⟨⟨o, ho, _⟩, _⟩ := st
      rw [z]
      exact Heap.lt_size ho
    · obtain ⟨_, ⟨o, ho, _⟩⟩ := st
      rw [List.mem_singleton.mp z]
      exact Heap.lt_size ho
  · exact Heap.get?_push_size _ rfl
  · intro z
    exact absurd (List.mem_singleton.mp z) (Nat.ne_of_lt lt0)
  · intro j hj
    rw [hlen] at hj
    obtain ⟨m, e⟩ := hr j hj
    have eg : rows.getD j 0 = rows[j] := by
      rw [List.getD_eq_getElem?_getD, List.getElem?_eq_getElem hj]
      rfl
    have lt2 : rows[j] < s.heap.objs.size := Heap.lt_size e
    refine ⟨?_, ?_, m, ?_⟩
    · rw [eg, sz1]; exact Nat.ne_of_lt (Nat.lt_succ_of_lt lt2)
    · rw [eg]; exact fun z => absurd (List.mem_singleton.mp z) (Nat.ne_of_lt lt2)
    · rw [eg]; exact kp _ _ e
  · rw [hlen, List.drop_zero]
    exact hz
  · intro s' T' c' k1 g1 d1 o1 e' m1 m2 m3
    rw [hlen, List.drop_zero] at e'
    refine h s' T' c' (fun b o e => ?_) g1 o1 e' (m3.imp (fun z => ⟨List.eq_nil_of_length_eq_zero (by rw [← hlen]; exact z.1.symm), z.2⟩) fun z => ?_)
    rotate_left
    · cases eo : s.heap.get? T' with
      | none => rfl
      | some o =>
        cases (kp _ _ eo).symm.trans z
    have lt3 : b < s.heap.objs.size := Heap.lt_size e
    exact k1 b o (fun z => absurd (List.mem_singleton.mp z) (Nat.ne_of_lt lt3)) (by rw [sz1]; exact Nat.ne_of_lt (Nat.lt_succ_of_lt lt3)) (kp _ _ e)
end
section
variable {X : Cx}
/-- sum(a list of lists of ints, a list of ints) -/
def rSumL (K : PySem.W.Frag) : List V → Hp → VK → Prop := fun vs H Q => ∃ (a b : Addr) (rows : List Addr) (parts : List (List Int)) (ms : List Int), vs = [V.ref a, V.ref b] ∧ H a = some (.lst (rows.map V.ref)) ∧ H b = some (.lst (ms.map V.int)) ∧
  Paired (fun r ns => H r = some (.lst (ns.map V.int))) rows parts ∧ ms.length + parts.flatten.length ≤ sizeLine ∧ ∀ (H' : Hp) (p : Addr), Same H H' → H' p = some (.lst ((ms ++ parts.flatten).map V.int)) → Q (.ref p) H'
theorem refs_of : ∀ {rows : List Addr} {its : List Value}, Vals (rows.map V.ref) its → its = rows.map Value.ref
  | [], _, .nil => rfl
  | a :: r, _, .cons q t => by rw [List.map_cons, ← refs_of t, (show _ = Value.ref a from q)]
theorem Paired.at' {α β : Type} {R : α → β → Prop} : ∀ {l : List α} {m : List β}, Paired R l m → ∀ j (h : j < l.length) (h' : j < m.length), R l[j] m[j]
  | _, _, .cons q _, 0, _, _ => q
  | _, _, .cons _ t, j + 1, h, h' => Paired.at' t j (Nat.lt_of_succ_lt_succ h) (Nat.lt_of_succ_lt_succ h')
theorem range_map {α β : Type} (f : α → β) (d : α) : ∀ l : List α, (List.range l.length).map (fun j => f (l.getD j d)) = l.map f := by
  intro l
  apply List.ext_getElem
  · rw [List.length_map, List.length_map, List.length_range]
  · intro i h1 h2
    rw [List.length_map] at h2
    rw [List.getElem_map, List.getElem_map, List.getElem_range, List.getD_eq_getElem?_getD, List.getElem?_eq_getElem h2]
    rfl
theorem rows_of {P : Program} {w : World} {H : Hp} {h : Heap} (ok : HOk P w H h) : ∀ {rows : List Addr} {parts : List (List Int)}, Paired (fun r ns => H r = some (.lst (ns.map V.int))) rows parts →
    ∃ pits : List (List Value), pits.length = rows.length ∧ (∀ j (hj : j < rows.length), ∃ m, h.get? rows[j] = some (LO (pits.getD j []) m)) ∧ Vals (parts.flatten.map V.int) pits.flatten ∧ (pits.map List.length).sum = parts.flatten.length
  | [], [], .nil => ⟨[], rfl, fun j hj => absurd hj (Nat.not_lt_zero j), .nil, rfl⟩
  | r :: rows, ns :: parts, .cons e t => by
    obtain ⟨pits, h1, h2, h3, h4⟩ := rows_of ok t
    obtain ⟨z, its, n, v, g⟩ : ObjOk P w H h r (.lst (ns.map V.int)) := ok r _ e
    refine ⟨its :: pits, by rw [List.length_cons, h1, List.length_cons], fun j hj => ?_, ?_, ?_⟩
    · cases j with
      | zero => exact ⟨n, g⟩
      | succ j => exact h2 j (Nat.lt_of_succ_lt_succ hj)
    · rw [List.flatten_cons, List.map_append, List.flatten_cons]
      exact v.append h3
    · rw [List.map_cons, List.sum_cons, h4, List.flatten_cons, List.length_append, ← v.length, List.length_map]
theorem cr_sumL (hc : X.calm = true) : CallR X (.builtin "sum") (rSumL X.K) := by
  intro pins s σ H vs us Q I r h
  obtain ⟨a, b, rows, parts, ms, rfl, ha, hb, hp, hz, q⟩ := h
  cases r with
  | cons r1 t1 =>
    cases t1 with
    | cons r2 t2 =>
      cases t2
      cases r1
      cases r2
      obtain ⟨za, its, n, va, ea⟩ : ObjOk X.prog X.w H s.heap a (.lst (rows.map V.ref)) := I.hok a _ ha
      obtain ⟨zb, it0, n0, vb, eb⟩ : ObjOk X.prog X.w H s.heap b (.lst (ms.map V.int)) := I.hok b _ hb
      obtain ⟨pits, hl2, hg2, hv2, hn2⟩ := rows_of I.hok hp
      have e1 : (List.range rows.length).map (fun j => pits.getD j []) = pits := by
        have q := range_map (fun x : List Value => x) [] pits
        rw [List.map_id', hl2] at q
        exact q
      have e2 : ((List.range rows.length).map fun j => (pits.getD j []).length).sum = parts.flatten.length := by
        have q := range_map (fun x : List Value => x.length) [] pits
        rw [hl2] at q
        rw [q, hn2]
      refine sumL_call (I.ok.hd hc) (lits := its) (acc := it0) (parts := fun j => pits.getD j []) ea (refs_of va) eb hg2 (by rw [e2, ← vb.length, List.length_map]; exact hz) fun s' T c kp hg ho hT hw => ?_
      rw [e1] at hT
      have hvals : Vals ((ms ++ parts.flatten).map V.int) (it0 ++ pits.flatten) := by
        rw [List.map_append]
        exact vb.append hv2
      rcases hw with ⟨z1, z2⟩ | hnew
      · subst z1
        cases hp
        refine ⟨.ref T, H, I.call' (ch := []) ho (Un.kept kp) (I.hok.kept kp) (by rw [hg]; exact I.bare) (fun _ z => nomatch z), rfl, q H T (Same.refl H) ?_⟩
        rw [z2, hb, List.flatten_nil, List.append_nil]
      · have hn : H T = none := by
          cases eo : H T with
          | none => rfl
          | some o =>
            obtain ⟨u, hu⟩ := objOk_get (I.hok T o eo)
            rw [hnew] at hu
            cases hu
        refine ⟨.ref T, upd H T (.lst ((ms ++ parts.flatten).map V.int)), I.call' (ch := []) ho (Un.laidN kp hnew hn) (I.hok.laidN kp hn ⟨?_, _, c, hvals, hT⟩) (by rw [hg]; exact I.bare) (fun _ z => nomatch z), rfl, q _ T (Same.new hn) upd_same⟩
        rw [List.length_map, List.length_append]
        exact hz
end
end HSP
namespace HSP
open PySem PySem.Spec PyProof.Rows L2
/-! ## set(a list of ints) -/
/-- a set that was just made, as the world bears it -/
abbrev nSet (w : World) : Obj := { cls := .type "set", dict := none, data := .set #[] 0 (.fresh 0 0 (!w.params.followText "set-order")) }
abbrev nIt (l : Addr) : Obj := { cls := .type "list_iterator", data := .fields #[.ref l, .int 0 0] }
section
variable {P : Program} {w : World} {A : Around} {E : Value → Shared → Prop} {s : Shared}
/-- what the filling of the new set leaves -/
def Filled (w : World) (s : Shared) (ns : List Int) (v : Value) (s2 : Shared) : Prop :=
  v = .none ∧ ∃ (h2 : Heap) (tk c : Nat), s2 = { s with heap := h2, toks := tk } ∧ SetR w h2 s.heap.objs.size (fun j => decide (j ∈ ns)) c ∧ c ≤ ns.length ∧ ∀ b o, s.heap.get? b = some o → h2.get? b = some o
theorem setL_fill {l : Addr} {items : Array Value} {nl : Nat} {dd : Option Addr} {sl : Array (Option Value)} (ns : List Int) (hh : A.handled = none) (el : s.heap.get? l = some { cls := .type "list", dict := dd, data := .seq items nl, slots := sl }) (hi : IntsAre items.toList ns) (hb : ns.length + 1 < scanBound) :
    codeAny (model P w) A (.call (.builtin "set.__init__") ⟨[.ref s.heap.objs.size, .ref l], []⟩) (wants (Filled w s ns) E) { s with heap := s.heap.push (nSet w) } := by
  have many : items.size = ns.length := by rw [← Array.length_toList]; exact IntsAre.length hi
  have lS : l < s.heap.objs.size := Heap.lt_size el
  have sz : (s.heap.push (nSet w)).objs.size = s.heap.objs.size + 1 := Heap.size_push ..
  have gS : (s.heap.push (nSet w)).get? s.heap.objs.size = some (nSet w) := Heap.get?_push_size _ rfl
  have el1 := Heap.get?_push_of_some (nSet w) el
  have isL : (s.heap.push (nSet w)).IsList l items := ⟨_, el1, rfl, nl, rfl⟩
  refine codeAny_call_builtin F.called_set.init.plain F.entry_set_init (check_set_init_1 ⟨_, gS, rfl⟩ ?_)
  have t1 := F.sub_list_set
  have t2 := F.sub_list_frozenset
  have t3 : (Value.type "list" == Value.type "dict") = false := by decide
  unfold Builtin.«set.__init__» noKeywords Builtin.Frozenset.updateFrom
  generalize hPI : pyIter = PI
  wp_walk
  subst hPI
  refine wpAny_pyIter_list isL (wpAny_bind (wpAny_runValue ?_))
  have nlI : l ≠ (s.heap.push (nSet w)).objs.size := by rw [sz]; exact Nat.ne_of_lt (Nat.lt_succ_of_lt lS)
  have offS : s.heap.objs.size ∉ [(s.heap.push (nSet w)).objs.size, l] := fun z => by
    rw [sz] at z
    rcases List.mem_cons.mp z with z | z
    · exact absurd z (Nat.ne_of_lt (Nat.lt_succ_self _))
    · exact absurd (List.mem_singleton.mp z) (Nat.ne_of_gt lS)
  have vals : ∀ (i : Nat) (v : Value), items[i]? = some v → ∃ k t, ns[i]? = some k ∧ v = .int k t := fun i v hv => by
    have lt : i < ns.length := by rw [← many]; exact (Array.getElem?_eq_some_iff.mp hv).1
    obtain ⟨t, e⟩ := IntsAre.int_at hi i v (by rw [Array.getElem?_toList]; exact hv)
    have eg : ns.getD i 0 = ns[i] := by rw [List.getD_eq_getElem?_getD, List.getElem?_eq_getElem lt]; rfl
    exact ⟨ns[i], t, List.getElem?_eq_getElem lt, by rw [e, eg]⟩
  refine set_update_ints (Walks.list (A := A.in1.in1) (by simp [hh]) _ l nlI items).toS s.heap.objs.size offS ns many hb vals (items.size - 0) 0 _ rfl (Nat.zero_le _) ?st ?new fun s2 c hm hc hR => ?_
  case st => exact ⟨⟨_, Heap.get?_push_size _ rfl, rfl, rfl⟩, isL.push _⟩
  case new => exact ⟨0, Nat.le_refl 0, setR_new_at (w := w) (show ((s.heap.push (nSet w)).push (nIt l)).get? s.heap.objs.size = some (nSet w) from Heap.get?_push_of_some _ gS)⟩
  obtain ⟨h2, g2, d2, tk2, os2⟩ := s2
  obtain rfl : g2 = s.gens := hm.gens
  obtain rfl : d2 = s.drawn := hm.drawn
  obtain rfl : os2 = s.os := hm.os
  rw [many] at hc
  refine wpAny_pure (wpAny_pure ⟨rfl, h2, tk2, c, rfl, hR, hc, fun b o e => ?_⟩)
  have bS : b < s.heap.objs.size := Heap.lt_size e
  refine hm.heap b o (fun z => ?_) (Heap.get?_push_of_some _ (Heap.get?_push_of_some _ e))
  rcases List.mem_cons.mp z with z | z
  · exact absurd z (Nat.ne_of_lt bS)
  · have z' := List.mem_singleton.mp z
    rw [sz] at z'
    exact absurd z' (Nat.ne_of_lt (Nat.lt_succ_of_lt bS))
theorem setL_call {l : Addr} {items : Array Value} {nl : Nat} {dd : Option Addr} {sl : Array (Option Value)} (ns : List Int) {Q : Value → Shared → Prop} (hh : A.handled = none) (el : s.heap.get? l = some { cls := .type "list", dict := dd, data := .seq items nl, slots := sl }) (hi : IntsAre items.toList ns) (hb : ns.length + 1 < scanBound)
    (h : ∀ s2, Filled w s ns .none s2 → Q (.ref s.heap.objs.size) s2) : wpAny (model P w) A (call (.type "set") [.ref l]) Q E s := by
  obtain ⟨cl, tl, f1⟩ := F.called_set.mro
  have f2 := F.called_set.made
  have f3 := F.called_set.sub
  have f4 := F.called_set.notType
  have f5 := F.called_set.canCreate
  have f6 := F.typeCall_set_1 (.ref l)
  refine wpAny_call (codeAny_of_tree (show wpAny _ _ (callAny (.type "set") _) _ _ _ from wpAny_pure ⟨Code.quiet_builtin _ (by decide +kernel), codeAny_builtin F.entry_type_call ?_⟩))
  rw [Around.under_plain (weight_type_call_type "set" [.ref l] []) rfl]
  repeat any_goals (first | assumption | wp_step)
  refine codeAny_mono (code_set_led1 (.ref l) (E := E) (Q₁ := fun v s1 => v = .ref s.heap.objs.size ∧ s1 = { s with heap := s.heap.push (nSet w) }) ⟨rfl, rfl⟩) fun r s1 hr => ?_
  match r, hr with
  | .error _, hr => exact hr
  | .ok (.ret v), hr =>
    obtain ⟨e1, e2⟩ := hr
    subst e1 e2
    have f7 := F.called_set.init.lookup
    have f8 := F.called_set.init.bind (.ref s.heap.objs.size)
    have f9 : Shared.TypeIs { s with heap := s.heap.push (nSet w) } (.ref s.heap.objs.size) "set" := ⟨_, Heap.get?_push_size _ rfl, rfl⟩
    repeat any_goals (first | assumption | wp_step)
    refine codeAny_mono (setL_fill (E := E) (A := A.in1) ns (by simp [hh]) el hi hb) fun r2 s2 hr2 => ?_
    match r2, hr2 with
    | .error _, hr2 => exact hr2
    | .ok (.ret u), hr2 =>
      obtain ⟨e3, q⟩ := hr2
      subst e3
      repeat any_goals (first | assumption | wp_step)
      exact h _ ⟨rfl, q⟩
end
section
variable {X : Cx}
/-- set(a list of ints): its members, at most as many as there are items -/
def rSetInts (w : World) : List V → Hp → VK → Prop := fun vs H Q => ∃ (a : Addr) (ns : List Int), vs = [V.ref a] ∧ H a = some (.lst (ns.map V.int)) ∧ ns.length ≤ 1000 ∧
  ∀ (p : Addr) (c : Nat), H p = none → c ≤ ns.length → Q (.ref p) (upd H p (SetO w p (fun j => decide (j ∈ ns)) c))
theorem cr_setInts (hc : X.calm = true) : CallR X (.type "set") (rSetInts X.w) := by
  intro pins s σ H vs us Q I r h
  obtain ⟨a, ns, rfl, ha, hl, q⟩ := h
  rw [Vals.ref1 r]
  obtain ⟨z, its, n, rv, e⟩ : ObjOk X.prog X.w H s.heap a (.lst (ns.map V.int)) := I.hok a _ ha
  refine setL_call ns (I.ok.hd hc) e (ints_of_vals rv) (by unfold scanBound; omega) fun s2 hf => ?_
  obtain ⟨_, h2, tk, c, rfl, hR, hc2, kp⟩ := hf
  have hn : H s.heap.objs.size = none := I.hok.fresh (Nat.le_refl _)
  exact ⟨.ref _, _, I.laid kp (Nat.le_refl _) (setO_new hR), rfl, q _ c hn hc2⟩
end
end HSP
namespace HSP
open PySem PySem.Spec PyProof.Rows L2
/-! ## what the law draws from: a list of a number, a count, a mark -/
def DrAt (H : Hp) (p : Addr) (k : Nat) : Prop := ∃ (n : Int) (j : Nat) (b : Bool), H p = some (.lst [.int n, .int (j : Int), .bl b]) ∧ j ≤ k
theorem DrAt.mono {H : Hp} {p : Addr} {k k' : Nat} (d : DrAt H p k) (h : k ≤ k') : DrAt H p k' := by
  obtain ⟨n, j, b, e, l⟩ := d
  exact ⟨n, j, b, e, Nat.le_trans l h⟩
theorem DrAt.same {H H' : Hp} {p : Addr} {k : Nat} (d : DrAt H p k) (s : Same H H') : DrAt H' p k := by
  obtain ⟨n, j, b, e, l⟩ := d
  exact ⟨n, j, b, s _ _ e, l⟩
theorem DrAt.ne {H : Hp} {p q : Addr} {k : Nat} (d : DrAt H p k) (h : H q = none) : q ≠ p := by
  obtain ⟨n, j, b, e, l⟩ := d
  exact (ne_of_none e h).symm
theorem DrAt.tree {H H' : Hp} {p : Addr} {k : Nat} {v : V} {t : Tr} (d : DrAt H p k) (s : Keep p H H') (h : TrAt H v t) : TrAt H' v t := by
  obtain ⟨n, j, b, e, l⟩ := d
  exact s.tree e h
/-- any of the items, whichever place is read -/
theorem at_any {xs : List V} {C : V → Prop} (h : ∀ x, x ∈ xs → C x) {i : Int} (h0 : 0 ≤ i) (h1 : i < (xs.length : Int)) : ∃ v, atI xs i = some v ∧ C v := by
  have hk : i.toNat < xs.length := by omega
  have ei : i = ((i.toNat : Nat) : Int) := by omega
  exact ⟨xs[i.toNat], at_of ei (List.getElem?_eq_getElem hk), h _ (List.getElem_mem hk)⟩
theorem small_mod {a m : Int} (h0 : 0 < m) (h1 : m < 2 ^ 64) : -(2 ^ 64) < a % m ∧ a % m < 2 ^ 64 := by
  have q1 := Int.emod_nonneg a (show m ≠ 0 by omega)
  have q2 := Int.emod_lt_of_pos a h0
  constructor <;> omega
section
variable {P : Program} {w : World} {K : PySem.W.Frag} {mg : Str → Option Value} {base : Heap}
/-! ### _law_draws -/
theorem sc_law_draws : FnScope n_law_draws ["cell"] (defScope s_law_draws) := ⟨rfl, rfl, rfl, by decide +kernel, rfl, by decide +kernel, by decide +kernel⟩
def spDraws : Sp := fun vs H Q _ => ∃ c : Int, vs = [.int c] ∧ ∀ (H' : Hp) (p : Addr), Same H H' → H p = none → DrAt H' p 0 → Q (.ref p) H'
theorem ok_draws (B : Bl mg) (a : At K mg "_law_draws" s_law_draws) : Df P w K mg base "_law_draws" 1 ["cell"] spDraws := by
  refine Df.mk' a sc_law_draws (fun vs H Q E h => ?_) (fun _ _ _ _ _ _ us hl => match us, hl with | [_], _ => rfl) (fun f cdv A outer s H vs Q E hr h => ?_)
  · obtain ⟨c, rfl, _⟩ := h
    rfl
  obtain ⟨c, rfl, q⟩ := h
  refine ⟨_, (pss_one (ps_ret (pe_lst (pa_cons (pe_op op_mod (pe_callTy call_int1 (by rfl) B.int (by decide +kernel) (pa_cons (pv 0) pa_nil)) (pe_op op_powW (pe_op op_powW (pe_op op_powW pe_int pe_int) pe_int) pe_int)) (pa_cons pe_int (pa_cons (pe_cmpR op_ge (pv 0) (pe_op op_powW pe_int pe_int) (nomark _)) pa_nil)))))), ?_⟩
  refine ⟨_, rfl, .inl ⟨_, rfl, _, _, rfl, rfl, ⟨by decide, by decide +kernel⟩, _, _, rfl, rfl, ⟨by decide, by decide +kernel⟩, _, _, rfl, rfl, ⟨by decide, by decide +kernel⟩, _, _, rfl, rfl, ?_, ?_⟩⟩
  · exact Int.pow_pos (Int.pow_pos (Int.pow_pos (by decide)))
  refine ⟨_, rfl, _, _, rfl, rfl, ⟨by decide, by decide +kernel⟩, _, _, rfl, rfl, (by show 3 ≤ sizeLine; decide), fun p hp => ?_⟩
  exact q _ p (Same.new hp) hp ⟨_, 0, _, upd_same, Nat.le_refl _⟩
/-! ### _law_next -/
theorem sc_law_next : FnScope n_law_next ["draws"] (defScope s_law_next) := ⟨rfl, rfl, rfl, by decide +kernel, rfl, by decide +kernel, by decide +kernel⟩
def spNext : Sp := fun vs H Q _ => ∃ (p : Addr) (k : Nat), vs = [.ref p] ∧ DrAt H p k ∧ k ≤ 100000 ∧ ∀ (H' : Hp) (r : Int), Keep p H H' → DrAt H' p (k + 1) → 0 ≤ r → r < 2147483648 → Q (.int r) H'
theorem ok_next (B : Bl mg) (a : At K mg "_law_next" s_law_next) : Df P w K mg base "_law_next" 1 ["draws"] spNext := by
  refine Df.mk' a sc_law_next (fun vs H Q E h => ?_) (fun _ _ _ _ _ _ us hl => match us, hl with | [_], _ => rfl) (fun f cdv A outer s H vs Q E hr h => ?_)
  · obtain ⟨p, k, rfl, _⟩ := h
    rfl
  obtain ⟨p, k, rfl, ⟨n, j, b, e, hj⟩, hk, q⟩ := h
  refine ⟨_, (pss_cons (ps_asg (pe_op op_add (pe_ix ix_list (pv 0) pe_int (fun _ _ => rfl)) pe_int) (pg_sub (pv 0) pe_int set_list))
 (pss_cons (ps_set (i := 1) sc_law_next.nd rfl (.inl rfl) (pe_ix ix_list (pv 0) pe_int (fun _ _ => rfl)))
 (pss_cons (ps_if (pt_val (pe_ix ix_list (pv 0) pe_int (fun _ _ => rfl))) (pss_cons (ps_set (i := 2) sc_law_next.nd rfl (.inl rfl) (pe_op op_mod (pe_callTy call_int1 (by rfl) B.int (by decide +kernel) (pa_cons (pe_ix ix_list (pv 0) pe_int (fun _ _ => rfl)) pa_nil)) (pe_op op_powW pe_int pe_int)))
 (pss_cons (ps_asg (pe_op op_fdiv (pe_ix ix_list (pv 0) pe_int (fun _ _ => rfl)) (pe_op op_powW pe_int pe_int)) (pg_sub (pv 0) pe_int set_list))
 (pss_one (ps_ret (pv 2))))) pss_nil)
 (pss_cons (ps_set (i := 2) sc_law_next.nd rfl (.inl rfl) (pe_op op_mod (pe_callTy call_int1 (by rfl) B.int (by decide +kernel) (pa_cons (pe_op op_mul (pe_op op_add (pe_op op_add (pe_op op_mod (pe_callTy call_int1 (by rfl) B.int (by decide +kernel) (pa_cons (pe_ix ix_list (pv 0) pe_int (fun _ _ => rfl)) pa_nil)) pe_int) (pe_op op_mul (pe_op op_mul (pv 1) (pv 1)) pe_int)) (pv 1)) pe_int) pa_nil)) pe_int))
 (pss_cons (ps_set (i := 2) sc_law_next.nd rfl (.inl rfl) (pe_op op_mod (pe_callTy call_int1 (by rfl) B.int (by decide +kernel) (pa_cons (pe_op op_mul (pv 2) (pv 2)) pa_nil)) pe_int))
 (pss_one (ps_ret (pe_op op_fdiv (pe_op op_mod (pe_callTy call_int1 (by rfl) B.int (by decide +kernel) (pa_cons (pe_op op_mul (pv 2) (pe_op op_add (pv 2) pe_int)) pa_nil)) pe_int) pe_int)))))))), ?_⟩
  have e1 : (upd H p (.lst ([V.int n, .int (j : Int), .bl b].set 1 (.int ((j : Int) + 1))))) p = some (.lst [.int n, .int ((j + 1 : Nat) : Int), .bl b]) := by
    rw [upd_same]
    rfl
  refine ⟨_, rfl, p, _, _, _, rfl, rfl, .of e, atI_nat (j := 1) rfl, _, _, rfl, rfl, _, rfl, p, _, _, 1, rfl, rfl, e, rfl, ?_⟩
  have kp1 : Keep p H (upd H p (.lst ([V.int n, .int (j : Int), .bl b].set 1 (.int ((j : Int) + 1))))) := Keep.at
  generalize upd H p (.lst ([V.int n, .int (j : Int), .bl b].set 1 (.int ((j : Int) + 1)))) = H1 at e1 kp1 ⊢
  refine ⟨_, rfl, p, _, _, _, rfl, rfl, .of e1, atI_nat (j := 1) rfl, ?_⟩
  refine ⟨_, rfl, p, _, _, _, rfl, rfl, .of e1, atI_nat (j := 2) rfl, b, rfl, ?_⟩
  refine ite2 (fun c => ?_) (fun c => ?_)
  · refine ⟨_, rfl, p, _, _, _, rfl, rfl, .of e1, atI_nat (j := 0) rfl, .inl ⟨_, rfl, _, _, rfl, rfl, ⟨by decide, by decide +kernel⟩, _, _, rfl, rfl, Int.pow_pos (by decide), ?_⟩⟩
    refine ⟨_, rfl, p, _, _, _, rfl, rfl, .of e1, atI_nat (j := 0) rfl, _, _, rfl, rfl, ⟨by decide, by decide +kernel⟩, _, _, rfl, rfl, ⟨by decide, by decide⟩, _, rfl, p, _, _, 0, rfl, rfl, e1, rfl, ?_⟩
    refine ⟨_, rfl, q _ _ (kp1.trans Keep.at) ⟨_, j + 1, b, upd_same, by omega⟩ (Int.emod_nonneg _ (by decide)) ?_⟩
    have h6 : n % (1000000 : Int) < 1000000 := Int.emod_lt_of_pos n (by decide)
    exact Int.lt_trans h6 (by decide)
  · have k1 : -(2 ^ 64) < ((j + 1 : Nat) : Int) := by omega
    have k2 : ((j + 1 : Nat) : Int) < 2 ^ 64 := by omega
    refine ⟨_, rfl, p, _, _, _, rfl, rfl, .of e1, atI_nat (j := 0) rfl, .inl ⟨_, rfl, _, _, rfl, rfl, (by show (0 : Int) < 1000003; decide), _, rfl, _, rfl, _, _, rfl, rfl, .inl ⟨k1, k2⟩, _, _, rfl, rfl, .inr ⟨by decide, by decide⟩, _, _, rfl, rfl, _, rfl, _, _, rfl, rfl, _, _, rfl, rfl, .inr ⟨by decide, by decide⟩,
      .inl ⟨_, rfl, _, _, rfl, rfl, (by show (0 : Int) < 2147483629; decide), ?_⟩⟩⟩
    refine ⟨_, rfl, _, rfl, _, _, rfl, rfl, .inl (small_mod (by decide) (by decide)), .inl ⟨_, rfl, _, _, rfl, rfl, (by show (0 : Int) < 2147483587; decide), ?_⟩⟩
    refine ⟨_, rfl, _, rfl, _, _, rfl, rfl, _, _, rfl, rfl, .inl (small_mod (by decide) (by decide)), .inl ⟨_, rfl, _, _, rfl, rfl, (by show (0 : Int) < 2147483579; decide), _, _, rfl, rfl, ⟨by decide, by decide⟩, ?_⟩⟩
    refine q _ _ kp1 ⟨n, j + 1, b, e1, by omega⟩ (Int.ediv_nonneg (Int.emod_nonneg _ (by decide)) (by decide)) ?_
    exact Int.lt_of_le_of_lt (Int.ediv_le_self _ (Int.emod_nonneg _ (by decide))) (Int.lt_trans (Int.emod_lt_of_pos _ (by decide)) (by decide))
end
end HSP
namespace HSP
open PySem PySem.Spec PyProof.Rows L2
section
variable {P : Program} {w : World} {K : PySem.W.Frag} {mg : Str → Option Value} {base : Heap}
/-- nothing can be asked: no room is needed -/
theorem Df.none' {x : Str} {st : Stmt} {ps : List Str} {sp : Sp} (a : At K mg x st) (no : ∀ vs H Q E, ¬ sp vs H Q E)
    (hb : ∀ (kV doc pm : Value) (an : Option Addr) (cdv ct : Value) (us : List Value), us.length = ps.length → bindArgs (PySem.W.fnOf x x (defArgs st) (defBody st) (defScope st) .none kV doc pm an cdv ct) ⟨us, []⟩ = pure (ps.zip us)) (k : Nat) : Df P w K mg base x k ps sp := by
  obtain ⟨f, fd, hm, F⟩ := a
  exact ⟨f, fd, hm, F.kp, F.binds hb, ⟨fun vs H Q E h => absurd h (no vs H Q E), fun A outer s H args us vs Q E _ _ _ _ h => absurd h (no vs H Q E)⟩⟩
def spSize (n : Nat) : Sp := fun vs H Q _ => ∃ (v : V) (t : Tr), vs = [v] ∧ TrAt H v t ∧ t.ht < n ∧ Q (.int t.size) H
end
end HSP
namespace HSP
open PySem PySem.Spec PyProof.Rows L2
section
variable {P : Program} {w : World} {K : PySem.W.Frag} {mg : Str → Option Value} {base : Heap}
/-! ### _law_size -/
theorem sc_law_size : FnScope n_law_size n_law_size (defScope s_law_size) := ⟨rfl, rfl, rfl, by decide +kernel, rfl, by decide +kernel, by decide +kernel⟩
theorem ok_size (a : At K mg "_law_size" s_law_size) : ∀ n, Df P w K mg base "_law_size" n n_law_size (spSize n)
  | 0 => Df.none' a (fun vs H Q E h => by obtain ⟨v, t, _, _, h, _⟩ := h; exact absurd h (Nat.not_lt_zero _)) (fun _ _ _ _ _ _ us hl => match us, hl with | [_], _ => rfl) 0
  | n + 1 => by
    have S := ok_size a n
    refine Df.mk' a sc_law_size (fun vs H Q E h => ?_) (fun _ _ _ _ _ _ us hl => match us, hl with | [_], _ => rfl) (fun f cdv A outer s H vs Q E hr h => ?_)
    · obtain ⟨v, t, rfl, _⟩ := h
      rfl
    obtain ⟨v, t, rfl, ht, hd, q⟩ := h
    refine ⟨_, (pss_one (ps_ret (pe_ifExp (pt_cmpR op_isN (pv 0) pe_non (nomark _)) pe_int (pe_op op_add (pe_op op_add (pe_df S hr (pa_cons (pe_ix ix_tup (pv 0) pe_int (fun _ _ => rfl)) pa_nil)) pe_int) (pe_df S hr (pa_cons (pe_ix ix_tup (pv 0) pe_int (fun _ _ => rfl)) pa_nil)))))), ?_⟩
    refine ⟨v, rfl, rfl, _, rfl, ?_⟩
    cases ht with
    | nil => exact iteT q
    | @nod b x1 x2 l r e hl hr2 =>
      have hd' : max l.ht r.ht + 1 < n + 1 := hd
      refine iteF ?_
      refine ⟨_, rfl, b, _, _, x1, rfl, rfl, .of e, atI_nat (j := 0) rfl, x1, l, rfl, hl, by omega, ?_⟩
      refine ⟨_, _, rfl, rfl, _, rfl, b, _, _, x2, rfl, rfl, .of e, atI_nat (j := 1) rfl, x2, r, rfl, hr2, by omega, ?_⟩
      refine ⟨_, _, rfl, rfl, ?_⟩
      have e2 : ((l.size : Int) + 1 + (r.size : Int)) = (((Tr.nod l r).size : Nat) : Int) := by
        show _ = ((l.size + 1 + r.size : Nat) : Int)
        omega
      rw [← e2] at q
      exact q
/-! ### _law_tree -/
theorem sc_law_tree : FnScope n_law_tree ["draws", "room"] (defScope s_law_tree) := ⟨rfl, rfl, rfl, by decide +kernel, rfl, by decide +kernel, by decide +kernel⟩
def spDraw (n : Nat) : Sp := fun vs H Q _ => ∃ (p : Addr) (m k : Nat), vs = [.ref p, .int (m : Int)] ∧ m < n ∧ DrAt H p k ∧ k + 2 * m ≤ 100000 ∧ ∀ (H' : Hp) (v : V) (t : Tr), Keep p H H' → DrAt H' p (k + 2 * m) → TrAt H' v t → t.size = m → Q v H'
theorem ok_drawT (B : Bl mg) (N : Df P w K mg base "_law_next" 1 ["draws"] spNext) (a : At K mg "_law_tree" s_law_tree) : ∀ n, Df P w K mg base "_law_tree" (n + 1) ["draws", "room"] (spDraw n)
  | 0 => Df.none' a (fun vs H Q E h => by obtain ⟨p, m, k, _, h, _⟩ := h; exact absurd h (Nat.not_lt_zero _)) (fun _ _ _ _ _ _ us hl => match us, hl with | [_, _], _ => rfl) 1
  | n + 1 => by
    have D := ok_drawT B N a n
    refine Df.mk' a sc_law_tree (fun vs H Q E h => ?_) (fun _ _ _ _ _ _ us hl => match us, hl with | [_, _], _ => rfl) (fun f cdv A outer s H vs Q E hr h => ?_)
    · obtain ⟨p, m, k, rfl, _⟩ := h
      rfl
    obtain ⟨p, m, k, rfl, hm, hd, hk, q⟩ := h
    refine ⟨_, (pss_cons (ps_if (pt_cmpR op_eq (pv 1) pe_int (nomark _)) (pss_one (ps_ret pe_non)) pss_nil)
 (pss_cons (ps_set (i := 2) sc_law_tree.nd rfl (.inl rfl) (pe_ix ix_list (pe_lst (pa_cons (pe_op op_fdiv (pv 1) pe_int) (pa_cons (pe_op op_fdiv (pe_op op_sub (pv 1) pe_int) pe_int) (pa_cons (pe_op op_mod (pe_callTy call_int1 (by rfl) B.int (by decide +kernel) (pa_cons (pe_df N (hr.mono (by omega)) (pa_cons (pv 0) pa_nil)) pa_nil)) (pv 1)) (pa_cons pe_int (pa_cons (pe_op op_sub (pv 1) pe_int) pa_nil)))))) (pe_op op_mod (pe_callTy call_int1 (by rfl) B.int (by decide +kernel) (pa_cons (pe_df N (hr.mono (by omega)) (pa_cons (pv 0) pa_nil)) pa_nil)) pe_int) (fun _ _ => rfl)))
 (pss_one (ps_ret (pe_tup (pa_cons (pe_df D hr (pa_cons (pv 0) (pa_cons (pv 2) pa_nil))) (pa_cons (pe_df D hr (pa_cons (pv 0) (pa_cons (pe_op op_sub (pe_op op_sub (pv 1) (pv 2)) pe_int) pa_nil))) pa_nil))))))), ?_⟩
    refine ⟨_, rfl, rfl, _, rfl, ?_⟩
    refine ite2 (fun c => ?_) (fun c => ?_)
    · have m0 : (m : Int) = 0 := V.int.inj (of_decide_eq_true c)
      exact q H .non .nil (Keep.refl _ _) (hd.mono (by omega)) .nil (by show 0 = m; omega)
    have m1 : ¬ (m : Int) = 0 := fun z => c (decide_eq_true (congrArg V.int z))
    have mp : (0 : Int) < (m : Int) := by omega
    refine ⟨_, rfl, _, _, rfl, rfl, ⟨by decide, by decide⟩, _, rfl, _, _, rfl, rfl, _, _, rfl, rfl, ⟨by decide, by decide⟩, _, rfl, p, k, rfl, hd, by omega, fun H1 r1 kp1 d1 a1 a2 => .inl ⟨_, rfl, _, rfl, _, _, rfl, rfl, mp, _, rfl, _, _, rfl, rfl, (by show 5 ≤ sizeLine; decide), fun L hL => ?_⟩⟩
    refine ⟨_, rfl, p, k + 1, rfl, d1.same (Same.new hL), by omega, fun H2 r2 kp2 d2 a3 a4 => .inl ⟨_, rfl, _, _, rfl, rfl, (by show (0 : Int) < 5; decide), ?_⟩⟩
    have eL := kp2 L _ (d1.ne hL) upd_same
    obtain ⟨x, hx, j, rfl, hj⟩ := at_any (xs := [V.int ((m : Int) / 2), V.int (((m : Int) - 1) / 2), V.int (r1 % (m : Int)), V.int 0, V.int ((m : Int) - 1)]) (C := fun x => ∃ j : Nat, x = V.int (j : Int) ∧ j < m) (fun x hx => by
      have nat : ∀ z : Int, 0 ≤ z → z < (m : Int) → ∃ j : Nat, V.int z = V.int (j : Int) ∧ j < m := fun z z0 z1 => ⟨z.toNat, congrArg V.int (by omega), by omega⟩
      simp only [List.mem_cons, List.not_mem_nil, or_false] at hx
      rcases hx with rfl | rfl | rfl | rfl | rfl
      · exact nat _ (by omega) (by omega)
      · exact nat _ (by omega) (by omega)
      · exact nat _ (Int.emod_nonneg _ (by omega)) (Int.emod_lt_of_pos _ mp)
      · exact nat _ (by omega) (by omega)
      · exact nat _ (by omega) (by omega)) (i := r2 % 5) (Int.emod_nonneg _ (by decide)) (Int.emod_lt_of_pos _ (by decide))
    refine ⟨L, _, _, _, rfl, rfl, .of eL, hx, ?_⟩
    have kpA : Keep p H H2 := kp1.trans ((Keep.new hL).trans kp2)
    refine ⟨_, rfl, _, rfl, p, j, k + 1 + 1, rfl, by omega, d2, by omega, fun H3 v3 t3 kp3 d3 b3 s3 => ?_⟩
    refine ⟨_, rfl, _, rfl, _, rfl, _, _, rfl, rfl, _, _, rfl, rfl, p, m - 1 - j, k + 1 + 1 + 2 * j, congrArg (fun z => [V.ref p, V.int z]) (by omega : (m : Int) - (j : Int) - 1 = ((m - 1 - j : Nat) : Int)), by omega, d3, by omega, fun H4 v4 t4 kp4 d4 b4 s4 => ?_⟩
    refine ⟨(by show 2 ≤ sizeLine; decide), fun T hT => ?_⟩
    have s5 := Same.new (o := .tup [v3, v4]) hT
    refine q _ (.ref T) (.nod t3 t4) (kpA.trans (kp3.trans (kp4.trans (Keep.new hT)))) ((d4.mono (by omega)).same s5) (.nod upd_same ((d3.tree kp4 b3).same s5) (b4.same s5)) ?_
    show t3.size + 1 + t4.size = m
    omega
end
end HSP
namespace HSP
open PySem PySem.Spec PyProof.Rows L2
theorem DrAt.neOf {H : Hp} {p q : Addr} {k : Nat} {ns : List Int} (d : DrAt H p k) (e : H q = some (.lst (ns.map V.int))) : q ≠ p := fun z => by
  obtain ⟨n, j, b, e2, _⟩ := d
  rw [z, e2] at e
  have h := HO.lst.inj (Option.some.inj e)
  match ns, h with
  | [], h => exact absurd (congrArg List.length h) (by simp)
  | [_], h => exact absurd (congrArg List.length h) (by simp)
  | [_, _], h => exact absurd (congrArg List.length h) (by simp)
  | _ :: _ :: z :: _, h => exact absurd (congrArg (fun l => l[2]?) h) (by simp)
theorem DrAt.put {H : Hp} {p q : Addr} {k : Nat} {o : HO} (d : DrAt H p k) (n : q ≠ p) : DrAt (upd H q o) p k := by
  obtain ⟨z, j, b, e, l⟩ := d
  exact ⟨z, j, b, by rw [upd_ne n.symm]; exact e, l⟩
/-- a place that was not tracked at first may be written -/
theorem Keep.put {p q : Addr} {H H1 : Hp} {o : HO} (h : H q = none) (k : Keep p H H1) : Keep p H (upd H1 q o) := fun b u n e => by
  rw [upd_ne (ne_of_none e h)]
  exact k b u n e
/-- a value drawn is near 0 -/
def Near (ns : List Int) : Prop := ∀ v, v ∈ ns → -1000001 ≤ v ∧ v ≤ 1000001
theorem Near.nil : Near [] := fun _ h => by cases h
theorem Near.snoc {ns : List Int} {v : Int} (h : Near ns) (h1 : -1000001 ≤ v ∧ v ≤ 1000001) : Near (ns ++ [v]) := fun x hx => by
  rcases List.mem_append.mp hx with z | z
  · exact h x z
  · rw [List.mem_singleton.mp z]
    exact h1
theorem Near.set {ns : List Int} {v : Int} {i : Nat} (h : Near ns) (h1 : -1000001 ≤ v ∧ v ≤ 1000001) : Near (ns.set i v) := fun x hx => by
  rcases List.mem_or_eq_of_mem_set hx with z | z
  · exact h x z
  · rw [z]
    exact h1
theorem near_of {r sp : Int} (h0 : 0 ≤ sp) (h1 : sp ≤ 1000000) : -1000001 ≤ r % (sp + 1) - sp / 2 ∧ r % (sp + 1) - sp / 2 ≤ 1000001 := by
  have a1 := Int.emod_nonneg r (show sp + 1 ≠ 0 by omega)
  have a2 := Int.emod_lt_of_pos r (show (0 : Int) < sp + 1 by omega)
  omega
end HSP
namespace HSP
open PySem PySem.Spec PyProof.Rows L2
section
variable {P : Program} {w : World} {K : PySem.W.Frag} {mg : Str → Option Value} {base : Heap}
/-! ### _law_values -/
theorem sc_law_values : FnScope n_law_values ["draws", "many"] (defScope s_law_values) := ⟨rfl, rfl, rfl, by decide +kernel, rfl, by decide +kernel, by decide +kernel⟩
def spValues : Sp := fun vs H Q _ => ∃ (p : Addr) (m k : Nat), vs = [.ref p, .int (m : Int)] ∧ m ≤ 1000 ∧ DrAt H p k ∧ k + m + 10 ≤ 100000 ∧ ∀ (H' : Hp) (q : Addr) (ns : List Int), Keep p H H' → DrAt H' p (k + m + 10) → H q = none → H' q = some (.lst (ns.map V.int)) → ns.length = m → Near ns → Q (.ref q) H'
theorem ok_values (B : Bl mg) (N : Df P w K mg base "_law_next" 1 ["draws"] spNext) (a : At K mg "_law_values" s_law_values) : Df P w K mg base "_law_values" 2 ["draws", "many"] spValues := by
  refine Df.mk' a sc_law_values (fun vs H Q E h => ?_) (fun _ _ _ _ _ _ us hl => match us, hl with | [_, _], _ => rfl) (fun f cdv A outer s H vs Q E hr h => ?_)
  · obtain ⟨p, m, k, rfl, _⟩ := h
    rfl
  obtain ⟨p, m, k, rfl, hm, hd, hk, q⟩ := h
  refine ⟨_, (pss_cons (ps_set (i := 2) sc_law_values.nd rfl (.inl rfl) (pe_df N hr (pa_cons (pv 0) pa_nil)))
 (pss_cons (ps_set (i := 3) sc_law_values.nd rfl (.inr rfl) (pe_ix ix_list (pe_lst (pa_cons pe_int (pa_cons (pv 1) (pa_cons (pe_op op_add (pe_op op_mul pe_int (pv 1)) pe_int) (pa_cons (pe_op op_powW pe_int pe_int) pa_nil))))) (pe_op op_mod (pe_callTy call_int1 (by rfl) B.int (by decide +kernel) (pa_cons (pv 2) pa_nil)) pe_int) (fun _ _ => rfl)))
 (pss_cons (ps_setLc (i := 5) (own := [("k", 4)]) (g := (gName 4)) (tt := tYes) (by rfl) sc_law_values.nd rfl rfl (sw_true rfl rfl rfl (by decide +kernel)) (pi_range1 (by rfl) B.range (pa_cons (pv 1) pa_nil)) (blkOk_by (N := n_law_values) (sc := defScope s_law_values) (by decide +kernel)) (fun _ _ _ _ _ => (pg_name (i := 4) sc_law_values.nd rfl (.inl rfl))) (fun _ _ _ _ _ => pts_nil) (fun _ _ _ _ _ => (pe_op op_sub (pe_op op_mod (pe_callTy call_int1 (by rfl) B.int (by decide +kernel) (pa_cons (pe_df N hr (pa_cons (pv 0) pa_nil)) pa_nil)) (pe_op op_add (pv 3) pe_int)) (pe_op op_fdiv (pv 3) pe_int))))
 (pss_cons (ps_if (PW.pt (pw_and (pt_cmpR op_eq (pe_op op_mod (pe_callTy call_int1 (by rfl) B.int (by decide +kernel) (pa_cons (pe_op op_fdiv (pv 2) pe_int) pa_nil)) pe_int) pe_int (nomark _)) (pw_and1 (pt_cmpR op_gt (pv 1) pe_int (nomark _))))) (pss_cons (ps_set (i := 5) sc_law_values.nd rfl (.inl rfl) (pe_callB cr_sortedI (by rfl) B.sorted (by decide +kernel) (pa_cons (pv 5) pa_nil)))
 (pss_one (ps_for PassesOwn.never rfl (pi_range1 (by rfl) B.range (pa_cons (pe_op op_mod (pe_callTy call_int1 (by rfl) B.int (by decide +kernel) (pa_cons (pe_op op_fdiv (pv 2) pe_int) pa_nil)) pe_int) pa_nil)) (pg_name (i := 4) sc_law_values.nd rfl (.inl rfl)) (pss_cons (ps_set (i := 6) sc_law_values.nd rfl (.inl rfl) (pe_op op_mod (pe_callTy call_int1 (by rfl) B.int (by decide +kernel) (pa_cons (pe_df N hr (pa_cons (pv 0) pa_nil)) pa_nil)) (pv 1)))
 (pss_one (ps_asg (pe_op op_sub (pe_op op_mod (pe_callTy call_int1 (by rfl) B.int (by decide +kernel) (pa_cons (pe_df N hr (pa_cons (pv 0) pa_nil)) pa_nil)) (pe_op op_add (pv 3) pe_int)) (pe_op op_fdiv (pv 3) pe_int)) (pg_sub (pv 5) (pv 6) set_list))))))) pss_nil)
 (pss_one (ps_ret (pv 5))))))), ?_⟩
  refine ⟨_, rfl, p, k, rfl, hd, by omega, fun H1 r1 kp1 d1 a1 a2 => ?_⟩
  refine ⟨_, rfl, _, rfl, _, _, rfl, rfl, .inl ⟨by decide, by decide⟩, _, _, rfl, rfl, _, _, rfl, rfl, ⟨by decide, by decide +kernel⟩, (by show 4 ≤ sizeLine; decide), fun L hL => ?_⟩
  obtain ⟨x, hx, sp, rfl, hsp, hsp2⟩ := at_any (xs := [V.int 3, V.int (m : Int), V.int (4 * (m : Int) + 1), V.int ((10 : Int) ^ (6 : Int).toNat)]) (C := fun x => ∃ j : Int, x = V.int j ∧ 0 ≤ j ∧ j ≤ 1000000) (fun x hx => by
    simp only [List.mem_cons, List.not_mem_nil, or_false] at hx
    rcases hx with rfl | rfl | rfl | rfl
    · exact ⟨3, rfl, by decide, by decide⟩
    · exact ⟨_, rfl, by omega, by omega⟩
    · exact ⟨_, rfl, by omega, by omega⟩
    · exact ⟨_, rfl, by decide, by decide⟩) (i := r1 % 4) (Int.emod_nonneg _ (by decide)) (Int.emod_lt_of_pos _ (by decide))
  refine ⟨_, rfl, .inl ⟨_, rfl, _, _, rfl, rfl, (by show (0 : Int) < 4; decide), L, _, _, _, rfl, rfl, .of upd_same, hx, ?_⟩⟩
  have kp2 : Keep p H (upd H1 L (.lst [V.int 3, V.int (m : Int), V.int (4 * (m : Int) + 1), V.int ((10 : Int) ^ (6 : Int).toNat)])) := kp1.trans (Keep.new hL)
  have d2 := d1.same (Same.new (o := .lst [V.int 3, V.int (m : Int), V.int (4 * (m : Int) + 1), V.int ((10 : Int) ^ (6 : Int).toNat)]) hL)
  have free2 : ∀ b, (upd H1 L (.lst [V.int 3, V.int (m : Int), V.int (4 * (m : Int) + 1), V.int ((10 : Int) ^ (6 : Int).toNat)])) b = none → H b = none ∧ b ≠ p := fun b hb => by
    refine ⟨?_, d2.ne hb⟩
    cases e : H b with
    | none => rfl
    | some o => cases hb.symm.trans (kp2 b o (d2.ne hb) e)
  generalize upd H1 L (.lst [V.int 3, V.int (m : Int), V.int (4 * (m : Int) + 1), V.int ((10 : Int) ^ (6 : Int).toNat)]) = H2 at kp2 d2 free2 ⊢
  refine ⟨_, rfl, _, rfl, by omega, by omega, fun D hD => ?_⟩
  refine lc_range (lo := 0) (n := m) (fun i H' => ∃ ns : List Int, Keep p H H' ∧ DrAt H' p (k + 1 + i) ∧ H' D = some (.lst (ns.map V.int)) ∧ ns.length = i ∧ Near ns) ⟨[], kp2.trans (Keep.new hD), d2.same (Same.new hD), upd_same, rfl, .nil⟩ (fun i H3 hi h3 => ?_) (fun H3 h3 => ?_)
  · obtain ⟨ns, kp3, d3, e3, l3, w3⟩ := h3
    refine ⟨rfl, ?_⟩
    refine ⟨_, rfl, p, k + 1 + i, rfl, d3, by omega, fun H4 r2 kp4 d4 b1 b2 => .inl ⟨_, rfl, _, rfl, _, _, rfl, rfl, _, _, rfl, rfl, (by show 0 < sp + 1; omega), _, rfl, _, _, rfl, rfl, ⟨by decide, by decide⟩, _, _, rfl, rfl, _, kp4 D _ (d3.neOf e3) e3, ?_, ?_⟩⟩
    · rw [List.length_map]
      exact small1000 (by omega)
    · refine ⟨ns ++ [r2 % (sp + 1) - sp / 2], Keep.put (free2 D hD).1 (kp3.trans kp4), d4.put (d3.neOf e3), ?_, ?_, w3.snoc (near_of hsp hsp2)⟩
      · rw [upd_same, List.map_append]
        rfl
      · rw [List.length_append, List.length_singleton, l3]
  · obtain ⟨ns, kp3, d3, e3, l3, w3⟩ := h3
    have nD := d3.neOf e3
    refine ⟨_, rfl, _, _, rfl, rfl, ⟨by decide, by decide⟩, .inl ⟨_, rfl, _, _, rfl, rfl, (by show (0 : Int) < 3; decide), rfl, _, rfl, ?_⟩⟩
    have back : Q (.ref D) H3 := q H3 D ns kp3 (d3.mono (by omega)) (free2 D hD).1 e3 l3 w3
    refine ite2 (fun c1 => ?_) (fun c1 => iteF ⟨_, rfl, back⟩)
    refine ⟨_, rfl, _, _, rfl, rfl, _, rfl, ite2 (fun c2 => ?_) (fun c2 => ⟨_, rfl, back⟩)⟩
    have mp : (0 : Int) < (m : Int) := of_decide_eq_true c2
    refine ⟨_, rfl, D, ns, rfl, .of e3, fun ns2 D2 hperm _ hD2 => ?_⟩
    refine ⟨_, rfl, _, _, rfl, rfl, ⟨by decide, by decide⟩, .inl ⟨_, rfl, _, _, rfl, rfl, (by show (0 : Int) < 4; decide), ?_⟩⟩
    have u1 := Int.emod_nonneg (r1 / 12) (show (4 : Int) ≠ 0 by decide)
    have u2 := Int.emod_lt_of_pos (r1 / 12) (show (0 : Int) < 4 by decide)
    refine ⟨_, rfl, by omega, by omega, ?_⟩
    have hD2' : H D2 = none ∧ D2 ≠ p := by
      refine ⟨?_, d3.ne hD2⟩
      cases e : H D2 with
      | none => rfl
      | some o => cases hD2.symm.trans (kp3 D2 o (d3.ne hD2) e)
    refine for_range (lo := 0) (n := (r1 / 12 % 4).toNat) (fun i σ H' => ∃ (ns' : List Int) (y4 y6 : Option V), σ = [some (.ref p), some (.int (m : Int)), some (.int r1), some (.int sp), y4, some (.ref D2), y6] ∧ Keep p H H' ∧ DrAt H' p (k + 1 + m + 2 * i) ∧ H' D2 = some (.lst (ns'.map V.int)) ∧ ns'.length = m ∧ Near ns')
      ⟨ns2, _, _, rfl, Keep.put hD2'.1 kp3, d3.put hD2'.2, upd_same, by rw [hperm.length_eq, l3], fun x hx => w3 x (hperm.mem_iff.mp hx)⟩ (fun i σ H4 hi h4 => ?_) (fun σ H4 h4 => ?_)
    · obtain ⟨ns', y4, y6, rfl, kp4, d4, e4, l4, w4⟩ := h4
      refine ⟨_, rfl, p, k + 1 + m + 2 * i, rfl, d4, by omega, fun H5 r5 kp5 d5 b1 b2 => .inl ⟨_, rfl, _, rfl, _, _, rfl, rfl, mp, ?_⟩⟩
      refine ⟨_, rfl, p, k + 1 + m + 2 * i + 1, rfl, d5, by omega, fun H6 r6 kp6 d6 b3 b4 => .inl ⟨_, rfl, _, rfl, _, _, rfl, rfl, _, _, rfl, rfl, (by show 0 < sp + 1; omega), _, rfl, _, _, rfl, rfl, ⟨by decide, by decide⟩, _, _, rfl, rfl, ?_⟩⟩
      have n4 := d4.neOf e4
      have e6 := kp6 D2 _ n4 (kp5 D2 _ n4 e4)
      have v1 := Int.emod_nonneg r5 (show (m : Int) ≠ 0 by omega)
      have v2 := Int.emod_lt_of_pos r5 mp
      refine ⟨_, rfl, _, rfl, D2, _, _, (r5 % (m : Int)).toNat, rfl, rfl, e6, ?_, ?_⟩
      · rw [List.length_map, l4]
        exact ixN_in v1 v2
      · refine ⟨ns'.set (r5 % (m : Int)).toNat (r6 % (sp + 1) - sp / 2), _, _, rfl, Keep.put hD2'.1 ((kp4.trans kp5).trans kp6), d6.put n4, ?_, ?_, w4.set (near_of hsp hsp2)⟩
        · rw [upd_same, List.map_set]
        · rw [List.length_set, l4]
    · obtain ⟨ns', y4, y6, rfl, kp4, d4, e4, l4, w4⟩ := h4
      exact ⟨_, rfl, q H4 D2 ns' kp4 (d4.mono (by omega)) hD2'.1 e4 l4 w4⟩
end
end HSP
namespace HSP
open PySem PySem.Spec PyProof.Rows L2
/-- the mark at a walk's end -/
def endV (r : Bool × Nat) : V := if r.1 = true then .str "found" else natV r.2
theorem pos_of_lt (b : Bool) : (if b = true then (1 : Int) else 0) = 0 ∨ (if b = true then (1 : Int) else 0) = 1 := by cases b <;> simp
section
variable {P : Program} {w : World} {K : PySem.W.Frag} {mg : Str → Option Value} {base : Heap}
/-! ### _law_visits -/
theorem sc_law_visits : FnScope n_law_visits p_law_visits (defScope s_law_visits) := ⟨rfl, rfl, rfl, by decide +kernel, rfl, by decide +kernel, by decide +kernel⟩
def spVisits (n : Nat) : Sp := fun vs H Q _ => ∃ (v : V) (t : Tr) (a : Addr) (ns : List Int) (tw : Int), vs = [v, .ref a, .int tw] ∧ TrAt H v t ∧ t.ht < n ∧ t.size ≤ 300 ∧ H a = some (.lst (ns.map V.int)) ∧ ns.length = t.size ∧
  ∀ (H' : Hp) (q : Addr), Same H H' → H q = none → H' q = some (.lst ((sPath (valAt ns) tw .fin t 0).map natV ++ [endV (sEnd (valAt ns) tw .fin t 0)])) → Q (.ref q) H'
theorem ok_visits {n : Nat} (B : Bl mg) (Z : Df P w K mg base "_law_size" n n_law_size (spSize n)) (a : At K mg "_law_visits" s_law_visits) : Df P w K mg base "_law_visits" (n + 1) p_law_visits (spVisits n) := by
  refine Df.mk' a sc_law_visits (fun vs H Q E h => ?_) (fun _ _ _ _ _ _ us hl => match us, hl with | [_, _, _], _ => rfl) (fun f cdv A outer s H vs Q E hr h => ?_)
  · obtain ⟨v, t, a, ns, tw, rfl, _⟩ := h
    rfl
  obtain ⟨v, t, a, ns, tw, rfl, ht, hd, hz, ha, hn, q⟩ := h
  refine ⟨_, (pss_cons (ps_set (i := 3) sc_law_visits.nd rfl (.inl rfl) (pe_lst pa_nil))
 (pss_cons (ps_set (i := 4) sc_law_visits.nd rfl (.inl rfl) pe_int)
 (pss_cons (ps_while PassesOwn.never (pt_cmpR op_notN (pv 0) pe_non (nomark _)) (pss_cons (ps_set (i := 5) sc_law_visits.nd rfl (.inl rfl) (pe_op op_add (pv 4) (pe_df Z hr (pa_cons (pe_ix ix_tup (pv 0) pe_int (fun _ _ => rfl)) pa_nil))))
 (pss_cons (ps_expr (pe_bm PySem.F.plainAttrs_list PySem.F.slot_list_append PySem.F.type_list_append mt_append (pv 3) (pa_cons (pv 5) pa_nil)))
 (pss_cons (ps_if (pt_cmpR op_eq (pe_op op_mul pe_int (pe_ix ix_list (pv 1) (pv 5) (fun _ _ => rfl))) (pv 2) (nomark _)) (pss_one (ps_ret (pe_op op_cat (pv 3) (pe_lst (pa_cons pe_str pa_nil))))) pss_nil)
 (pss_cons (ps_if (pt_cmpR op_gt (pv 2) (pe_op op_mul pe_int (pe_ix ix_list (pv 1) (pv 5) (fun _ _ => rfl))) (nomark _)) (pss_one (ps_set (i := 4) sc_law_visits.nd rfl (.inl rfl) (pe_op op_add (pv 5) pe_int))) pss_nil)
 (pss_one (ps_set (i := 0) sc_law_visits.nd rfl (.inl rfl) (pe_ix ix_tup (pv 0) (pe_callTy call_int1 (by rfl) B.int (by decide +kernel) (pa_cons (pe_cmpR op_gt (pv 2) (pe_op op_mul pe_int (pe_ix ix_list (pv 1) (pv 5) (fun _ _ => rfl))) (nomark _)) pa_nil)) (fun _ _ => rfl)))))))))
 (pss_one (ps_ret (pe_op op_cat (pv 3) (pe_lst (pa_cons (pv 4) pa_nil)))))))), ?_⟩
  refine ⟨Nat.zero_le _, fun l hl => ?_⟩
  have s0 : Same H (upd H l (.lst [])) := Same.new hl
  refine ⟨fun k σ H1 => ∃ (x : V) (u : Tr) (f : Nat) (z : List Nat) (y : Option V), σ = [some x, some (.ref a), some (.int tw), some (.ref l), some (.int (f : Int)), y] ∧ Same H H1 ∧ H1 l = some (.lst (z.map natV)) ∧ TrAt H x u ∧ u.ht < n ∧
      f + u.size ≤ t.size ∧ z.length ≤ f + (t.size - (f + u.size)) ∧ sPath (valAt ns) tw .fin t 0 = z ++ sPath (valAt ns) tw .fin u f ∧ sEnd (valAt ns) tw .fin t 0 = sEnd (valAt ns) tw .fin u f ∧ k = u.size,
    ⟨_, v, t, 0, [], none, rfl, s0, upd_same, ht, hd, by omega, by show 0 ≤ _; omega, rfl, rfl, rfl⟩, fun k σ H1 hW => ?_⟩
  obtain ⟨x, u, f, z, y, rfl, sm, el, hx, hux, hf, hzl, hP, hE, rfl⟩ := hW
  refine ⟨x, rfl, rfl, _, rfl, ?_⟩
  cases hx with
  | nil =>
    refine iteF ?_
    refine ⟨_, rfl, _, rfl, (by show 1 ≤ sizeLine; decide), fun e he => ?_⟩
    have s1 := Same.new (o := .lst [V.int (f : Int)]) he
    refine ⟨l, e, _, _, rfl, rfl, s1 _ _ el, upd_same, ?_, fun p hp => ?_⟩
    · rw [List.length_map]
      show z.length + 1 ≤ sizeLine
      exact Nat.le_of_lt (small1000 (by omega))
    · refine q _ p (sm.trans (s1.trans (Same.new hp))) (sm.free (s1.free hp)) ?_
      rw [upd_same, hP, hE]
      show _ = some (HO.lst ((z ++ []).map natV ++ [natV f]))
      rw [List.append_nil]
      rfl
  | @nod b x1 x2 t1 t2 eb h1 h2 =>
    refine iteT ⟨fun σ' H' => ∃ k', k' < (Tr.nod t1 t2).size ∧ ∃ (x : V) (u : Tr) (f : Nat) (z : List Nat) (y : Option V), σ' = [some x, some (.ref a), some (.int tw), some (.ref l), some (.int (f : Int)), y] ∧ Same H H' ∧ H' l = some (.lst (z.map natV)) ∧ TrAt H x u ∧ u.ht < n ∧
      f + u.size ≤ t.size ∧ z.length ≤ f + (t.size - (f + u.size)) ∧ sPath (valAt ns) tw .fin t 0 = z ++ sPath (valAt ns) tw .fin u f ∧ sEnd (valAt ns) tw .fin t 0 = sEnd (valAt ns) tw .fin u f ∧ k' = u.size, fun σ' H' hN => hN, ?_⟩
    have hsz : (Tr.nod t1 t2).size = t1.size + 1 + t2.size := rfl
    have hht : (Tr.nod t1 t2).ht = max t1.ht t2.ht + 1 := rfl
    rw [hsz] at hf hzl
    rw [hht] at hux
    refine ⟨_, rfl, _, rfl, b, _, _, x1, rfl, rfl, .of (sm _ _ eb), atI_nat (j := 0) rfl, x1, t1, rfl, h1.same sm, by omega, _, _, rfl, rfl, ?_⟩
    refine ⟨_, rfl, .inl ⟨rfl, _, .of el⟩, _, rfl, l, _, _, rfl, rfl, el, ?_, ?_⟩
    · rw [List.length_map]
      exact small1000 (by omega)
    have sm3 : Same H (upd H1 l (.lst (z.map natV ++ [V.int ((f : Int) + (t1.size : Int))]))) := fun c o e => by
      rw [upd_ne (ne_of_none e hl)]
      exact sm _ _ e
    have en : V.int ((f : Int) + (t1.size : Int)) = natV (f + t1.size) := congrArg V.int (by omega)
    have el3 : (upd H1 l (.lst (z.map natV ++ [V.int ((f : Int) + (t1.size : Int))]))) l = some (.lst ((z ++ [f + t1.size]).map natV)) := by
      rw [upd_same, List.map_append, en]
      rfl
    generalize upd H1 l (.lst (z.map natV ++ [V.int ((f : Int) + (t1.size : Int))])) = H3 at sm3 el3 ⊢
    have uP : sPath (valAt ns) tw .fin (.nod t1 t2) f = (f + t1.size) :: match wayOf tw (valAt ns (f + t1.size)) .fin with | .fin => [] | .lft => sPath (valAt ns) tw .fin t1 f | .rgt => sPath (valAt ns) tw .fin t2 (f + t1.size + 1) := rfl
    have uE : sEnd (valAt ns) tw .fin (.nod t1 t2) f = match wayOf tw (valAt ns (f + t1.size)) .fin with | .fin => (true, f + t1.size) | .lft => sEnd (valAt ns) tw .fin t1 f | .rgt => sEnd (valAt ns) tw .fin t2 (f + t1.size + 1) := rfl
    rw [uP] at hP
    rw [uE] at hE
    have item := at_of (z := (f : Int) + (t1.size : Int)) (j := f + t1.size) (by omega) (valAt_get (show f + t1.size < ns.length by omega))
    refine ⟨_, rfl, _, rfl, a, _, _, _, rfl, rfl, .of (sm3 _ _ ha), item, _, _, rfl, rfl, .inl ⟨by decide, by decide⟩, _, rfl, rfl, _, rfl, ite2 (fun c => ?_) (fun c => ?_)⟩
    · have c1 : 2 * valAt ns (f + t1.size) = tw := V.int.inj (of_decide_eq_true c)
      have ew : wayOf tw (valAt ns (f + t1.size)) .fin = .fin := by unfold wayOf; rw [if_pos c1.symm]
      rw [ew] at hP hE
      refine ⟨_, rfl, (by show 1 ≤ sizeLine; decide), fun e he => ?_⟩
      have s1 := Same.new (o := .lst [V.str "found"]) he
      refine ⟨l, e, _, _, rfl, rfl, s1 _ _ el3, upd_same, ?_, fun p hp => ?_⟩
      · rw [List.length_map, List.length_append, List.length_singleton]
        show z.length + 1 + 1 ≤ sizeLine
        exact Nat.le_of_lt (small1000 (by omega))
      · refine q _ p (sm3.trans (s1.trans (Same.new hp))) (sm3.free (s1.free hp)) ?_
        rw [upd_same, hP, hE]
        rfl
    · have c1 : ¬ 2 * valAt ns (f + t1.size) = tw := fun z => c (decide_eq_true (congrArg V.int z))
      refine ⟨_, rfl, _, rfl, _, rfl, a, _, _, _, rfl, rfl, .of (sm3 _ _ ha), item, _, _, rfl, rfl, .inl ⟨by decide, by decide⟩, _, _, rfl, rfl, _, rfl, ite2 (fun d => ?_) (fun d => ?_)⟩
      · have d1 : tw > 2 * valAt ns (f + t1.size) := of_decide_eq_true d
        have ew : wayOf tw (valAt ns (f + t1.size)) .fin = .rgt := by unfold wayOf; rw [if_neg (fun z => c1 z.symm), if_neg (by omega)]
        rw [ew] at hP hE
        refine ⟨_, rfl, _, _, rfl, rfl, ?_⟩
        refine ⟨_, rfl, _, rfl, _, rfl, _, rfl, a, _, _, _, rfl, rfl, .of (sm3 _ _ ha), item, _, _, rfl, rfl, .inl ⟨by decide, by decide⟩, _, _, rfl, rfl, .inr ⟨_, rfl, ?_⟩⟩
        refine ⟨b, _, _, x2, rfl, rfl, .of (sm3 _ _ eb), ?_, ?_⟩
        · rw [if_pos d]
          exact atI_nat (j := 1) rfl
        · refine ⟨t2.size, by omega, x2, t2, f + t1.size + 1, z ++ [f + t1.size], some (.int ((f : Int) + (t1.size : Int))), ?_, sm3, el3, h2, by omega, by omega, ?_, ?_, hE, rfl⟩
          · exact congrArg (fun q => [some x2, some (V.ref a), some (V.int tw), some (V.ref l), some (V.int q), some (V.int ((f : Int) + (t1.size : Int)))]) (by omega : (f : Int) + (t1.size : Int) + 1 = ((f + t1.size + 1 : Nat) : Int))
          · rw [List.length_append, List.length_singleton]
            omega
          · rw [hP, List.append_assoc]
            rfl
      · have d1 : ¬ tw > 2 * valAt ns (f + t1.size) := fun z => d (decide_eq_true z)
        have ew : wayOf tw (valAt ns (f + t1.size)) .fin = .lft := by unfold wayOf; rw [if_neg (fun z => c1 z.symm), if_pos (by omega)]
        rw [ew] at hP hE
        refine ⟨_, rfl, _, rfl, _, rfl, _, rfl, a, _, _, _, rfl, rfl, .of (sm3 _ _ ha), item, _, _, rfl, rfl, .inl ⟨by decide, by decide⟩, _, _, rfl, rfl, .inr ⟨_, rfl, ?_⟩⟩
        refine ⟨b, _, _, x1, rfl, rfl, .of (sm3 _ _ eb), ?_, ?_⟩
        · rw [if_neg d]
          exact atI_nat (j := 0) rfl
        · refine ⟨t1.size, by omega, x1, t1, f, z ++ [f + t1.size], some (.int ((f : Int) + (t1.size : Int))), rfl, sm3, el3, h1, by omega, by omega, ?_, ?_, hE, rfl⟩
          · rw [List.length_append, List.length_singleton]
            omega
          · rw [hP, List.append_assoc]
            rfl
end
end HSP
namespace HSP
open PySem PySem.Spec PyProof.Rows L2
theorem atI_last2 {α : Type} (xs : List α) (u v : α) : atI (xs ++ [u] ++ [v]) (-2) = some u := by
  have hl : (xs ++ [u] ++ [v]).length = xs.length + 2 := by simp
  have e : ixN (xs ++ [u] ++ [v]).length (-2) = some xs.length := by
    unfold ixN
    rw [hl, if_neg (by decide), if_pos (by omega)]
    exact congrArg some (by omega)
  unfold atI
  rw [e]
  show (xs ++ [u] ++ [v])[xs.length]? = some u
  rw [List.append_assoc, List.getElem?_append_right (Nat.le_refl _), Nat.sub_self]
  rfl
/-- what is found is met last -/
theorem sPath_last (g : Nat → Int) (tw : Int) (m : Md) : ∀ (t : Tr) (f : Nat), (sEnd g tw m t f).1 = true → ∃ z, sPath g tw m t f = z ++ [(sEnd g tw m t f).2]
  | .nil, _, h => by cases h
  | .nod l r, f, h => by
    have e : sEnd g tw m (.nod l r) f = match wayOf tw (g (f + l.size)) m with | .fin => (true, f + l.size) | .lft => sEnd g tw m l f | .rgt => sEnd g tw m r (f + l.size + 1) := rfl
    have e2 : sPath g tw m (.nod l r) f = (f + l.size) :: match wayOf tw (g (f + l.size)) m with | .fin => [] | .lft => sPath g tw m l f | .rgt => sPath g tw m r (f + l.size + 1) := rfl
    rw [e] at h ⊢
    rw [e2]
    cases w : wayOf tw (g (f + l.size)) m with
    | fin => exact ⟨[], rfl⟩
    | lft =>
      rw [w] at h
      obtain ⟨z, hz⟩ := sPath_last g tw m l f h
      exact ⟨(f + l.size) :: z, congrArg (List.cons _) hz⟩
    | rgt =>
      rw [w] at h
      obtain ⟨z, hz⟩ := sPath_last g tw m r (f + l.size + 1) h
      exact ⟨(f + l.size) :: z, congrArg (List.cons _) hz⟩
def kindW (b : Bool) : V := if b = true then .str "found" else .str "gap"
section
variable {P : Program} {w : World} {K : PySem.W.Frag} {mg : Str → Option Value} {base : Heap}
/-! ### _law_end -/
theorem sc_law_end : FnScope n_law_end p_law_end (defScope s_law_end) := ⟨rfl, rfl, rfl, by decide +kernel, rfl, by decide +kernel, by decide +kernel⟩
def spLawEnd (n : Nat) : Sp := fun vs H Q _ => ∃ (v : V) (t : Tr) (a : Addr) (ns : List Int) (tw : Int), vs = [v, .ref a, .int tw] ∧ TrAt H v t ∧ t.ht < n ∧ t.size ≤ 300 ∧ H a = some (.lst (ns.map V.int)) ∧ ns.length = t.size ∧
  ∀ (H' : Hp) (r : Addr), Same H H' → H r = none → H' r = some (.tup [kindW (sEnd (valAt ns) tw .fin t 0).1, natV (sEnd (valAt ns) tw .fin t 0).2]) → Q (.ref r) H'
theorem ok_lawEnd {n : Nat} (Vi : Df P w K mg base "_law_visits" (n + 1) p_law_visits (spVisits n)) (a : At K mg "_law_end" s_law_end) : Df P w K mg base "_law_end" (n + 2) p_law_end (spLawEnd n) := by
  refine Df.mk' a sc_law_end (fun vs H Q E h => ?_) (fun _ _ _ _ _ _ us hl => match us, hl with | [_, _, _], _ => rfl) (fun f cdv A outer s H vs Q E hr h => ?_)
  · obtain ⟨v, t, a, ns, tw, rfl, _⟩ := h
    rfl
  obtain ⟨v, t, a, ns, tw, rfl, ht, hd, hz, ha, hn, q⟩ := h
  refine ⟨_, (pss_cons (ps_set (i := 3) sc_law_end.nd rfl (.inl rfl) (pe_df Vi hr (pa_cons (pv 0) (pa_cons (pv 1) (pa_cons (pv 2) pa_nil)))))
 (pss_one (ps_ret (pe_ifExp (pt_cmpR op_eq (pe_ix ix_list (pv 3) (pe_un un_neg pe_int) (fun _ _ => rfl)) pe_str (nomark _)) (pe_tup (pa_cons pe_str (pa_cons (pe_ix ix_list (pv 3) (pe_un un_neg pe_int) (fun _ _ => rfl)) pa_nil))) (pe_tup (pa_cons pe_str (pa_cons (pe_ix ix_list (pv 3) (pe_un un_neg pe_int) (fun _ _ => rfl)) pa_nil))))))), ?_⟩
  refine ⟨v, rfl, _, rfl, _, rfl, v, t, a, ns, tw, rfl, ht, hd, hz, ha, hn, fun H1 p s1 n1 e1 => ?_⟩
  cases hb : (sEnd (valAt ns) tw .fin t 0).1 with
  | true =>
    obtain ⟨z, hz2⟩ := sPath_last (valAt ns) tw .fin t 0 hb
    have ee : endV (sEnd (valAt ns) tw .fin t 0) = .str "found" := by
      unfold endV
      rw [if_pos hb]
    rw [hz2, ee, List.map_append] at e1
    rw [hb] at q
    refine ⟨_, rfl, _, rfl, p, _, _, _, rfl, rfl, .of e1, atI_last _ _, rfl, _, rfl, ite_yes rfl ?_⟩
    refine ⟨_, rfl, _, rfl, p, _, _, _, rfl, rfl, .of e1, atI_last2 _ _ _, (by show 2 ≤ sizeLine; decide), fun r hr' => ?_⟩
    exact q _ r (s1.trans (Same.new hr')) (s1.free hr') upd_same
  | false =>
    have ee : endV (sEnd (valAt ns) tw .fin t 0) = natV (sEnd (valAt ns) tw .fin t 0).2 := by
      unfold endV
      rw [if_neg (by rw [hb]; exact Bool.false_ne_true)]
    rw [ee] at e1
    rw [hb] at q
    refine ⟨_, rfl, _, rfl, p, _, _, _, rfl, rfl, .of e1, atI_last _ _, rfl, _, rfl, ite_no (fun z => by cases z) ?_⟩
    refine ⟨_, rfl, _, rfl, p, _, _, _, rfl, rfl, .of e1, atI_last _ _, (by show 2 ≤ sizeLine; decide), fun r hr' => ?_⟩
    exact q _ r (s1.trans (Same.new hr')) (s1.free hr') upd_same
end
end HSP
namespace HSP
open PySem PySem.Spec PyProof.Rows L2
/-! ## the law's call, where nothing is being shown -/
section
variable {P : Program} {w : World} {K : PySem.W.Frag} {mg mb : Str → Option Value} {k : Nat} {fa a : Addr} {fd : FuncData} {x : Str} {sp : Sp} {s1 : Shared} {vs : List Value} {ns : List Int}
/-- from an abstract heap that tracks nothing but, perhaps, the script -/
theorem callG_core (kin : K.In s1.heap) (hns : s1.heap.Ns mainGlobals mg) (hb : s1.heap.Ns builtinsNs mb) (hbb : ∀ x : Str, x ≠ "__name__" → mb x = bootBuiltins x) (hlim : s1.heap.NoLimit) (hg : s1.gens = #[])
    (ha : s1.heap.get? a = some { cls := .type "list", data := .seq vs.toArray }) (hr : Room k callerA) (F : ∀ base : Heap, K.In base → base.Ns mainGlobals mg → FnG P w K mg base CX0 k fa fd [x] sp)
    (hbind : ∀ (s : Shared) (u : Value), BindsTo s fd ⟨[u], []⟩ [(x, u)]) (H : Hp) (hO : Only H) (hsp : sp [.ref a] H (fun v _ => v = .bl true) fun _ _ _ => False) (hok : HOk P w H s1.heap) (hA : ∀ b o, H b = some o → b = a) (hK : ∀ o, H a = some o → K.lookup a = none) :
    codeAny (model P w) callerA (.call (.ref fa) ⟨[.ref a], []⟩) (fun r s' => r = .ok (.ret (.bool true)) ∧ OldK s1.heap s'.heap ∧ s'.os = s1.os ∧ AllBare s'.gens) s1 := by
  -- no dict is tracked
  have free : ∀ {b : Addr} {o : Obj} {es : Array DictEntry} {ep : Nat}, s1.heap.get? b = some o → o.data = .dict es ep → H b = none := by
    intro b o es ep e d
    match q : H b with
    | none => rfl
    | some u =>
      rw [hA b u q, ha] at e
      cases e
      cases d
  have nsB : ∀ {b : Addr} {m : Str → Option Value}, s1.heap.Ns b m → (hidT s1.heap H).Ns b m := by
    intro b m h
    obtain ⟨o, es, ep, e, d, r⟩ := h
    exact ⟨o, es, ep, hidT_get e (free e d), d, r⟩
  have kinB : K.In (hidT s1.heap H) := by
    intro b o e
    refine hidT_get (kin b o e) ?_
    match q : H b with
    | none => rfl
    | some u =>
      have eb := hA b u q
      rw [eb] at e q
      rw [hK u q] at e
      cases e
  have md : Mod K mg (hidT s1.heap H) := by
    obtain ⟨mc, c1, c2⟩ := hlim
    exact ⟨kinB, nsB hns, ⟨mb, nsB hb, hbb⟩, mc, nsB c1, c2⟩
  have env : Env0 P w K mg (hidT s1.heap H) callerA [] s1 H := ⟨rfl, md, fun b o e => of_hidT e, Nat.le_of_eq (hidT_size _ _), trivial, (fun b z => by cases z), hok, .of_eq hg⟩
  refine codeAny_mono ((F _ kinB (nsB hns)).run callerA [] s1 H ⟨[.ref a], []⟩ [.ref a] [.ref a] _ _ rfl hr env (hbind s1 (.ref a)) (.cons rfl .nil) hsp) fun r s' h => ?_
  match r, h with
  | .error _, h => exact (show False from h).elim
  | .ok (.ret u), h =>
    obtain ⟨v, H', os, bare, un, hok', rv, q⟩ := h
    have q' : v = .bl true := q
    rw [q'] at rv
    have eu : u = Value.bool true := rv
    rw [eu]
    refine ⟨rfl, OldK.of_keep fun b o e => ?_, os, bare⟩
    match q : H b with
    | none => exact un.keep b o e q (fun z => by cases z) (fun z => by cases z)
    | some u =>
      rcases hO b with z | ⟨ob, xs, z⟩
      · rw [q] at z
        cases z
      · have b1 := (hok b _ z).1
        have b2 := (hok' b _ (un.frzs b ob _ z)).1
        rw [e] at b1
        cases b1
        exact b2
theorem law_callG (kin : K.In s1.heap) (hns : s1.heap.Ns mainGlobals mg) (hb : s1.heap.Ns builtinsNs mb) (hbb : ∀ x : Str, x ≠ "__name__" → mb x = bootBuiltins x) (hlim : s1.heap.NoLimit) (hg : s1.gens = #[])
    (ha : s1.heap.get? a = some { cls := .type "list", data := .seq vs.toArray }) (hi : IntsAre vs ns) (hl : ns.length ≤ sizeLine) (hr : Room k callerA) (F : ∀ base : Heap, K.In base → base.Ns mainGlobals mg → FnG P w K mg base CX0 k fa fd [x] sp)
    (hbind : ∀ (s : Shared) (u : Value), BindsTo s fd ⟨[u], []⟩ [(x, u)]) (hsp : ∀ H : Hp, Only H → SqL K H a (ns.map V.int) → sp [.ref a] H (fun v _ => v = .bl true) fun _ _ _ => False) :
    codeAny (model P w) callerA (.call (.ref fa) ⟨[.ref a], []⟩) (fun r s' => r = .ok (.ret (.bool true)) ∧ OldK s1.heap s'.heap ∧ s'.os = s1.os ∧ AllBare s'.gens) s1 := by
  have rv := vals_ints hi
  have le : vs.length = ns.length := hi.length
  match hk : K.lookup a with
  | some o =>
    have e := kin a o hk
    rw [ha] at e
    cases e
    refine callG_core kin hns hb hbb hlim hg ha hr F hbind (fun _ => none) (fun _ => .inl rfl) (hsp _ (fun _ => .inl rfl) ?_) (fun b u z => by cases z) (fun b o z => by cases z) (fun o z => by cases z)
    exact .inr ⟨_, vs.toArray, _, hk, rfl, rfl, rfl, by rw [List.size_toArray, le]; exact hl, by rw [List.toList_toArray]; exact rv⟩
  | none =>
    let H : Hp := fun b => if b = a then some (.frz { cls := .type "list", data := .seq vs.toArray } (.lst (ns.map V.int))) else none
    have at_a : H a = some (.frz { cls := .type "list", data := .seq vs.toArray } (.lst (ns.map V.int))) := if_pos rfl
    have off : ∀ b, b ≠ a → H b = none := fun b n => if_neg n
    have only : Only H := fun b => by
      by_cases c : b = a
      · rw [c]; exact .inr ⟨_, _, at_a⟩
      · exact .inl (off b c)
    refine callG_core kin hns hb hbb hlim hg ha hr F hbind H only (hsp H only (.inl (.inr ⟨_, at_a⟩))) (fun b u z => ?_) (fun b o z => ?_) (fun _ _ => hk)
    · by_cases c : b = a
      · rw [c] at z ⊢
        rw [at_a] at z
        cases z
        exact ⟨ha, by rw [List.length_map]; exact hl, vs, _, rv, ha⟩
      · rw [off b c] at z
        cases z
    · by_cases c : b = a
      · exact c
      · rw [off b c] at z
        cases z
end
/-- what the head leaves, from the law's promise -/
theorem walk_ofG {l : PySem.W.OpenLaw} {n k : Nat} {q : Program} {loose : List Str} {XP : (Str → Option Value) → Heap → Prop} {YP : World → Heap → Prop} {d : DefRec} {K : Params → PySem.W.Frag} {sp : World → Sp} {x : Str} (hn : l.most = some n) (hn2 : n ≤ sizeLine) (hdf : d.params.defaults = []) (hr : Room k callerA)
    (hY : ∀ (w : World) (h : Heap), YP w h → (K w.params).In h)
    (F : ∀ (w : World) (mg : Str → Option Value) (fa : Addr) (h : Heap), (K w.params).In h → h.Ns mainGlobals mg → mg d.name = some (.ref fa) → ∃ fd : FuncData, (∀ (s : Shared) (u : Value), BindsTo s fd ⟨[u], []⟩ [(x, u)]) ∧
        ∀ base : Heap, (K w.params).In base → base.Ns mainGlobals mg → FnG l.prog w (K w.params) mg base CX0 k fa fd [x] (sp w))
    (hsp : ∀ (w : World) (H : Hp) (a : Addr) (ns : List Int), ns.length ≤ n → Only H → SqL (K w.params) H a (ns.map V.int) → sp w [.ref a] H (fun v _ => v = .bl true) fun _ _ _ => False) : PySem.W.WalkO q loose XP YP l.row.toRowW d [] (fun f vs => PySem.call f vs) := by
  refine Att.attach_call hn hdf fun w s0 s1 mg mb fa o pm cd doc a vs ns G Y ho hd hcd hmg hobj hints hlen hg => ?_
  obtain ⟨fd, hbd, hF⟩ := F w mg fa _ (hY w _ Y) G.T.g hmg
  exact law_callG (hY w _ Y) G.T.g G.T.b G.T.builtins G.T.nolimit hg hobj hints (Nat.le_trans hlen hn2) hr hF hbd fun H hO hS => hsp w H a ns hlen hO hS
end HSP
namespace HSP
open PySem PySem.Spec PyProof.Rows L2
theorem cut_last (xs : List V) (y : V) : cutV (xs ++ [y]) none (some (-1)) = xs := by
  unfold cutV
  have e : HT.sIx (xs ++ [y]).length (xs ++ [y]).length (some (-1)) = xs.length := by
    show (if (-1 : Int) < 0 then ((-1 : Int) + ((xs ++ [y]).length : Int)).toNat else min (-1 : Int).toNat (xs ++ [y]).length) = xs.length
    rw [if_pos (by decide), List.length_append, List.length_singleton]
    omega
  rw [e, HT.sIx_none, List.drop_zero, Nat.sub_zero, List.take_left]
theorem inV_nat (i : Nat) : ∀ xs : List Nat, inV (natV i) (xs.map natV) = decide (i ∈ xs)
  | [] => rfl
  | x :: r => by
    have ih := inV_nat i r
    have e : inV (natV i) ((x :: r).map natV) = (eqV (natV x) (natV i) || inV (natV i) (r.map natV)) := rfl
    rw [e, ih]
    have e2 : eqV (natV x) (natV i) = decide ((x : Int) = (i : Int)) := rfl
    rw [e2]
    by_cases c : i = x
    · rw [decide_eq_true (show (x : Int) = (i : Int) by omega), Bool.true_or, decide_eq_true (List.mem_cons.mpr (.inl c))]
    · rw [decide_eq_false (show ¬ (x : Int) = (i : Int) by omega), Bool.false_or]
      by_cases d : i ∈ r
      · rw [decide_eq_true d, decide_eq_true (List.mem_cons_of_mem _ d)]
      · rw [decide_eq_false d, decide_eq_false (fun z => (List.mem_cons.mp z).elim c d)]
theorem inV_int (i : Int) : ∀ xs : List Int, inV (.int i) (xs.map V.int) = decide (i ∈ xs)
  | [] => rfl
  | x :: r => by
    have ih := inV_int i r
    have e : inV (.int i) ((x :: r).map V.int) = (eqV (.int x) (.int i) || inV (.int i) (r.map V.int)) := rfl
    rw [e, ih]
    have e2 : eqV (.int x) (.int i) = decide (x = i) := rfl
    rw [e2]
    by_cases c : i = x
    · rw [decide_eq_true c.symm, Bool.true_or, decide_eq_true (List.mem_cons.mpr (.inl c))]
    · rw [decide_eq_false (show ¬ x = i by omega), Bool.false_or]
      by_cases d : i ∈ r
      · rw [decide_eq_true d, decide_eq_true (List.mem_cons_of_mem _ d)]
      · rw [decide_eq_false d, decide_eq_false (fun z => (List.mem_cons.mp z).elim c d)]
theorem flat_nats : ∀ xs : List Nat, (xs.map natV).all flatV = true
  | [] => rfl
  | x :: r => by
    rw [List.map_cons, List.all_cons, flat_nats r]
    rfl
theorem flat_ints : ∀ xs : List Int, (xs.map V.int).all flatV = true
  | [] => rfl
  | x :: r => by
    rw [List.map_cons, List.all_cons, flat_ints r]
    rfl
/-! ### lists of ints as data -/
def intsD (l : List Int) : PyData := .list (l.map PyData.int)
theorem ints_can : ∀ l : List Int, PyData.canLayAll0 (l.map PyData.int) = true
  | [] => by simp [PyData.canLayAll0]
  | z :: r => by
    have ih := ints_can r
    simp only [List.map_cons, PyData.canLayAll0, PyData.canLay0, ih, Bool.and_self]
theorem ints_deep : ∀ l : List Int, PyData.depthAll (l.map PyData.int) ≤ 1
  | [] => by simp [PyData.depthAll]
  | z :: r => by
    have ih := ints_deep r
    simp only [List.map_cons, PyData.depthAll, PyData.depth]
    omega
theorem ints_shaped (l : List Int) : SeqAt.shaped (intsD l) = true := by
  unfold SeqAt.shaped intsD
  have h1 := ints_can l
  have h2 := ints_deep l
  rw [Bool.and_eq_true]
  refine ⟨by simp only [PyData.canLay0]; exact h1, decide_eq_true ?_⟩
  simp only [PyData.depth]
  omega
theorem ints_dpAll {K : PySem.W.Frag} {H : Hp} : ∀ l : List Int, DpAll K H (l.map V.int) (l.map PyData.int)
  | [] => .nil
  | z :: r => .cons (.int z) (ints_dpAll r)
theorem ints_none (l : List Int) : PyData.eqv (intsD l) (intsD []) = decide (l = []) := by
  cases l with
  | nil => rw [decide_eq_true rfl]; exact SeqAt.eqv_refl _ (by unfold intsD; simp only [PyData.canLay0]; exact ints_can [])
  | cons x r =>
    rw [decide_eq_false (List.cons_ne_nil _ _)]
    unfold intsD
    simp [PyData.eqv, PyData.eqvAll]
end HSP
namespace HSP
open PySem PySem.Spec PyProof.Rows L2
/-! ## how data are shown: lengths -/
theorem piled_le (c : Nat) : ∀ ds : List PyData, (∀ d, d ∈ ds → d.shown.length ≤ c) → piled (PyData.shownAll ds) ≤ ds.length * (c + 2)
  | [], _ => by simp [PyData.shownAll, piled_nil]
  | d :: ds, h => by
    have ih := piled_le c ds fun e he => h e (List.mem_cons_of_mem _ he)
    have h1 := h d List.mem_cons_self
    have e : PyData.shownAll (d :: ds) = d.shown :: PyData.shownAll ds := by simp [PyData.shownAll]
    rw [e, piled_cons, List.length_cons, Nat.add_mul]
    omega
theorem listText_le : ∀ ts : List Str, (listText ts).length ≤ piled ts + 2
  | [] => by decide +kernel
  | t :: r => by
    have e : listText (t :: r) = textFrom 1 (("[" : Str) ++ (if 0 > 0 then ", " else "" : String) ++ t) r ++ "]" := rfl
    rw [e, strLen_append, textFrom_length_pos _ _ _ (by decide), strLen_append, strLen_append, piled_cons]
    have e1 : (("[" : String) : Str).length = 1 := rfl
    have e2 : (("]" : String) : Str).length = 1 := rfl
    have e3 : ((if 0 > 0 then ", " else "" : String) : Str).length = 0 := rfl
    omega
theorem tupleText_le (ts : List Str) : (tupleText ts).length ≤ piled ts + 3 := by
  unfold tupleText
  rw [strLen_append, strLen_append]
  have e1 : (("(" : String) : Str).length = 1 := rfl
  have e2 : ((if ts.length == 1 then ",)" else ")" : String) : Str).length ≤ 2 := by
    split <;> decide +kernel
  have e3 : (Str.join ", " ts).length ≤ piled ts := by
    by_cases c : ts = []
    · rw [c]
      decide +kernel
    · have := join_length_add ts c
      omega
  omega
theorem shown_list_le (c : Nat) (ds : List PyData) (h : ∀ d, d ∈ ds → d.shown.length ≤ c) : (PyData.list ds).shown.length ≤ ds.length * (c + 2) + 2 := by
  have e : (PyData.list ds).shown = listText (PyData.shownAll ds) := by simp only [PyData.shown]
  rw [e]
  have h1 := listText_le (PyData.shownAll ds)
  have h2 := piled_le c ds h
  omega
/-! ### trees as data -/
def treeD : Tr → PyData
  | .nil => .none
  | .nod l r => .tuple [treeD l, treeD r]
theorem treeD_len : ∀ t : Tr, (treeD t).shown.length ≤ 11 * t.size + 4
  | .nil => by
    show (PyData.none).shown.length ≤ _
    simp only [PyData.shown]
    decide +kernel
  | .nod l r => by
    have h1 := treeD_len l
    have h2 := treeD_len r
    have e : (treeD (.nod l r)).shown = tupleText [(treeD l).shown, (treeD r).shown] := by
      show (PyData.tuple [treeD l, treeD r]).shown = _
      simp only [PyData.shown, PyData.shownAll]
    have z : (Tr.nod l r).size = l.size + 1 + r.size := rfl
    have h3 := tupleText_le [(treeD l).shown, (treeD r).shown]
    rw [piled_cons, piled_cons, piled_nil] at h3
    rw [e, z]
    omega
theorem treeD_show : ∀ t : Tr, (treeD t).showable = true
  | .nil => by simp only [treeD, PyData.showable]
  | .nod l r => by simp only [treeD, PyData.showable, PyData.showableAll, treeD_show l, treeD_show r, Bool.and_self]
theorem treeD_dict : ∀ t : Tr, (treeD t).hasDict = false
  | .nil => by simp only [treeD, PyData.hasDict]
  | .nod l r => by simp only [treeD, PyData.hasDict, PyData.hasDictAll, treeD_dict l, treeD_dict r, Bool.or_self]
theorem treeD_deep : ∀ t : Tr, (treeD t).depth ≤ t.ht
  | .nil => by simp only [treeD, PyData.depth]; exact Nat.zero_le _
  | .nod l r => by
    have h1 := treeD_deep l
    have h2 := treeD_deep r
    have e : (Tr.nod l r).ht = max l.ht r.ht + 1 := rfl
    simp only [treeD, PyData.depth, PyData.depthAll]
    omega
theorem TrAt.dp {K : PySem.W.Frag} {H : Hp} {v : V} {t : Tr} (h : TrAt H v t) : Dp K H v (treeD t) := by
  induction h with
  | nil => exact .non
  | nod eb _ _ ih1 ih2 => exact .tup (.of eb) (.cons ih1 (.cons ih2 .nil))
/-! ### lists of numbers -/
theorem ints_show : ∀ l : List Int, (∀ v, v ∈ l → v.natAbs.log2 < 1920) → PyData.showableAll (l.map PyData.int) = true
  | [], _ => by simp [PyData.showableAll]
  | z :: r, h => by
    have ih := ints_show r fun v hv => h v (List.mem_cons_of_mem _ hv)
    have h1 := h z List.mem_cons_self
    simp only [List.map_cons, PyData.showableAll, PyData.showable, ih, decide_eq_true h1, Bool.and_self]
theorem ints_dict : ∀ l : List Int, PyData.hasDictAll (l.map PyData.int) = false
  | [] => by simp [PyData.hasDictAll]
  | z :: r => by simp only [List.map_cons, PyData.hasDictAll, PyData.hasDict, ints_dict r, Bool.or_self]
theorem int_len {z : Int} (h : z.natAbs < 10 ^ 30) : (PyData.int z).shown.length ≤ 31 := by
  simp only [PyData.shown]
  rw [show (Str.ofString (toString z)).length = (toString z).length from PySem.ofString_length _]
  exact int_text_length_le10 (k := 30) (by decide) h
theorem int_log {z : Int} (h : z.natAbs < 10 ^ 30) : z.natAbs.log2 < 1920 := by
  by_cases c : z.natAbs = 0
  · rw [c]
    decide
  · exact (Nat.log2_lt c).mpr (Nat.lt_of_lt_of_le h (by decide +kernel))
/-- what repr and == ask of data -/
structure Fine (d : PyData) : Prop where
  show_ : d.showable = true
  dict : d.hasDict = false
  deep : d.depth ≤ 60
  len : d.shown.length ≤ sizeLine
/-- numbers that are not too great -/
def Tame (l : List Int) : Prop := ∀ v, v ∈ l → v.natAbs < 10 ^ 30
theorem intsD_len {l : List Int} (h : Tame l) : (intsD l).shown.length ≤ l.length * 33 + 2 := by
  have := shown_list_le 31 (l.map PyData.int) fun d hd => by
    obtain ⟨v, hv, rfl⟩ := List.mem_map.mp hd
    exact int_len (h v hv)
  rw [List.length_map] at this
  exact this
theorem ints_fine {l : List Int} (h : Tame l) (n : l.length ≤ 1000) : Fine (intsD l) := by
  have h1 := intsD_len h
  have h2 := ints_deep l
  refine ⟨?_, ?_, ?_, ?_⟩
  · unfold intsD
    simp only [PyData.showable]
    exact ints_show l fun v hv => int_log (h v hv)
  · unfold intsD
    simp only [PyData.hasDict]
    exact ints_dict l
  · unfold intsD
    simp only [PyData.depth]
    omega
  · have : sizeLine = 16777216 := rfl
    omega
/-- [d, e] -/
theorem pair_fine {d e : PyData} (hd : Fine d) (he : Fine e) (h1 : d.depth ≤ 59) (h2 : e.depth ≤ 59) (c : Nat) (l1 : d.shown.length ≤ c) (l2 : e.shown.length ≤ c) (hc : c ≤ 100000) : Fine (.list [d, e]) := by
  refine ⟨?_, ?_, ?_, ?_⟩
  · simp only [PyData.showable, PyData.showableAll, hd.show_, he.show_, Bool.and_self]
  · simp only [PyData.hasDict, PyData.hasDictAll, hd.dict, he.dict, Bool.or_self]
  · simp only [PyData.depth, PyData.depthAll]
    omega
  · have := shown_list_le c [d, e] fun x hx => by
      rcases List.mem_cons.mp hx with z | z
      · rw [z]; exact l1
      · rw [List.mem_singleton.mp z]; exact l2
    have e1 : [d, e].length = 2 := rfl
    rw [e1] at this
    have : sizeLine = 16777216 := rfl
    omega
theorem tree_fine {t : Tr} (h : t.size ≤ 100) (d : t.ht ≤ 40) : Fine (treeD t) := by
  have h1 := treeD_len t
  have h2 := treeD_deep t
  have : sizeLine = 16777216 := rfl
  exact ⟨treeD_show t, treeD_dict t, by omega, by omega⟩
/-- [tree, values] -/
def argsD (t : Tr) (ns : List Int) : PyData := .list [treeD t, intsD ns]
theorem args_fine {t : Tr} {ns : List Int} (h : t.size ≤ 20) (n : ns.length ≤ 20) (hn : Tame ns) : Fine (argsD t ns) := by
  have h1 := treeD_len t
  have h2 := treeD_deep t
  have h3 := t.ht_le
  have h4 := intsD_len hn
  have h5 : (intsD ns).depth ≤ 2 := by
    have := ints_deep ns
    unfold intsD
    simp only [PyData.depth]
    omega
  exact pair_fine (tree_fine (by omega) (by omega)) (ints_fine hn (by omega)) (by omega) (by omega) 1000 (by omega) (by omega) (by decide)
/-- numbers that the law may make of those drawn -/
def Mid (ns : List Int) : Prop := ∀ v, v ∈ ns → -10000000000000000000000 < v ∧ v < 10000000000000000000000
theorem Mid.tame {ns : List Int} (h : Mid ns) : Tame ns := fun v hv => by
  have := h v hv
  have e : (10 : Nat) ^ 30 = 1000000000000000000000000000000 := by decide +kernel
  rw [e]
  omega
theorem Mid.nil : Mid [] := fun _ h => by cases h
theorem Mid.snoc {ns : List Int} {v : Int} (h : Mid ns) (h1 : -10000000000000000000000 < v ∧ v < 10000000000000000000000) : Mid (ns ++ [v]) := fun x hx => by
  rcases List.mem_append.mp hx with z | z
  · exact h x z
  · rw [List.mem_singleton.mp z]
    exact h1
theorem Mid.set {ns : List Int} {v : Int} {i : Nat} (h : Mid ns) (h1 : -10000000000000000000000 < v ∧ v < 10000000000000000000000) : Mid (ns.set i v) := fun x hx => by
  rcases List.mem_or_eq_of_mem_set hx with z | z
  · exact h x z
  · rw [z]
    exact h1
theorem ints_can0 (l : List Int) : PyData.canLay0 (intsD l) = true := by
  unfold intsD
  simp only [PyData.canLay0]
  exact ints_can l
theorem args_dp {K : PySem.W.Frag} {H : Hp} {a b : Addr} {v : V} {t : Tr} {ns : List Int} (ha : H a = some (.lst [v, .ref b])) (hv : TrAt H v t) (hb : H b = some (.lst (ns.map V.int))) : Dp K H (.ref a) (argsD t ns) :=
  .lst (.of ha) (.cons hv.dp (.cons (.lst (.of hb) (ints_dpAll ns)) .nil))
end HSP
namespace HSP
open PySem PySem.Spec PyProof.Rows L2
/-! ## heaps: all but some places stay -/
def Stay (X : List Addr) (H H' : Hp) : Prop := ∀ b o, b ∉ X → H b = some o → H' b = some o
theorem Stay.refl (X : List Addr) (H : Hp) : Stay X H H := fun _ _ _ e => e
theorem Stay.trans {X : List Addr} {H H1 H2 : Hp} (a : Stay X H H1) (b : Stay X H1 H2) : Stay X H H2 := fun c o n e => b c o n (a c o n e)
theorem Stay.of {X : List Addr} {H H' : Hp} (s : Same H H') : Stay X H H' := fun b o _ e => s b o e
theorem Stay.new {X : List Addr} {H : Hp} {p : Addr} {o : HO} (h : H p = none) : Stay X H (upd H p o) := fun b u _ e => by
  rw [upd_ne (ne_of_none e h)]; exact e
theorem Stay.at {X : List Addr} {H : Hp} {p : Addr} {o : HO} (h : p ∈ X) : Stay X H (upd H p o) := fun b u n e => by
  rw [upd_ne (fun z : b = p => n (by rw [z]; exact h))]; exact e
theorem Stay.mono {X Y : List Addr} {H H' : Hp} (a : Stay X H H') (h : ∀ x, x ∈ X → x ∈ Y) : Stay Y H H' := fun b o n e => a b o (fun z => n (h b z)) e
theorem Stay.then {X : List Addr} {H H1 H2 : Hp} (a : Stay X H H1) (b : Same H1 H2) : Stay X H H2 := a.trans (.of b)
theorem Stay.anew {X : List Addr} {H H1 : Hp} {p : Addr} {o : HO} (a : Stay X H H1) (h : H1 p = none) : Stay X H (upd H1 p o) := a.trans (.new h)
theorem Stay.put {X : List Addr} {H H1 : Hp} {p : Addr} {o : HO} (a : Stay X H H1) (h : p ∈ X) : Stay X H (upd H1 p o) := a.trans (.at h)
theorem Stay.free {X : List Addr} {H H' : Hp} {b : Addr} (a : Stay X H H') (n : b ∉ X) (h : H' b = none) : H b = none := by
  cases e : H b with
  | none => rfl
  | some o => cases h.symm.trans (a b o n e)
/-- what was not tracked at first may be written -/
theorem Stay.same {X : List Addr} {H H1 H' : Hp} (s : Same H H1) (n : ∀ x, x ∈ X → H x = none) (k : Stay X H1 H') : Same H H' := fun b o e => k b o (fun z => by rw [n b z] at e; cases e) (s b o e)
theorem no2 {a b c : Addr} (h1 : a ≠ b) (h2 : a ≠ c) : a ∉ [b, c] := fun z => by
  rcases List.mem_cons.mp z with q | q
  · exact h1 q
  · exact h2 (List.mem_singleton.mp q)
theorem no1 {a b : Addr} (h1 : a ≠ b) : a ∉ [b] := fun z => h1 (List.mem_singleton.mp z)
theorem in2l {a b : Addr} : a ∈ [a, b] := List.mem_cons_self
theorem in2r {a b : Addr} : b ∈ [a, b] := List.mem_cons_of_mem _ List.mem_cons_self
theorem in1 {a : Addr} : a ∈ [a] := List.mem_cons_self
theorem tup_ne {H : Hp} {a b : Addr} {xs ys : List V} (h : H a = some (.tup xs)) (h2 : H b = some (.lst ys)) : a ≠ b := fun z => by
  rw [z, h2] at h; cases h
theorem TrAt.stay {X : List Addr} {H H' : Hp} {v : V} {t : Tr} (h : TrAt H v t) (k : Stay X H H') (n : ∀ x, x ∈ X → ∃ ys, H x = some (.lst ys)) : TrAt H' v t :=
  h.keep fun a x y e => k a _ (fun z => by
    obtain ⟨ys, q⟩ := n a z
    rw [q] at e
    cases e) e
theorem valAt_mem {ns : List Int} {i : Nat} (h : i < ns.length) : valAt ns i ∈ ns := by
  have e : valAt ns i = ns[i] := by
    unfold valAt
    rw [List.getD_eq_getElem?_getD, List.getElem?_eq_getElem h]
    rfl
  rw [e]
  exact List.getElem_mem h
theorem TrAt.put {H : Hp} {v : V} {t : Tr} {a : Addr} {xs : List V} {o : HO} (h : TrAt H v t) (e : H a = some (.lst xs)) : TrAt (upd H a o) v t := by
  refine h.keep fun b x y eb => ?_
  rw [upd_ne]
  · exact eb
  · intro z
    rw [z, e] at eb
    cases eb
theorem Keep.free {p q : Addr} {H H' : Hp} (k : Keep p H H') (n : q ≠ p) (h : H' q = none) : H q = none := by
  cases e : H q with
  | none => rfl
  | some o => cases h.symm.trans (k q o n e)
theorem Paired.getL {α β : Type} {R : α → β → Prop} : ∀ {l : List α} {m : List β} {i : Nat} {x : α}, Paired R l m → l[i]? = some x → ∃ y, m[i]? = some y ∧ R x y
  | _, _, i, _, .nil, e => by simp at e
  | _, _, 0, _, .cons h _, e => by
    cases Option.some.inj (show some _ = some _ from e)
    exact ⟨_, rfl, h⟩
  | _, _, i + 1, _, .cons _ t, e => Paired.getL (i := i) t e
end HSP
namespace HSP
open PySem PySem.Spec PyProof.Rows L2
/-! ## what the laws' right sides share -/
theorem Mid.of {ns : List Int} (h : Near ns) : Mid ns := fun v hv => by
  have := h v hv
  omega
def spRight : Sp := fun vs H Q _ => ∃ (p : Addr) (k : Nat), vs = [.ref p] ∧ DrAt H p k ∧ k ≤ 1000 ∧ ∀ H' : Hp, Keep p H H' → DrAt H' p (k + 200) → Q (.bl true) H'
end HSP
namespace HSP
open PySem PySem.Spec PyProof.Rows L2
/-! ### tuples of None, numbers and short texts as data -/
def vD : V → PyData
  | .bl b => .bool b
  | .int i => .int i
  | .str x => .str x
  | _ => .none
/-- what may stand in such a tuple -/
def Plain : V → Prop
  | .non => True
  | .int i => i.natAbs < 10 ^ 30
  | .str x => PyData.strOk x = true ∧ (reprText x).length ≤ 31
  | _ => False
theorem Plain.dp {K : PySem.W.Frag} {H : Hp} {v : V} (h : Plain v) : Dp K H v (vD v) := by
  cases v with
  | non => exact .non
  | int i => exact .int i
  | str x => exact .str x
  | _ => exact h.elim
theorem Plain.len {v : V} (h : Plain v) : (vD v).shown.length ≤ 31 := by
  cases v with
  | non => simp only [vD, PyData.shown]; decide +kernel
  | int i => exact int_len h
  | str x => simp only [vD, PyData.shown]; exact h.2
  | _ => exact h.elim
theorem Plain.can {v : V} (h : Plain v) : PyData.canLay0 (vD v) = true := by
  cases v with
  | non => simp only [vD, PyData.canLay0]
  | int i => simp only [vD, PyData.canLay0]
  | str x => simp only [vD, PyData.canLay0]; exact h.1
  | _ => exact h.elim
theorem Plain.show_ {v : V} (h : Plain v) : (vD v).showable = true := by
  cases v with
  | non => simp only [vD, PyData.showable]
  | int i => simp only [vD, PyData.showable]; exact decide_eq_true (int_log h)
  | str x => simp only [vD, PyData.showable]
  | _ => exact h.elim
theorem vD_dict (v : V) : (vD v).hasDict = false := by
  cases v <;> simp only [vD, PyData.hasDict]
theorem vD_deep (v : V) : (vD v).depth = 0 := by
  cases v <;> simp only [vD, PyData.depth]
def Plains (xs : List V) : Prop := ∀ v, v ∈ xs → Plain v
theorem plains_dp {K : PySem.W.Frag} {H : Hp} : ∀ xs : List V, Plains xs → DpAll K H xs (xs.map vD)
  | [], _ => .nil
  | x :: r, h => .cons (h x List.mem_cons_self).dp (plains_dp r fun v hv => h v (List.mem_cons_of_mem _ hv))
theorem plains_can : ∀ xs : List V, Plains xs → PyData.canLayAll0 (xs.map vD) = true
  | [], _ => by simp [PyData.canLayAll0]
  | x :: r, h => by
    have ih := plains_can r fun v hv => h v (List.mem_cons_of_mem _ hv)
    have h1 := (h x List.mem_cons_self).can
    simp only [List.map_cons, PyData.canLayAll0, h1, ih, Bool.and_self]
theorem plains_show : ∀ xs : List V, Plains xs → PyData.showableAll (xs.map vD) = true
  | [], _ => by simp [PyData.showableAll]
  | x :: r, h => by
    have ih := plains_show r fun v hv => h v (List.mem_cons_of_mem _ hv)
    have h1 := (h x List.mem_cons_self).show_
    simp only [List.map_cons, PyData.showableAll, h1, ih, Bool.and_self]
theorem plains_dict : ∀ xs : List V, PyData.hasDictAll (xs.map vD) = false
  | [] => by simp [PyData.hasDictAll]
  | x :: r => by simp only [List.map_cons, PyData.hasDictAll, vD_dict, plains_dict r, Bool.or_self]
theorem plains_deep : ∀ xs : List V, PyData.depthAll (xs.map vD) ≤ 1
  | [] => by simp [PyData.depthAll]
  | x :: r => by
    have ih := plains_deep r
    have h1 := vD_deep x
    simp only [List.map_cons, PyData.depthAll]
    omega
/-- a tuple of such -/
def rowD (xs : List V) : PyData := .tuple (xs.map vD)
theorem shown_tuple_le (c : Nat) (ds : List PyData) (h : ∀ d, d ∈ ds → d.shown.length ≤ c) : (PyData.tuple ds).shown.length ≤ ds.length * (c + 2) + 3 := by
  have e : (PyData.tuple ds).shown = tupleText (PyData.shownAll ds) := by simp only [PyData.shown]
  rw [e]
  have h1 := tupleText_le (PyData.shownAll ds)
  have h2 := piled_le c ds h
  omega
theorem row_len {xs : List V} (h : Plains xs) (n : xs.length ≤ 5) : (rowD xs).shown.length ≤ 168 := by
  have := shown_tuple_le 31 (xs.map vD) fun d hd => by
    obtain ⟨v, hv, rfl⟩ := List.mem_map.mp hd
    exact (h v hv).len
  rw [List.length_map] at this
  show (PyData.tuple (xs.map vD)).shown.length ≤ 168
  omega
theorem row_can {xs : List V} (h : Plains xs) : PyData.canLay0 (rowD xs) = true := by
  unfold rowD
  simp only [PyData.canLay0]
  exact plains_can xs h
theorem row_show {xs : List V} (h : Plains xs) : (rowD xs).showable = true := by
  unfold rowD
  simp only [PyData.showable]
  exact plains_show xs h
theorem row_dict (xs : List V) : (rowD xs).hasDict = false := by
  unfold rowD
  simp only [PyData.hasDict]
  exact plains_dict xs
theorem row_deep (xs : List V) : (rowD xs).depth ≤ 2 := by
  have := plains_deep xs
  unfold rowD
  simp only [PyData.depth]
  omega
theorem row_dp {K : PySem.W.Frag} {H : Hp} {a : Addr} {xs : List V} (e : H a = some (.tup xs)) (h : Plains xs) : Dp K H (.ref a) (rowD xs) := .tup (.of e) (plains_dp xs h)
theorem row_fine {xs : List V} (h : Plains xs) (n : xs.length ≤ 5) : Fine (rowD xs) := by
  have h1 := row_len h n
  have h2 := row_deep xs
  have : sizeLine = 16777216 := rfl
  exact ⟨row_show h, row_dict xs, by omega, by omega⟩
theorem row_shaped {xs : List V} (h : Plains xs) : SeqAt.shaped (rowD xs) = true := by
  unfold SeqAt.shaped
  rw [Bool.and_eq_true]
  have := row_deep xs
  exact ⟨row_can h, decide_eq_true (by omega)⟩
theorem row_same {xs : List V} (h : Plains xs) : PyData.eqv (rowD xs) (rowD xs) = true := SeqAt.eqv_refl _ (row_can h)
/-- a list of such tuples -/
def rowsD (l : List (List V)) : PyData := .list (l.map rowD)
theorem rows_can : ∀ l : List (List V), (∀ xs, xs ∈ l → Plains xs) → PyData.canLayAll0 (l.map rowD) = true
  | [], _ => by simp [PyData.canLayAll0]
  | x :: r, h => by
    have ih := rows_can r fun v hv => h v (List.mem_cons_of_mem _ hv)
    have h1 := row_can (h x List.mem_cons_self)
    simp only [List.map_cons, PyData.canLayAll0, h1, ih, Bool.and_self]
theorem rows_show : ∀ l : List (List V), (∀ xs, xs ∈ l → Plains xs) → PyData.showableAll (l.map rowD) = true
  | [], _ => by simp [PyData.showableAll]
  | x :: r, h => by
    have ih := rows_show r fun v hv => h v (List.mem_cons_of_mem _ hv)
    have h1 := row_show (h x List.mem_cons_self)
    simp only [List.map_cons, PyData.showableAll, h1, ih, Bool.and_self]
theorem rows_dict : ∀ l : List (List V), PyData.hasDictAll (l.map rowD) = false
  | [] => by simp [PyData.hasDictAll]
  | x :: r => by simp only [List.map_cons, PyData.hasDictAll, row_dict, rows_dict r, Bool.or_self]
theorem rows_deep : ∀ l : List (List V), PyData.depthAll (l.map rowD) ≤ 3
  | [] => by simp [PyData.depthAll]
  | x :: r => by
    have ih := rows_deep r
    have h1 := row_deep x
    simp only [List.map_cons, PyData.depthAll]
    omega
theorem rows_dp {K : PySem.W.Frag} {H : Hp} {rs : List Addr} {l : List (List V)} (p : Paired (fun r xs => H r = some (.tup xs)) rs l) (h : ∀ xs, xs ∈ l → Plains xs) : DpAll K H (rs.map V.ref) (l.map rowD) := by
  induction p with
  | nil => exact .nil
  | cons e _ ih => exact .cons (row_dp e (h _ List.mem_cons_self)) (ih fun v hv => h v (List.mem_cons_of_mem _ hv))
theorem rowsD_dp {K : PySem.W.Frag} {H : Hp} {a : Addr} {rs : List Addr} {l : List (List V)} (e : H a = some (.lst (rs.map V.ref))) (p : Paired (fun r xs => H r = some (.tup xs)) rs l) (h : ∀ xs, xs ∈ l → Plains xs) : Dp K H (.ref a) (rowsD l) := .lst (.of e) (rows_dp p h)
theorem rows_fine {l : List (List V)} (h : ∀ xs, xs ∈ l → Plains xs) (n : ∀ xs, xs ∈ l → xs.length ≤ 5) (m : l.length ≤ 1000) : Fine (rowsD l) := by
  have h1 := shown_list_le 168 (l.map rowD) fun d hd => by
    obtain ⟨x, hx, rfl⟩ := List.mem_map.mp hd
    exact row_len (h x hx) (n x hx)
  rw [List.length_map] at h1
  have h2 := rows_deep l
  have : sizeLine = 16777216 := rfl
  refine ⟨?_, ?_, ?_, ?_⟩
  · unfold rowsD
    simp only [PyData.showable]
    exact rows_show l h
  · unfold rowsD
    simp only [PyData.hasDict]
    exact rows_dict l
  · unfold rowsD
    simp only [PyData.depth]
    omega
  · show (PyData.list (l.map rowD)).shown.length ≤ sizeLine
    omega
theorem rowsD_can {l : List (List V)} (h : ∀ xs, xs ∈ l → Plains xs) : PyData.canLay0 (rowsD l) = true := by
  unfold rowsD
  simp only [PyData.canLay0]
  exact rows_can l h
theorem rowsD_shaped {l : List (List V)} (h : ∀ xs, xs ∈ l → Plains xs) : SeqAt.shaped (rowsD l) = true := by
  unfold SeqAt.shaped
  rw [Bool.and_eq_true]
  refine ⟨rowsD_can h, decide_eq_true ?_⟩
  have := rows_deep l
  unfold rowsD
  simp only [PyData.depth]
  omega
theorem rowsD_same {l : List (List V)} (h : ∀ xs, xs ∈ l → Plains xs) : PyData.eqv (rowsD l) (rowsD l) = true := SeqAt.eqv_refl _ (rowsD_can h)
theorem plain_nat {i : Nat} (h : i < 1000000) : Plain (natV i) := by
  show ((i : Int)).natAbs < 10 ^ 30
  have e : (10 : Nat) ^ 30 = 1000000000000000000000000000000 := by decide +kernel
  rw [e]
  omega
theorem nats_ints (l : List Nat) : l.map natV = (l.map Int.ofNat).map V.int := by
  rw [List.map_map]
  rfl
theorem nats_tame {l : List Nat} (h : ∀ i, i ∈ l → i < 1000000) : Tame (l.map Int.ofNat) := fun z hz => by
  obtain ⟨i, hi, rfl⟩ := List.mem_map.mp hz
  have := h i hi
  have e : (10 : Nat) ^ 30 = 1000000000000000000000000000000 := by decide +kernel
  rw [e]
  show i < _
  omega
end HSP
namespace HSP
open PySem PySem.Spec PyProof.Rows L2
/-! ## how a search ended, as data -/
def endRow (r : Bool × Nat) : List V := [kindV r.1, natV r.2]
theorem endRow_plain {r : Bool × Nat} (h : r.2 < 1000000) : Plains (endRow r) := fun v hv => by
  have hv : v ∈ [kindV r.1, natV r.2] := hv
  simp only [List.mem_cons, List.not_mem_nil, or_false] at hv
  rcases hv with rfl | rfl
  · cases r.1
    · exact ⟨by decide +kernel, by decide +kernel⟩
    · exact ⟨by decide +kernel, by decide +kernel⟩
  · exact plain_nat h
theorem sEnd_le (g : Nat → Int) (tw : Int) (m : Md) : ∀ (t : Tr) (f : Nat), (sEnd g tw m t f).2 ≤ f + t.size
  | .nil, f => Nat.le_refl _
  | .nod l r, f => by
    have e : sEnd g tw m (.nod l r) f = match wayOf tw (g (f + l.size)) m with | .fin => (true, f + l.size) | .lft => sEnd g tw m l f | .rgt => sEnd g tw m r (f + l.size + 1) := rfl
    have z : (Tr.nod l r).size = l.size + 1 + r.size := rfl
    rw [e, z]
    cases wayOf tw (g (f + l.size)) m with
    | fin => show f + l.size ≤ _; omega
    | lft => have := sEnd_le g tw m l f; show (sEnd g tw m l f).2 ≤ _; omega
    | rgt => have := sEnd_le g tw m r (f + l.size + 1); show (sEnd g tw m r (f + l.size + 1)).2 ≤ _; omega
theorem end_eqv (r : Bool × Nat) (i : Nat) : PyData.eqv (rowD (endRow r)) (rowD [.str "found", natV i]) = decide (r = (true, i)) := by
  obtain ⟨b, n⟩ := r
  unfold rowD endRow
  simp only [List.map_cons, List.map_nil, PyData.eqv, PyData.eqvAll, Bool.and_true]
  cases b
  · have e1 : vD (kindV false) = .str "gap" := rfl
    have e2 : vD (V.str "found") = .str "found" := rfl
    rw [e1, e2, decide_eq_false (fun z => by cases z)]
    simp only [PyData.eqv]
    have e3 : (("gap" : Str) == ("found" : Str)) = false := by decide +kernel
    rw [e3, Bool.false_and]
  · have e1 : vD (kindV true) = .str "found" := rfl
    have e2 : vD (V.str "found") = .str "found" := rfl
    have e4 : vD (natV n) = .int (n : Int) := rfl
    have e5 : vD (natV i) = .int (i : Int) := rfl
    rw [e1, e2, e4, e5]
    simp only [PyData.eqv]
    have e3 : (("found" : Str) == ("found" : Str)) = true := by decide +kernel
    rw [e3, Bool.true_and]
    by_cases c : n = i
    · rw [c, decide_eq_true rfl]
      exact beq_self_eq_true _
    · rw [decide_eq_false (fun z => c (Prod.mk.inj z).2)]
      exact beq_eq_false_iff_ne.mpr (fun z => c (by omega))
end HSP
namespace HSP
open PySem PySem.Spec PyProof.Rows L2
section
variable {P : Program} {w : World} {K : PySem.W.Frag} {mg : Str → Option Value} {base : Heap}
theorem kindW_eq (b : Bool) : kindW b = kindV b := rfl
theorem sc_law_right : FnScope n_law_right ["draws"] (defScope s_law_right) := ⟨rfl, rfl, rfl, by decide +kernel, rfl, by decide +kernel, by decide +kernel⟩
theorem ok_right (B : Bl mg) (Rp : mg "repr" = none) (N : Df P w K mg base "_law_next" 1 ["draws"] spNext) (T : Df P w K mg base "_law_tree" 22 ["draws", "room"] (spDraw 21)) (Z : Df P w K mg base "_law_size" 21 n_law_size (spSize 21)) (Va : Df P w K mg base "_law_values" 2 ["draws", "many"] spValues)
    (Vi : Df P w K mg base "_law_visits" 22 p_law_visits (spVisits 21)) (En : Df P w K mg base "_law_end" 23 p_law_end (spLawEnd 21)) (Fi : DfB P w K mg base "find" 4 ["tree", "values", "twice"] ["twice", "values", "tree"] spFind) (Lo : DfB P w K mg base "looked" 4 ["tree", "values", "twice"] ["twice", "values", "tree"] spLooked)
    (a : At K mg "_law_right" s_law_right) : DfG P w K mg base "_law_right" 24 ["draws"] spRight := by
  refine DfG.mk' a sc_law_right (fun vs H Q E h => ?_) (fun _ _ _ _ _ _ us hl => match us, hl with | [_], _ => rfl) (fun f cdv A outer s H vs Q E hg hr h => ?_)
  · obtain ⟨p, k, rfl, _⟩ := h
    rfl
  obtain ⟨p, k, rfl, hd, hk, q⟩ := h
  refine ⟨_, (pss_cons (ps_set (i := 1) sc_law_right.nd rfl (.inl rfl) (pe_df T (hr.mono (by decide)) (pa_cons (pv 0) (pa_cons (pe_op op_mod (pe_callTy call_int1 (by rfl) B.int (by decide +kernel) (pa_cons (pe_df N (hr.mono (by decide)) (pa_cons (pv 0) pa_nil)) pa_nil)) pe_int) pa_nil))))
 (pss_cons (ps_set (i := 2) sc_law_right.nd rfl (.inl rfl) (pe_df Va (hr.mono (by decide)) (pa_cons (pv 0) (pa_cons (pe_df Z (hr.mono (by decide)) (pa_cons (pv 1) pa_nil)) pa_nil))))
 (C8.pss_cut (ps_if (pt_cmpR op_eq (pe_op op_mod (pe_callTy call_int1 (by rfl) B.int (by decide +kernel) (pa_cons (pe_df N (hr.mono (by decide)) (pa_cons (pv 0) pa_nil)) pa_nil)) pe_int) pe_int (nomark _)) (pss_one (ps_setLc (i := 2) (own := [("node", 10), ("value", 9)]) (g := gTup K 2 (gCons (gName 10) (gCons (gName 9) gNil))) (tt := tYes) (by rfl) sc_law_right.nd rfl rfl (sw_true rfl rfl rfl (by decide +kernel)) (pi_enum (by rfl) B.enumerate (pa_cons (pv 2) pa_nil)) (blkOk_by (N := n_law_right) (sc := defScope s_law_right) (by decide +kernel)) (fun _ _ _ _ _ => (pg_tup rfl (pgs_cons (pg_name (i := 10) sc_law_right.nd rfl (.inl rfl)) (pgs_cons (pg_name (i := 9) sc_law_right.nd rfl (.inl rfl)) pgs_nil)))) (fun _ _ _ _ _ => pts_nil) (fun _ _ _ _ _ => (pe_op op_sub (pe_op op_mul (pv 9) (pe_op op_sub (pe_op op_mul pe_int (pe_op op_powW pe_int pe_int)) pe_int)) (pv 10))))) pss_nil)
 (pss_cons (ps_set (i := 3) sc_law_right.nd rfl (.inl rfl) (pe_callB (cr_reprD hg hr.units) (by rfl) Rp (by decide +kernel) (pa_cons (pe_lst (pa_cons (pv 1) (pa_cons (pv 2) pa_nil))) pa_nil)))
 (pss_cons (ps_setLc (i := 4) (own := [("value", 9)]) (g := (gName 9)) (tt := tYes) (by rfl) sc_law_right.nd rfl rfl (sw_true rfl rfl rfl (by decide +kernel)) (pi_list (pv 2)) (blkOk_by (N := n_law_right) (sc := defScope s_law_right) (by decide +kernel)) (fun _ _ _ _ _ => (pg_name (i := 9) sc_law_right.nd rfl (.inl rfl))) (fun _ _ _ _ _ => pts_nil) (fun _ _ _ _ _ => (pe_op op_sub (pe_op op_add (pe_op op_mul pe_int (pv 9)) (pe_op op_mod (pe_callTy call_int1 (by rfl) B.int (by decide +kernel) (pa_cons (pe_df N (hr.mono (by decide)) (pa_cons (pv 0) pa_nil)) pa_nil)) pe_int)) pe_int)))
 (pss_cons (ps_for PassesOwn.never rfl (pi_list (pe_op op_cat (pv 4) (pe_lst (pa_cons pe_int (pa_cons (pe_un un_neg (pe_op op_powW pe_int pe_int)) (pa_cons (pe_op op_add (pe_op op_powW pe_int pe_int) (pe_df N (hr.mono (by decide)) (pa_cons (pv 0) pa_nil))) pa_nil)))))) (pg_name (i := 5) sc_law_right.nd rfl (.inl rfl)) (pss_cons (ps_set (i := 6) sc_law_right.nd rfl (.inl rfl) (pe_df Vi (hr.mono (by decide)) (pa_cons (pv 1) (pa_cons (pv 2) (pa_cons (pv 5) pa_nil)))))
 (pss_cons (ps_set (i := 7) sc_law_right.nd rfl (.inl rfl) (pe_lst (pa_cons (pe_df Fi.df (hr.mono (by decide)) (pa_cons (pv 1) (pa_cons (pv 2) (pa_cons (pv 5) pa_nil)))) (pa_cons (pe_dfK Fi (hr.mono (by decide))  (pk_cons (pv 5) (pk_cons (pv 2) (pk_cons (pv 1) pk_nil)))) pa_nil))))
 (pss_cons (ps_if (pt_cmpR op_ne (pe_callB (cr_reprD hg hr.units) (by rfl) Rp (by decide +kernel) (pa_cons (pv 7) pa_nil)) (pe_callB (cr_reprD hg hr.units) (by rfl) Rp (by decide +kernel) (pa_cons (pe_op op_rep (pe_lst (pa_cons (pe_df En hr (pa_cons (pv 1) (pa_cons (pv 2) (pa_cons (pv 5) pa_nil)))) pa_nil)) pe_int) pa_nil)) (nomark _)) (pss_one (ps_ret pe_bl)) pss_nil)
 (pss_cons (ps_set (i := 8) sc_law_right.nd rfl (.inl rfl) (pe_df Lo.df (hr.mono (by decide)) (pa_cons (pv 1) (pa_cons (pv 2) (pa_cons (pv 5) pa_nil)))))
 (pss_cons (ps_if (pt_cmpR op_ne (pe_callB (cr_reprD hg hr.units) (by rfl) Rp (by decide +kernel) (pa_cons (pv 8) pa_nil)) (pe_callB (cr_reprD hg hr.units) (by rfl) Rp (by decide +kernel) (pa_cons (pe_slice sl_list (pv 6) po_none (po_some (pe_un un_neg pe_int))) pa_nil)) (nomark _)) (pss_one (ps_ret pe_bl)) pss_nil)
 (pss_cons (ps_expr (pe_bm PySem.F.plainAttrs_list PySem.F.slot_list_append PySem.F.type_list_append mt_append (pv 8) (pa_cons pe_non pa_nil)))
 (pss_one (ps_if (pt_cmpR (op_neD hr.units) (pe_dfK Lo (hr.mono (by decide))  (pk_cons (pv 5) (pk_cons (pv 2) (pk_cons (pv 1) pk_nil)))) (pe_slice sl_list (pv 6) po_none (po_some (pe_un un_neg pe_int))) (nomark _)) (pss_one (ps_ret pe_bl)) pss_nil)))))))))
 (pss_one (ps_ret (pe_cmpR op_eq (pe_callB (cr_reprD hg hr.units) (by rfl) Rp (by decide +kernel) (pa_cons (pe_lst (pa_cons (pv 1) (pa_cons (pv 2) pa_nil))) pa_nil)) (pv 3) (nomark _)))))))))), ?_⟩
  -- the tree, the values
  refine ⟨_, rfl, _, rfl, p, k, rfl, hd, by omega, fun H1 r1 kp1 d1 a1 a2 => .inl ⟨_, rfl, _, _, rfl, rfl, (by show (0 : Int) < 21; decide), ?_⟩⟩
  have m1 := Int.emod_nonneg r1 (show (21 : Int) ≠ 0 by decide)
  have m2 := Int.emod_lt_of_pos r1 (show (0 : Int) < 21 by decide)
  refine ⟨p, (r1 % 21).toNat, k + 1, congrArg (fun z => [V.ref p, V.int z]) (by omega : r1 % 21 = (((r1 % 21).toNat : Nat) : Int)), by omega, d1, by omega, fun H2 v t kp2 d2 ht hs => ?_⟩
  have t16 : t.size ≤ 20 := by omega
  refine ⟨_, rfl, v, rfl, v, t, rfl, ht, Nat.lt_of_le_of_lt t.ht_le (by omega), ?_⟩
  refine ⟨p, t.size, k + 1 + 2 * (r1 % 21).toNat, rfl, by omega, d2, by omega, fun H3 a ns kp3 d3 na ea la near => ?_⟩
  have ht3 : TrAt H3 v t := d2.tree kp3 ht
  have kpA : Keep p H H3 := (kp1.trans kp2).trans kp3
  have na0 : H a = none := (kp1.trans kp2).free (d2.ne na) na
  -- great numbers
  refine ⟨fun σ H5 => ∃ (a : Addr) (ns : List Int) (y9 y10 : Option V), σ = [some (.ref p), some v, some (.ref a), none, none, none, none, none, none, y9, y10] ∧ Keep p H H5 ∧ DrAt H5 p (k + 74) ∧ TrAt H5 v t ∧ H a = none ∧ H5 a = some (.lst (ns.map V.int)) ∧ ns.length = t.size ∧ Mid ns, ?_, ?_⟩
  · refine ⟨_, rfl, p, k + 1 + 2 * (r1 % 21).toNat + t.size + 10, rfl, d3, by omega, fun H4 r4 kp4 d4 b1 b2 => .inl ⟨_, rfl, _, _, rfl, rfl, (by show (0 : Int) < 4; decide), rfl, _, rfl, ?_⟩⟩
    have kpB : Keep p H H4 := kpA.trans kp4
    have ht4 : TrAt H4 v t := d3.tree kp4 ht3
    have ea4 : H4 a = some (.lst (ns.map V.int)) := kp4 _ _ (d3.neOf ea) ea
    refine ite2 (fun c => ?_) (fun c => ⟨a, ns, _, _, rfl, kpB, d4.mono (by omega), ht4, na0, ea4, la, .of near⟩)
    refine ⟨_, rfl, a, _, rfl, .of ea4, fun D hD => ?_⟩
    refine lc_it (walk_enum (K := K) (a := a) (xs := ns.map V.int)) (fun i H' => ∃ ms : List Int, Same H4 H' ∧ H' D = some (.lst (ms.map V.int)) ∧ ms.length = i ∧ Mid ms) ⟨[], Same.new hD, upd_same, rfl, .nil⟩ (fun i H5 _ h5 => ?_) (fun i x H5 H6 hi h5 hy => ?_) (fun H5 h5 => ?_)
    · obtain ⟨ms, s5, _⟩ := h5
      exact .of (s5 _ _ ea4)
    · obtain ⟨ms, s5, e5, l5, w5⟩ := h5
      obtain ⟨T2, x1, x2, rfl, nT, rfl, g1, g2⟩ := hy
      rw [List.length_map] at hi
      cases (show some (V.int ((i : Nat) : Int)) = some x1 from g1)
      cases (valAt_get hi).symm.trans g2
      have sT := Same.new (o := .tup [V.int ((i : Nat) : Int), V.int (valAt ns i)]) nT
      refine ⟨T2, _, rfl, .of upd_same, rfl, _, _, rfl, _, [], rfl, rfl, rfl, ?_⟩
      have e14 : (2 : Int) * (10 : Int) ^ (14 : Int).toNat - 1 = 199999999999999 := by decide +kernel
      refine ⟨_, rfl, _, _, rfl, rfl, ⟨by decide, by decide +kernel⟩, _, _, rfl, rfl, .inl ⟨by decide, by decide⟩, _, _, rfl, rfl, _, _, rfl, rfl, .inr ⟨by decide +kernel, by decide +kernel⟩, _, rfl, _, _, rfl, rfl, _, sT _ _ e5, ?_, ms ++ [valAt ns i * (2 * (10 : Int) ^ (14 : Int).toNat - 1) - (i : Int)], fun b o e => ?_, ?_, ?_, w5.snoc ?_⟩
      · rw [List.length_map]
        exact small1000 (by omega)
      · rw [upd_ne (ne_of_none e hD)]
        exact sT _ _ (s5 _ _ e)
      · rw [upd_same, List.map_append]
        rfl
      · rw [List.length_append, List.length_singleton, l5]
      · have nv := near _ (valAt_mem hi)
        rw [e14]
        omega
    · obtain ⟨ms, s5, e5, l5, w5⟩ := h5
      rw [List.length_map] at l5
      refine ⟨D, ms, _, _, rfl, kpB.trans (.of s5), (d4.same s5).mono (by omega), ht4.same s5, kpB.free (d4.ne hD) hD, e5, by omega, w5⟩
  rintro σ H5 ⟨a, ns, y9, y10, rfl, kpC, d5, ht5, na, ea5, la, mid⟩
  have hht : t.ht < 21 := Nat.lt_of_le_of_lt t.ht_le (by omega)
  -- kept
  refine ⟨_, rfl, _, rfl, (by show 2 ≤ sizeLine; decide), fun Y hY => ?_⟩
  have sY := Same.new (o := .lst [v, V.ref a]) hY
  have fa := args_fine (t := t) (ns := ns) (by omega) (by omega) mid.tame
  refine ⟨Y, argsD t ns, rfl, args_dp upd_same (ht5.same sY) (sY _ _ ea5), fa.show_, fa.dict, fa.deep, fa.len, ?_⟩
  have ht6 := ht5.same sY
  have ea6 := sY _ _ ea5
  have kp6 := kpC.trans (.of sY)
  have d6 := d5.same sY
  generalize upd H5 Y (.lst [v, V.ref a]) = H6 at ht6 ea6 kp6 d6 ⊢
  have nap := d6.neOf ea6
  -- some
  refine ⟨_, rfl, a, rfl, ⟨_, .of ea6⟩, fun D hD => ?_⟩
  have nDp : D ≠ p := d6.ne hD
  have nD0 : H D = none := kp6.free nDp hD
  refine lc_list (xs := ns.map V.int) (fun i H' => ∃ zs : List Int, Keep p H6 H' ∧ DrAt H' p (k + 74 + i) ∧ H' D = some (.lst (zs.map V.int)) ∧ zs.length = i) ⟨[], .of (Same.new hD), d6.same (Same.new hD), upd_same, rfl⟩ (fun i H7 _ h7 => ?_) (fun i x H7 hx h7 => ?_) (fun H7 h7 => ?_)
  · obtain ⟨zs, k7, _⟩ := h7
    exact .of (k7 _ _ nap ea6)
  · obtain ⟨zs, k7, d7, e7, l7⟩ := h7
    rw [List.getElem?_map] at hx
    obtain ⟨z, hz, rfl⟩ := Option.map_eq_some_iff.mp hx
    have hi : i < ns.length := (List.getElem?_eq_some_iff.mp hz).1
    refine ⟨rfl, ?_⟩
    refine ⟨_, rfl, _, _, rfl, rfl, .inl ⟨by decide, by decide⟩, _, rfl, p, k + 74 + i, rfl, d7, by omega, fun H8 r8 k8 d8 b1 b2 => .inl ⟨_, rfl, _, _, rfl, rfl, (by show (0 : Int) < 5; decide), _, _, rfl, rfl, _, _, rfl, rfl, _, k8 D _ nDp e7, ?_, ?_⟩⟩
    · rw [List.length_map]
      exact small1000 (by omega)
    · refine ⟨zs ++ [2 * z + r8 % 5 - 2], Keep.put hD (k7.trans k8), d8.put nDp, ?_, ?_⟩
      · rw [upd_same, List.map_append]
        rfl
      · rw [List.length_append, List.length_singleton, l7]
  obtain ⟨zs, k7, d7, e7, l7⟩ := h7
  rw [List.length_map] at l7
  have ht7 := d6.tree k7 ht6
  have ea7 := k7 _ _ nap ea6
  have kpD := kp6.trans k7
  -- the numbers
  refine ⟨_, rfl, _, _, rfl, rfl, ⟨by decide, by decide +kernel⟩, _, rfl, _, _, rfl, rfl, ⟨by decide, by decide +kernel⟩, _, rfl, p, k + 74 + (ns.map V.int).length, rfl, d7, by rw [List.length_map]; omega, fun H8 r8 k8 d8 b1 b2 => ?_⟩
  refine ⟨_, _, rfl, rfl, (by show 3 ≤ sizeLine; decide), fun L hL => ?_⟩
  have eD8 := k8 D _ nDp e7
  have sL := Same.new (o := .lst [V.int 0, V.int (-((10 : Int) ^ (9 : Int).toNat)), V.int ((10 : Int) ^ (9 : Int).toNat + r8)]) hL
  refine ⟨D, L, _, _, rfl, rfl, sL _ _ eD8, upd_same, ?_, fun C hC => ?_⟩
  · rw [List.length_map]
    show zs.length + 3 ≤ sizeLine
    exact Nat.le_of_lt (small1000 (by omega))
  have ht8 := d7.tree k8 ht7
  have ea8 := k8 _ _ nap ea7
  have sC := sL.trans (Same.new (o := .lst (zs.map V.int ++ [V.int 0, V.int (-((10 : Int) ^ (9 : Int).toNat)), V.int ((10 : Int) ^ (9 : Int).toNat + r8)])) hC)
  have eC : (upd (upd H8 L (.lst [V.int 0, V.int (-((10 : Int) ^ (9 : Int).toNat)), V.int ((10 : Int) ^ (9 : Int).toNat + r8)])) C (.lst (zs.map V.int ++ [V.int 0, V.int (-((10 : Int) ^ (9 : Int).toNat)), V.int ((10 : Int) ^ (9 : Int).toNat + r8)]))) C = some (.lst ((zs ++ [0, -((10 : Int) ^ (9 : Int).toNat), (10 : Int) ^ (9 : Int).toNat + r8]).map V.int)) := by
    rw [upd_same, List.map_append]
    rfl
  have ht9 := ht8.same sC
  have ea9 := sC _ _ ea8
  have kp9 := (kpD.trans k8).trans (.of sC)
  have d9 := d8.same sC
  generalize upd (upd H8 L (.lst [V.int 0, V.int (-((10 : Int) ^ (9 : Int).toNat)), V.int ((10 : Int) ^ (9 : Int).toNat + r8)])) C (.lst (zs.map V.int ++ [V.int 0, V.int (-((10 : Int) ^ (9 : Int).toNat)), V.int ((10 : Int) ^ (9 : Int).toNat + r8)])) = H9 at eC ht9 ea9 kp9 d9 ⊢
  generalize zs ++ [0, -((10 : Int) ^ (9 : Int).toNat), (10 : Int) ^ (9 : Int).toNat + r8] = qs at eC ⊢
  refine ⟨C, rfl, ⟨_, .of eC⟩, for_list (xs := qs.map V.int) (fun i σ H' => ∃ y5 y6 y7 y8 y9 y10 : Option V, σ = [some (.ref p), some v, some (.ref a), some (.str (argsD t ns).shown), some (.ref D), y5, y6, y7, y8, y9, y10] ∧ Same H9 H') ⟨_, _, _, _, _, _, rfl, Same.refl _⟩ (fun i σ HA _ hA => ?_) (fun i x σ HA hx hA => ?_) (fun σ HA hA => ?_)⟩
  · obtain ⟨_, _, _, _, _, _, _, sA⟩ := hA
    exact .of (sA _ _ eC)
  · obtain ⟨y5, y6, y7, y8, y9, y10, rfl, sA⟩ := hA
    rw [List.getElem?_map] at hx
    obtain ⟨tw, htw, rfl⟩ := Option.map_eq_some_iff.mp hx
    have htA := ht9.same sA
    have eaA := sA _ _ ea9
    have lenP := sPath_len (valAt ns) tw .fin t 0
    have inP := fun i hi => (sPath_in (valAt ns) tw .fin t 0 i hi).2
    have inE := sEnd_le (valAt ns) tw .fin t 0
    -- walk
    refine ⟨_, rfl, _, rfl, _, rfl, v, t, a, ns, tw, rfl, htA, hht, by omega, eaA, la, fun HB wk sB nw ew => ?_⟩
    -- told
    refine ⟨_, rfl, _, rfl, _, rfl, v, t, a, ns, tw, rfl, htA.same sB, by omega, sB _ _ eaA, la, fun HC e1 sC1 E1 => ?_⟩
    refine ⟨_, rfl, _, rfl, _, rfl, rfl, rfl, v, t, a, ns, tw, rfl, (htA.same sB).same sC1, by omega, sC1 _ _ (sB _ _ eaA), la, fun HD e2 sD E2 => ?_⟩
    refine ⟨(by show 2 ≤ sizeLine; decide), fun W hW => ?_⟩
    have sW := Same.new (o := .lst [V.ref e1, V.ref e2]) hW
    have s0 : Same HA _ := sB.trans (sC1.trans (sD.trans sW))
    have pl := endRow_plain (r := sEnd (valAt ns) tw .fin t 0) (by omega)
    have pls : ∀ xs, xs ∈ [endRow (sEnd (valAt ns) tw .fin t 0), endRow (sEnd (valAt ns) tw .fin t 0)] → Plains xs := fun xs hxs => by
      rcases List.mem_cons.mp hxs with z | z
      · rw [z]; exact pl
      · rw [List.mem_singleton.mp z]; exact pl
    have pls5 : ∀ xs, xs ∈ [endRow (sEnd (valAt ns) tw .fin t 0), endRow (sEnd (valAt ns) tw .fin t 0)] → xs.length ≤ 5 := fun xs hxs => by
      rcases List.mem_cons.mp hxs with z | z
      · rw [z]; show 2 ≤ 5; decide
      · rw [List.mem_singleton.mp z]; show 2 ≤ 5; decide
    have fr := rows_fine pls pls5 (by show 2 ≤ 1000; decide)
    refine ⟨_, rfl, W, rowsD [endRow (sEnd (valAt ns) tw .fin t 0), endRow (sEnd (valAt ns) tw .fin t 0)], rfl, rowsD_dp (rs := [e1, e2]) upd_same (.cons (sW _ _ (sD _ _ E1.2)) (.cons (sW _ _ E2.2) .nil)) pls, fr.show_, fr.dict, fr.deep, fr.len, ?_⟩
    have ewW := sW _ _ (sD _ _ (sC1 _ _ ew))
    have htW := htA.same s0
    have eaW := s0 _ _ eaA
    generalize upd HD W (.lst [V.ref e1, V.ref e2]) = HE at s0 ewW htW eaW ⊢
    refine ⟨_, rfl, _, rfl, _, rfl, v, t, a, ns, tw, rfl, htW, hht, by omega, eaW, la, fun HF r sF nr er => ⟨(by show 1 ≤ sizeLine; decide), fun Zl hZ => ?_⟩⟩
    have sZ := Same.new (o := .lst [V.ref r]) hZ
    refine ⟨Zl, 2, _, rfl, rfl, upd_same, by decide, by decide, (by show 1 * 2 ≤ sizeLine; decide), fun ZZ hZZ => ?_⟩
    have sZZ := Same.new (o := .lst (List.replicate (2 : Int).toNat [V.ref r]).flatten) hZZ
    have er2 : (upd (upd HF Zl (.lst [V.ref r])) ZZ (.lst (List.replicate (2 : Int).toNat [V.ref r]).flatten)) r = some (.tup (endRow (sEnd (valAt ns) tw .fin t 0))) := sZZ _ _ (sZ _ _ er)
    refine ⟨ZZ, rowsD [endRow (sEnd (valAt ns) tw .fin t 0), endRow (sEnd (valAt ns) tw .fin t 0)], rfl, rowsD_dp (rs := [r, r]) (by rw [upd_same]; rfl) (.cons er2 (.cons er2 .nil)) pls, fr.show_, fr.dict, fr.deep, fr.len, ?_⟩
    refine ⟨rfl, _, rfl, ?_⟩
    rw [decide_eq_true (show V.str (rowsD [endRow (sEnd (valAt ns) tw .fin t 0), endRow (sEnd (valAt ns) tw .fin t 0)]).shown = V.str (rowsD [endRow (sEnd (valAt ns) tw .fin t 0), endRow (sEnd (valAt ns) tw .fin t 0)]).shown from rfl)]
    refine iteF ?_
    have s1 := s0.trans (sF.trans (sZ.trans sZZ))
    have ewG := sZZ _ _ (sZ _ _ (sF _ _ ewW))
    have htG := htA.same s1
    have eaG := s1 _ _ eaA
    clear er2
    generalize upd (upd HF Zl (.lst [V.ref r])) ZZ (.lst (List.replicate (2 : Int).toNat [V.ref r]).flatten) = HG at s1 ewG htG eaG ⊢
    -- nodes
    refine ⟨_, rfl, _, rfl, _, rfl, v, t, a, ns, tw, rfl, htG, by omega, eaG, la, fun HI n sI nn en => ?_⟩
    have ewI := sI _ _ ewG
    have htI := htG.same sI
    have eaI := sI _ _ eaG
    rw [nats_ints] at en ewI
    have tm : Tame ((sPath (valAt ns) tw .fin t 0).map Int.ofNat) := nats_tame fun i hi => by
      have := inP i hi
      omega
    have lm : ((sPath (valAt ns) tw .fin t 0).map Int.ofNat).length ≤ 20 := by
      rw [List.length_map]
      omega
    have nwk : n ≠ wk := (ne_of_none ewG nn).symm
    have na' : n ≠ a := (ne_of_none eaG nn).symm
    have kI : Stay [n] HG HI := .of sI
    have n1 : HA n = none := s1.free nn
    generalize hms : (sPath (valAt ns) tw .fin t 0).map Int.ofNat = ms at en ewI tm lm ⊢
    have fm := ints_fine tm (by omega)
    refine ⟨_, rfl, n, intsD ms, rfl, .lst (.of en) (ints_dpAll ms), fm.show_, fm.dict, fm.deep, fm.len, ?_⟩
    refine ⟨_, rfl, _, rfl, _, rfl, wk, _, rfl, .of ewI, fun c hc => ?_⟩
    rw [cut_last]
    refine ⟨c, intsD ms, rfl, .lst (.of upd_same) (ints_dpAll ms), fm.show_, fm.dict, fm.deep, fm.len, ?_⟩
    refine ⟨rfl, _, rfl, ?_⟩
    rw [decide_eq_true (show V.str (intsD ms).shown = V.str (intsD ms).shown from rfl)]
    refine iteF ?_
    have sc := Same.new (o := .lst (ms.map V.int)) hc
    have en2 := sc _ _ en
    refine ⟨_, rfl, .inl ⟨rfl, _, .of en2⟩, n, _, _, rfl, rfl, en2, ?_, ?_⟩
    · rw [List.length_map]
      exact small1000 (by omega)
    have kJ : Stay [n] HG (upd (upd HI c (.lst (ms.map V.int))) n (.lst (ms.map V.int ++ [V.non]))) := (kI.then sc).put in1
    have ewJ : (upd (upd HI c (.lst (ms.map V.int))) n (.lst (ms.map V.int ++ [V.non]))) wk = _ := (upd_ne nwk.symm).trans (sc _ _ ewI)
    have eaJ : (upd (upd HI c (.lst (ms.map V.int))) n (.lst (ms.map V.int ++ [V.non]))) a = _ := (upd_ne na'.symm).trans (sc _ _ eaI)
    have htJ : TrAt (upd (upd HI c (.lst (ms.map V.int))) n (.lst (ms.map V.int ++ [V.non]))) v t := (htI.same sc).put en2
    generalize upd (upd HI c (.lst (ms.map V.int))) n (.lst (ms.map V.int ++ [V.non])) = HJ at kJ ewJ eaJ htJ ⊢
    -- by name
    refine ⟨_, rfl, _, rfl, _, rfl, rfl, rfl, v, t, a, ns, tw, rfl, htJ, by omega, eaJ, la, fun HK n2 sK nn2 en3 => ?_⟩
    rw [nats_ints, hms] at en3
    refine ⟨_, rfl, _, rfl, _, rfl, wk, _, rfl, .of (sK _ _ ewJ), fun c2 hc2 => ?_⟩
    rw [cut_last]
    have sc2 := Same.new (o := .lst (ms.map V.int)) hc2
    refine ⟨intsD ms, intsD ms, .lst (.of (sc2 _ _ en3)) (ints_dpAll ms), .lst (.of upd_same) (ints_dpAll ms), ints_shaped _, ints_shaped _, _, rfl, ?_⟩
    rw [SeqAt.eqv_refl _ (ints_can0 _)]
    refine iteF ?_
    exact ⟨_, _, _, _, _, _, rfl, sA.trans (Stay.same (X := [n]) s1 (fun x hx => (List.mem_singleton.mp hx) ▸ n1) ((kJ.then sK).then sc2))⟩
  obtain ⟨y5, y6, y7, y8, y9, y10, rfl, sA⟩ := hA
  have htA := ht9.same sA
  have eaA := sA _ _ ea9
  refine ⟨_, rfl, _, rfl, (by show 2 ≤ sizeLine; decide), fun Y2 hY2 => ?_⟩
  have sT := Same.new (o := .lst [v, V.ref a]) hY2
  refine ⟨Y2, argsD t ns, rfl, args_dp upd_same (htA.same sT) (sT _ _ eaA), fa.show_, fa.dict, fa.deep, fa.len, _, rfl, rfl, ?_⟩
  have e1 : decide (V.str (argsD t ns).shown = V.str (argsD t ns).shown) = true := decide_eq_true rfl
  have fin := q _ (kp9.trans (.of (sA.trans sT))) ((d9.same (sA.trans sT)).mono (by rw [List.length_map]; omega))
  rw [← e1] at fin
  exact fin
end
end HSP
namespace HSP
open PySem PySem.Spec PyProof.Rows L2
section
variable {P : Program} {w : World} {K : PySem.W.Frag} {mg : Str → Option Value} {base : Heap}
/-! ### law -/
theorem sc_law : FnScope n_law ["script"] (defScope s_law) := ⟨rfl, rfl, rfl, by decide +kernel, rfl, by decide +kernel, by decide +kernel⟩
def spLaw (K : PySem.W.Frag) : Sp := fun vs H Q _ => ∃ (a : Addr) (ns : List Int), vs = [.ref a] ∧ SqL K H a (ns.map V.int) ∧ ns.length ≤ 63 ∧ ∀ H', Q (.bl true) H'
theorem ok_law {f : Addr} {fd : FuncData} (B : Bl mg) (F : Fun K "law" "law" s_law f fd) (D : Df P w K mg base "_law_draws" 1 ["cell"] spDraws) (R : DfG P w K mg base "_law_right" 24 ["draws"] spRight) : FnG P w K mg base CX0 25 f fd ["script"] (spLaw K) := by
  refine FnG.mk' F sc_law (fun vs H Q E h => ?_) (fun cdv A outer s H vs Q E hg hr h => ?_)
  · obtain ⟨a, ns, rfl, _⟩ := h
    rfl
  obtain ⟨a, ns, rfl, hS, h63, q⟩ := h
  refine ⟨_, PSs.nox (pss_cons (ps_for PassesOwn.never rfl (pi_list (pe_op op_cat (pe_slice sl_list (pv 0) po_none (po_some pe_int)) (pe_lst (pa_cons pe_int pa_nil)))) (pg_name (i := 1) sc_law.nd rfl (.inl rfl)) (pss_cons (ps_set (i := 2) sc_law.nd rfl (.inl rfl) (pe_df D (hr.mono (by decide)) (pa_cons (pv 1) pa_nil)))
 (pss_one (ps_for PassesOwn.never rfl (pi_range1 (by rfl) B.range (pa_cons pe_int pa_nil)) (pg_name (i := 3) sc_law.nd rfl (.inl rfl)) (pss_one (ps_if (pt_not (pt_val (pe_dfG R hg hr (pa_cons (pv 2) pa_nil)))) (pss_one (ps_ret pe_bl)) pss_nil))))))
 (pss_one (ps_ret pe_bl))), ?_⟩
  refine ⟨_, rfl, 6, rfl, a, _, rfl, hS, fun c1 hc1 => ?_⟩
  refine ⟨(by show 1 ≤ sizeLine; decide), fun c2 hc2 => ?_⟩
  have s1 := Same.new (o := .lst (cutV (ns.map V.int) none (some 6))) hc1
  have s2 := Same.new (o := .lst [V.int 0]) hc2
  refine ⟨c1, c2, _, _, rfl, rfl, s2 _ _ upd_same, upd_same, ?_, fun C hC => ?_⟩
  · have z := cutV_length (ns.map V.int) none (some 6)
    rw [List.length_map] at z
    show _ + 1 ≤ sizeLine
    exact Nat.le_of_lt (small1000 (by omega))
  have cells : ∀ x, x ∈ cutV (ns.map V.int) none (some 6) ++ [V.int 0] → ∃ z, x = V.int z := fun x hx => by
    rcases List.mem_append.mp hx with hx | hx
    · have h1 := List.mem_of_mem_take hx
      have h2 := List.mem_of_mem_drop h1
      obtain ⟨z, _, rfl⟩ := List.mem_map.mp h2
      exact ⟨z, rfl⟩
    · exact ⟨0, List.mem_singleton.mp hx⟩
  have eC : (upd (upd (upd H c1 (.lst (cutV (ns.map V.int) none (some 6)))) c2 (.lst [V.int 0])) C (.lst (cutV (ns.map V.int) none (some 6) ++ [V.int 0]))) C = some (.lst (cutV (ns.map V.int) none (some 6) ++ [V.int 0])) := upd_same
  generalize cutV (ns.map V.int) none (some 6) ++ [V.int 0] = xs at cells eC ⊢
  generalize upd (upd (upd H c1 (.lst (cutV (ns.map V.int) none (some 6)))) c2 (.lst [V.int 0])) C (.lst xs) = H1 at eC ⊢
  refine ⟨C, rfl, ⟨_, .of eC⟩, for_list (xs := xs) (fun i σ H' => ∃ y0 y1 y2 y3, σ = [y0, y1, y2, y3] ∧ H' C = some (.lst xs)) ⟨_, _, _, _, rfl, eC⟩ (fun i σ H2 _ h2 => ?_) (fun i x σ H2 hx h2 => ?_) (fun σ H2 _ => q H2)⟩
  · obtain ⟨_, _, _, _, _, e2⟩ := h2
    exact .of e2
  · obtain ⟨y0, y1, y2, y3, rfl, e2⟩ := h2
    obtain ⟨z, rfl⟩ := cells x (List.mem_of_getElem? hx)
    refine ⟨_, rfl, z, rfl, fun H3 p s3 np d3 => ?_⟩
    have nC : C ≠ p := ne_of_none e2 np
    refine ⟨3, rfl, by decide, by decide, ?_⟩
    refine for_range (lo := 0) (n := 3) (fun j σ H' => ∃ y0 y1 y3, σ = [y0, y1, some (.ref p), y3] ∧ H' C = some (.lst xs) ∧ DrAt H' p (200 * j)) ⟨_, _, _, rfl, s3 _ _ e2, d3⟩ (fun j σ H4 hj h4 => ?_) (fun σ H4 h4 => ?_)
    · obtain ⟨y0, y1, y3, rfl, e4, d4⟩ := h4
      refine ⟨_, rfl, p, 200 * j, rfl, d4, by omega, fun H5 k5 d5 => ⟨true, rfl, iteF ?_⟩⟩
      exact ⟨_, _, _, rfl, k5 C _ nC e4, d5.mono (by omega)⟩
    · obtain ⟨y0, y1, y3, rfl, e4, _⟩ := h4
      exact ⟨_, _, _, _, rfl, e4⟩
end
/-! ## what the top has written -/
theorem all_mk {l : PySem.W.OpenLaw} {w : World} {K : PySem.W.Frag} {h : Heap} {mg : Str → Option Value} {fa : Addr} (X : K.In h) (G : h.Ns mainGlobals mg) (hfa : mg "law" = some (.ref fa))
    {f1 : Addr} {od1 an1 : Option Addr} {sl1 : Array (Option Value)} {oc1 kV1 dc1 pm1 cd1 ct1 : Value}
    (a1 : PySem.W.nsIn K mainGlobals "is_whole" = some (some (.ref f1))) (l1 : K.lookup f1 = some ⟨oc1, od1, .func (PySem.W.fnOf "is_whole" "is_whole" (defArgs s_is_whole) (defBody s_is_whole) (defScope s_is_whole) .none kV1 dc1 pm1 an1 cd1 ct1), sl1⟩) (c1 : PySem.W.codeIn K cd1 "is_whole" = true) (k1 : PySem.W.keepIn K (.ref f1) = true)
    {f2 : Addr} {od2 an2 : Option Addr} {sl2 : Array (Option Value)} {oc2 kV2 dc2 pm2 cd2 ct2 : Value}
    (a2 : PySem.W.nsIn K mainGlobals "is_tree" = some (some (.ref f2))) (l2 : K.lookup f2 = some ⟨oc2, od2, .func (PySem.W.fnOf "is_tree" "is_tree" (defArgs s_is_tree) (defBody s_is_tree) (defScope s_is_tree) .none kV2 dc2 pm2 an2 cd2 ct2), sl2⟩) (c2 : PySem.W.codeIn K cd2 "is_tree" = true) (k2 : PySem.W.keepIn K (.ref f2) = true)
    {f3 : Addr} {od3 an3 : Option Addr} {sl3 : Array (Option Value)} {oc3 kV3 dc3 pm3 cd3 ct3 : Value}
    (a3 : PySem.W.nsIn K mainGlobals "count_nodes" = some (some (.ref f3))) (l3 : K.lookup f3 = some ⟨oc3, od3, .func (PySem.W.fnOf "count_nodes" "count_nodes" (defArgs s_count_nodes) (defBody s_count_nodes) (defScope s_count_nodes) .none kV3 dc3 pm3 an3 cd3 ct3), sl3⟩) (c3 : PySem.W.codeIn K cd3 "count_nodes" = true) (k3 : PySem.W.keepIn K (.ref f3) = true)
    {f4 : Addr} {od4 an4 : Option Addr} {sl4 : Array (Option Value)} {oc4 kV4 dc4 pm4 cd4 ct4 : Value}
    (a4 : PySem.W.nsIn K mainGlobals "check_tree" = some (some (.ref f4))) (l4 : K.lookup f4 = some ⟨oc4, od4, .func (PySem.W.fnOf "check_tree" "check_tree" (defArgs s_check_tree) (defBody s_check_tree) (defScope s_check_tree) .none kV4 dc4 pm4 an4 cd4 ct4), sl4⟩) (c4 : PySem.W.codeIn K cd4 "check_tree" = true) (k4 : PySem.W.keepIn K (.ref f4) = true)
    {f5 : Addr} {od5 an5 : Option Addr} {sl5 : Array (Option Value)} {oc5 kV5 dc5 pm5 cd5 ct5 : Value}
    (a5 : PySem.W.nsIn K mainGlobals "check_row" = some (some (.ref f5))) (l5 : K.lookup f5 = some ⟨oc5, od5, .func (PySem.W.fnOf "check_row" "check_row" (defArgs s_check_row) (defBody s_check_row) (defScope s_check_row) .none kV5 dc5 pm5 an5 cd5 ct5), sl5⟩) (c5 : PySem.W.codeIn K cd5 "check_row" = true) (k5 : PySem.W.keepIn K (.ref f5) = true)
    {f6 : Addr} {od6 an6 : Option Addr} {sl6 : Array (Option Value)} {oc6 kV6 dc6 pm6 cd6 ct6 : Value}
    (a6 : PySem.W.nsIn K mainGlobals "check_values" = some (some (.ref f6))) (l6 : K.lookup f6 = some ⟨oc6, od6, .func (PySem.W.fnOf "check_values" "check_values" (defArgs s_check_values) (defBody s_check_values) (defScope s_check_values) .none kV6 dc6 pm6 an6 cd6 ct6), sl6⟩) (c6 : PySem.W.codeIn K cd6 "check_values" = true) (k6 : PySem.W.keepIn K (.ref f6) = true)
    {f7 : Addr} {od7 an7 : Option Addr} {sl7 : Array (Option Value)} {oc7 kV7 dc7 pm7 cd7 ct7 : Value}
    (a7 : PySem.W.nsIn K mainGlobals "turn" = some (some (.ref f7))) (l7 : K.lookup f7 = some ⟨oc7, od7, .func (PySem.W.fnOf "turn" "turn" (defArgs s_turn) (defBody s_turn) (defScope s_turn) .none kV7 dc7 pm7 an7 cd7 ct7), sl7⟩) (c7 : PySem.W.codeIn K cd7 "turn" = true) (k7 : PySem.W.keepIn K (.ref f7) = true)
    {f8 : Addr} {od8 an8 : Option Addr} {sl8 : Array (Option Value)} {oc8 kV8 dc8 pm8 cd8 ct8 : Value}
    (a8 : PySem.W.nsIn K mainGlobals "search" = some (some (.ref f8))) (l8 : K.lookup f8 = some ⟨oc8, od8, .func (PySem.W.fnOf "search" "search" (defArgs s_search) (defBody s_search) (defScope s_search) .none kV8 dc8 pm8 an8 cd8 ct8), sl8⟩) (c8 : PySem.W.codeIn K cd8 "search" = true) (k8 : PySem.W.keepIn K (.ref f8) = true)
    {f9 : Addr} {od9 an9 : Option Addr} {sl9 : Array (Option Value)} {oc9 kV9 dc9 pm9 cd9 ct9 : Value}
    (a9 : PySem.W.nsIn K mainGlobals "find" = some (some (.ref f9))) (l9 : K.lookup f9 = some ⟨oc9, od9, .func (PySem.W.fnOf "find" "find" (defArgs s_find) (defBody s_find) (defScope s_find) .none kV9 dc9 pm9 an9 cd9 ct9), sl9⟩) (c9 : PySem.W.codeIn K cd9 "find" = true) (k9 : PySem.W.keepIn K (.ref f9) = true)
    {f10 : Addr} {od10 an10 : Option Addr} {sl10 : Array (Option Value)} {oc10 kV10 dc10 pm10 cd10 ct10 : Value}
    (a10 : PySem.W.nsIn K mainGlobals "looked" = some (some (.ref f10))) (l10 : K.lookup f10 = some ⟨oc10, od10, .func (PySem.W.fnOf "looked" "looked" (defArgs s_looked) (defBody s_looked) (defScope s_looked) .none kV10 dc10 pm10 an10 cd10 ct10), sl10⟩) (c10 : PySem.W.codeIn K cd10 "looked" = true) (k10 : PySem.W.keepIn K (.ref f10) = true)
    {f11 : Addr} {od11 an11 : Option Addr} {sl11 : Array (Option Value)} {oc11 kV11 dc11 pm11 cd11 ct11 : Value}
    (a11 : PySem.W.nsIn K mainGlobals "_law_draws" = some (some (.ref f11))) (l11 : K.lookup f11 = some ⟨oc11, od11, .func (PySem.W.fnOf "_law_draws" "_law_draws" (defArgs s_law_draws) (defBody s_law_draws) (defScope s_law_draws) .none kV11 dc11 pm11 an11 cd11 ct11), sl11⟩) (c11 : PySem.W.codeIn K cd11 "_law_draws" = true) (k11 : PySem.W.keepIn K (.ref f11) = true)
    {f12 : Addr} {od12 an12 : Option Addr} {sl12 : Array (Option Value)} {oc12 kV12 dc12 pm12 cd12 ct12 : Value}
    (a12 : PySem.W.nsIn K mainGlobals "_law_next" = some (some (.ref f12))) (l12 : K.lookup f12 = some ⟨oc12, od12, .func (PySem.W.fnOf "_law_next" "_law_next" (defArgs s_law_next) (defBody s_law_next) (defScope s_law_next) .none kV12 dc12 pm12 an12 cd12 ct12), sl12⟩) (c12 : PySem.W.codeIn K cd12 "_law_next" = true) (k12 : PySem.W.keepIn K (.ref f12) = true)
    {f13 : Addr} {od13 an13 : Option Addr} {sl13 : Array (Option Value)} {oc13 kV13 dc13 pm13 cd13 ct13 : Value}
    (a13 : PySem.W.nsIn K mainGlobals "_law_size" = some (some (.ref f13))) (l13 : K.lookup f13 = some ⟨oc13, od13, .func (PySem.W.fnOf "_law_size" "_law_size" (defArgs s_law_size) (defBody s_law_size) (defScope s_law_size) .none kV13 dc13 pm13 an13 cd13 ct13), sl13⟩) (c13 : PySem.W.codeIn K cd13 "_law_size" = true) (k13 : PySem.W.keepIn K (.ref f13) = true)
    {f14 : Addr} {od14 an14 : Option Addr} {sl14 : Array (Option Value)} {oc14 kV14 dc14 pm14 cd14 ct14 : Value}
    (a14 : PySem.W.nsIn K mainGlobals "_law_tree" = some (some (.ref f14))) (l14 : K.lookup f14 = some ⟨oc14, od14, .func (PySem.W.fnOf "_law_tree" "_law_tree" (defArgs s_law_tree) (defBody s_law_tree) (defScope s_law_tree) .none kV14 dc14 pm14 an14 cd14 ct14), sl14⟩) (c14 : PySem.W.codeIn K cd14 "_law_tree" = true) (k14 : PySem.W.keepIn K (.ref f14) = true)
    {f15 : Addr} {od15 an15 : Option Addr} {sl15 : Array (Option Value)} {oc15 kV15 dc15 pm15 cd15 ct15 : Value}
    (a15 : PySem.W.nsIn K mainGlobals "_law_values" = some (some (.ref f15))) (l15 : K.lookup f15 = some ⟨oc15, od15, .func (PySem.W.fnOf "_law_values" "_law_values" (defArgs s_law_values) (defBody s_law_values) (defScope s_law_values) .none kV15 dc15 pm15 an15 cd15 ct15), sl15⟩) (c15 : PySem.W.codeIn K cd15 "_law_values" = true) (k15 : PySem.W.keepIn K (.ref f15) = true)
    {f16 : Addr} {od16 an16 : Option Addr} {sl16 : Array (Option Value)} {oc16 kV16 dc16 pm16 cd16 ct16 : Value}
    (a16 : PySem.W.nsIn K mainGlobals "_law_visits" = some (some (.ref f16))) (l16 : K.lookup f16 = some ⟨oc16, od16, .func (PySem.W.fnOf "_law_visits" "_law_visits" (defArgs s_law_visits) (defBody s_law_visits) (defScope s_law_visits) .none kV16 dc16 pm16 an16 cd16 ct16), sl16⟩) (c16 : PySem.W.codeIn K cd16 "_law_visits" = true) (k16 : PySem.W.keepIn K (.ref f16) = true)
    {f17 : Addr} {od17 an17 : Option Addr} {sl17 : Array (Option Value)} {oc17 kV17 dc17 pm17 cd17 ct17 : Value}
    (a17 : PySem.W.nsIn K mainGlobals "_law_end" = some (some (.ref f17))) (l17 : K.lookup f17 = some ⟨oc17, od17, .func (PySem.W.fnOf "_law_end" "_law_end" (defArgs s_law_end) (defBody s_law_end) (defScope s_law_end) .none kV17 dc17 pm17 an17 cd17 ct17), sl17⟩) (c17 : PySem.W.codeIn K cd17 "_law_end" = true) (k17 : PySem.W.keepIn K (.ref f17) = true)
    {f18 : Addr} {od18 an18 : Option Addr} {sl18 : Array (Option Value)} {oc18 kV18 dc18 pm18 cd18 ct18 : Value}
    (a18 : PySem.W.nsIn K mainGlobals "_law_right" = some (some (.ref f18))) (l18 : K.lookup f18 = some ⟨oc18, od18, .func (PySem.W.fnOf "_law_right" "_law_right" (defArgs s_law_right) (defBody s_law_right) (defScope s_law_right) .none kV18 dc18 pm18 an18 cd18 ct18), sl18⟩) (c18 : PySem.W.codeIn K cd18 "_law_right" = true) (k18 : PySem.W.keepIn K (.ref f18) = true)
    {f19 : Addr} {od19 an19 : Option Addr} {sl19 : Array (Option Value)} {oc19 kV19 dc19 pm19 cd19 ct19 : Value}
    (a19 : PySem.W.nsIn K mainGlobals "law" = some (some (.ref f19))) (l19 : K.lookup f19 = some ⟨oc19, od19, .func (PySem.W.fnOf "law" "law" (defArgs s_law) (defBody s_law) (defScope s_law) .none kV19 dc19 pm19 an19 cd19 ct19), sl19⟩) (c19 : PySem.W.codeIn K cd19 "law" = true) (k19 : PySem.W.keepIn K (.ref f19) = true)
    (z0 : PySem.W.nsIn K mainGlobals "isinstance" = some none)
    (z1 : PySem.W.nsIn K mainGlobals "int" = some none)
    (z2 : PySem.W.nsIn K mainGlobals "bool" = some none)
    (z3 : PySem.W.nsIn K mainGlobals "tuple" = some none)
    (z4 : PySem.W.nsIn K mainGlobals "list" = some none)
    (z5 : PySem.W.nsIn K mainGlobals "str" = some none)
    (z6 : PySem.W.nsIn K mainGlobals "len" = some none)
    (z7 : PySem.W.nsIn K mainGlobals "range" = some none)
    (z8 : PySem.W.nsIn K mainGlobals "enumerate" = some none)
    (z9 : PySem.W.nsIn K mainGlobals "sorted" = some none)
    (z10 : PySem.W.nsIn K mainGlobals "set" = some none)
    (z11 : PySem.W.nsIn K mainGlobals "sum" = some none)
    (z12 : PySem.W.nsIn K mainGlobals "max" = some none)
    (z13 : PySem.W.nsIn K mainGlobals "abs" = some none)
    (z14 : PySem.W.nsIn K mainGlobals "zip" = some none)
    (z15 : PySem.W.nsIn K mainGlobals "min" = some none)
    (z16 : PySem.W.nsIn K mainGlobals "repr" = some none)
    : ∃ fd : FuncData, (∀ (s : Shared) (v : Value), BindsTo s fd ⟨[v], []⟩ [("script", v)]) ∧ ∀ base : Heap, K.In base → base.Ns mainGlobals mg → FnG l.prog w K mg base CX0 25 fa fd ["script"] (spLaw K) := by
  cases hfa.symm.trans (PySem.W.mg_of X G a19)
  have B : Bl mg := ⟨PySem.W.mg_none_of X G z0, PySem.W.mg_none_of X G z1, PySem.W.mg_none_of X G z2, PySem.W.mg_none_of X G z3, PySem.W.mg_none_of X G z4, PySem.W.mg_none_of X G z5, PySem.W.mg_none_of X G z6, PySem.W.mg_none_of X G z7, PySem.W.mg_none_of X G z8, PySem.W.mg_none_of X G z9, PySem.W.mg_none_of X G z10, PySem.W.mg_none_of X G z11, PySem.W.mg_none_of X G z12, PySem.W.mg_none_of X G z13, PySem.W.mg_none_of X G z14, PySem.W.mg_none_of X G z15⟩
  have A1 : At K mg "is_whole" s_is_whole := ⟨_, _, PySem.W.mg_of X G a1, fun_mk l1 c1 k1⟩
  have A2 : At K mg "is_tree" s_is_tree := ⟨_, _, PySem.W.mg_of X G a2, fun_mk l2 c2 k2⟩
  have A3 : At K mg "count_nodes" s_count_nodes := ⟨_, _, PySem.W.mg_of X G a3, fun_mk l3 c3 k3⟩
  have A4 : At K mg "check_tree" s_check_tree := ⟨_, _, PySem.W.mg_of X G a4, fun_mk l4 c4 k4⟩
  have A5 : At K mg "check_row" s_check_row := ⟨_, _, PySem.W.mg_of X G a5, fun_mk l5 c5 k5⟩
  have A6 : At K mg "check_values" s_check_values := ⟨_, _, PySem.W.mg_of X G a6, fun_mk l6 c6 k6⟩
  have A7 : At K mg "turn" s_turn := ⟨_, _, PySem.W.mg_of X G a7, fun_mk l7 c7 k7⟩
  have A8 : At K mg "search" s_search := ⟨_, _, PySem.W.mg_of X G a8, fun_mk l8 c8 k8⟩
  have A9 : At K mg "find" s_find := ⟨_, _, PySem.W.mg_of X G a9, fun_mk l9 c9 k9⟩
  have A10 : At K mg "looked" s_looked := ⟨_, _, PySem.W.mg_of X G a10, fun_mk l10 c10 k10⟩
  have A11 : At K mg "_law_draws" s_law_draws := ⟨_, _, PySem.W.mg_of X G a11, fun_mk l11 c11 k11⟩
  have A12 : At K mg "_law_next" s_law_next := ⟨_, _, PySem.W.mg_of X G a12, fun_mk l12 c12 k12⟩
  have A13 : At K mg "_law_size" s_law_size := ⟨_, _, PySem.W.mg_of X G a13, fun_mk l13 c13 k13⟩
  have A14 : At K mg "_law_tree" s_law_tree := ⟨_, _, PySem.W.mg_of X G a14, fun_mk l14 c14 k14⟩
  have A15 : At K mg "_law_values" s_law_values := ⟨_, _, PySem.W.mg_of X G a15, fun_mk l15 c15 k15⟩
  have A16 : At K mg "_law_visits" s_law_visits := ⟨_, _, PySem.W.mg_of X G a16, fun_mk l16 c16 k16⟩
  have A17 : At K mg "_law_end" s_law_end := ⟨_, _, PySem.W.mg_of X G a17, fun_mk l17 c17 k17⟩
  have A18 : At K mg "_law_right" s_law_right := ⟨_, _, PySem.W.mg_of X G a18, fun_mk l18 c18 k18⟩
  refine ⟨PySem.W.fnOf "law" "law" (defArgs s_law) (defBody s_law) (defScope s_law) .none kV19 dc19 pm19 an19 cd19 ct19, fun s v => .of_eq rfl, fun base _ _ => ?_⟩
  have Wh := ok_whole (P := l.prog) (w := w) (base := base) B A1
  have Tr := ok_tree (P := l.prog) (w := w) (base := base) B A2
  have Co := ok_count (P := l.prog) (w := w) (base := base) A3
  have Ct := ok_chkT Tr A4
  have Cr := ok_chkR B Wh A5
  have Cv := ok_chkV B Cr Co Ct A6
  have Tu := ok_turn (P := l.prog) (w := w) (base := base) A7
  have Se := ok_search Co Tu A8
  have Fi := okB_find Cv Se A9
  have Lk := okB_looked Cv Se A10
  have Dr := ok_draws (P := l.prog) (w := w) (base := base) B A11
  have N := ok_next (P := l.prog) (w := w) (base := base) B A12
  have Z := ok_size (P := l.prog) (w := w) (base := base) A13 21
  have T := ok_drawT B N A14 21
  have Va := ok_values B N A15
  have Vi := ok_visits B Z A16
  have En := ok_lawEnd Vi A17
  have R := ok_right B (PySem.W.mg_none_of X G z16) N T Z Va Vi En Fi Lk A18
  exact ok_law B (fun_mk l19 c19 k19) Dr R
end HSP
open PySem PySem.W PyProof.Rows
set_option maxHeartbeats 0 in
theorem PySem.Challenge.cw_halfsearch_k04_searches_holds : PySem.Challenge.rw_halfsearch_k04_searches.Holds := by
  w_on; o_law; k_head; (case hw => w_witness2)
  k_fill
  refine HSP.walk_ofG (l := PySem.Challenge.rw_halfsearch_k04_searches) (n := 63) (k := 25) (x := "script") (sp := fun w => HSP.spLaw _) rfl (by decide) rfl ⟨rfl, by decide, by decide⟩ (fun w h Y => PySem.W.kIn_of Y) ?F (fun _ _ a ns hl _ hS => ⟨a, ns, rfl, hS, hl, fun _ => rfl⟩)
  case F =>
    intro w mg fa h KX G hmg
    refine' HSP.all_mk KX G hmg ?a1 ?l1 ?c1 ?k1 ?a2 ?l2 ?c2 ?k2 ?a3 ?l3 ?c3 ?k3 ?a4 ?l4 ?c4 ?k4 ?a5 ?l5 ?c5 ?k5 ?a6 ?l6 ?c6 ?k6 ?a7 ?l7 ?c7 ?k7 ?a8 ?l8 ?c8 ?k8 ?a9 ?l9 ?c9 ?k9 ?a10 ?l10 ?c10 ?k10 ?a11 ?l11 ?c11 ?k11 ?a12 ?l12 ?c12 ?k12 ?a13 ?l13 ?c13 ?k13 ?a14 ?l14 ?c14 ?k14 ?a15 ?l15 ?c15 ?k15 ?a16 ?l16 ?c16 ?k16 ?a17 ?l17 ?c17 ?k17 ?a18 ?l18 ?c18 ?k18 ?a19 ?l19 ?c19 ?k19 ?z0 ?z1 ?z2 ?z3 ?z4 ?z5 ?z6 ?z7 ?z8 ?z9 ?z10 ?z11 ?z12 ?z13 ?z14 ?z15 ?z16
    (case a1 => k_is)
    (case l1 => k_is)
    (case c1 => k_is)
    (case k1 => k_is)
    (case a2 => k_is)
    (case l2 => k_is)
    (case c2 => k_is)
    (case k2 => k_is)
    (case a3 => k_is)
    (case l3 => k_is)
    (case c3 => k_is)
    (case k3 => k_is)
    (case a4 => k_is)
    (case l4 => k_is)
    (case c4 => k_is)
    (case k4 => k_is)
    (case a5 => k_is)
    (case l5 => k_is)
    (case c5 => k_is)
    (case k5 => k_is)
    (case a6 => k_is)
    (case l6 => k_is)
    (case c6 => k_is)
    (case k6 => k_is)
    (case a7 => k_is)
    (case l7 => k_is)
    (case c7 => k_is)
    (case k7 => k_is)
    (case a8 => k_is)
    (case l8 => k_is)
    (case c8 => k_is)
    (case k8 => k_is)
    (case a9 => k_is)
    (case l9 => k_is)
    (case c9 => k_is)
    (case k9 => k_is)
    (case a10 => k_is)
    (case l10 => k_is)
    (case c10 => k_is)
    (case k10 => k_is)
    (case a11 => k_is)
    (case l11 => k_is)
    (case c11 => k_is)
    (case k11 => k_is)
    (case a12 => k_is)
    (case l12 => k_is)
    (case c12 => k_is)
    (case k12 => k_is)
    (case a13 => k_is)
    (case l13 => k_is)
    (case c13 => k_is)
    (case k13 => k_is)
    (case a14 => k_is)
    (case l14 => k_is)
    (case c14 => k_is)
    (case k14 => k_is)
    (case a15 => k_is)
    (case l15 => k_is)
    (case c15 => k_is)
    (case k15 => k_is)
    (case a16 => k_is)
    (case l16 => k_is)
    (case c16 => k_is)
    (case k16 => k_is)
    (case a17 => k_is)
    (case l17 => k_is)
    (case c17 => k_is)
    (case k17 => k_is)
    (case a18 => k_is)
    (case l18 => k_is)
    (case c18 => k_is)
    (case k18 => k_is)
    (case a19 => k_is)
    (case l19 => k_is)
    (case c19 => k_is)
    (case k19 => k_is)
    (case z0 => k_is)
    (case z1 => k_is)
    (case z2 => k_is)
    (case z3 => k_is)
    (case z4 => k_is)
    (case z5 => k_is)
    (case z6 => k_is)
    (case z7 => k_is)
    (case z8 => k_is)
    (case z9 => k_is)
    (case z10 => k_is)
    (case z11 => k_is)
    (case z12 => k_is)
    (case z13 => k_is)
    (case z14 => k_is)
    (case z15 => k_is)
    (case z16 => k_is)
