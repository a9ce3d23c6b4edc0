import PyProof.Rows.All
import Wide.All
import OpenK.AllK
import Wide.FinOn
import HandS.Base
import HandS.Call
import HandS.List
import HandS.Comp
import HandS.Ends
import HandS.Dict
import HandS.Iter
import HandS.Text
import HandS.Words
import HandS.WordsList
import HandS.Wide
import HandS.Strs
import HandS.SetFor
import HandS.SortInts
import HandS.Defaults
import HandS.IsInst
import HandS.Walk
import HandS.Codes
import HandS.ExcValue
import PySem.Challenge.RW_halfsearch_k23_whole_gaps_fit
set_option Elab.async false
set_option maxRecDepth 100000
namespace HSP
open PySem PySem.Spec PyProof.Rows L2
/-! ## trees of pairs, as they lie in the heap -/
inductive Tr where
  | nil
  | nod (l r : Tr)
  deriving DecidableEq
def Tr.size : Tr → Nat
  | .nil => 0
  | .nod l r => l.size + 1 + r.size
def Tr.ht : Tr → Nat
  | .nil => 0
  | .nod l r => max l.ht r.ht + 1
theorem Tr.ht_le : ∀ t : Tr, t.ht ≤ t.size
  | .nil => Nat.le_refl _
  | .nod l r => by
    have h1 := l.ht_le
    have h2 := r.ht_le
    simp only [Tr.ht, Tr.size]
    omega
inductive TrAt (H : Hp) : V → Tr → Prop
  | nil : TrAt H .non .nil
  | nod {a : Addr} {x y : V} {l r : Tr} : H a = some (.tup [x, y]) → TrAt H x l → TrAt H y r → TrAt H (.ref a) (.nod l r)
theorem TrAt.keep {H H' : Hp} {v : V} {t : Tr} (h : TrAt H v t) (s : ∀ a x y, H a = some (.tup [x, y]) → H' a = some (.tup [x, y])) : TrAt H' v t := by
  induction h with
  | nil => exact .nil
  | nod e _ _ ih1 ih2 => exact .nod (s _ _ _ e) ih1 ih2
theorem TrAt.same {H H' : Hp} {v : V} {t : Tr} (h : TrAt H v t) (s : Same H H') : TrAt H' v t := h.keep fun a x y e => s a _ e
/-! ## heaps: all but one place stays -/
def Keep (p : Addr) (H H' : Hp) : Prop := ∀ b o, b ≠ p → H b = some o → H' b = some o
theorem Keep.refl (p : Addr) (H : Hp) : Keep p H H := fun _ _ _ e => e
theorem Keep.trans {p : Addr} {H H1 H2 : Hp} (a : Keep p H H1) (b : Keep p H1 H2) : Keep p H H2 := fun c o n e => b c o n (a c o n e)
theorem Keep.of {p : Addr} {H H' : Hp} (s : Same H H') : Keep p H H' := fun b o _ e => s b o e
theorem Keep.at {p : Addr} {H : Hp} {o : HO} : Keep p H (upd H p o) := fun b u n e => by
  rw [upd_ne n]; exact e
theorem Keep.new {p q : Addr} {H : Hp} {o : HO} (h : H q = none) : Keep p H (upd H q o) := fun b u _ e => by
  rw [upd_ne (ne_of_none e h)]; exact e
theorem Keep.tree {p : Addr} {H H' : Hp} {v : V} {t : Tr} {xs : List V} (k : Keep p H H') (hp : H p = some (.lst xs)) (h : TrAt H v t) : TrAt H' v t :=
  h.keep fun a x y e => k a _ (fun z => by rw [z, hp] at e; cases e) e
theorem Same.new {H : Hp} {p : Addr} {o : HO} (h : H p = none) : Same H (upd H p o) := fun b u e => by
  rw [upd_ne (ne_of_none e h)]; exact e
theorem Keep.same {p : Addr} {H H1 H' : Hp} (s : Same H H1) (n : H p = none) (k : Keep p H1 H') : Same H H' := fun b o e => k b o (ne_of_none e n) (s b o e)
/-! ## powers -/
def CPowW (i j : Int) : Prop := 0 ≤ j ∧ (Builtin.Int.intBits i : Int) * j ≤ 2 ^ 27
section
variable {X : Cx}
theorem op_powW : OpR X (binaryOp .Pow) (rI CPowW fun i j => .int (i ^ j.toNat)) :=
  opI fun _ _ _ _ _ _ _ hc q => pow_int hc.1 hc.2 q
end
end HSP
namespace HSP
open PySem PySem.Spec PyProof.Rows L2
/-! ## a def of the text that keeps a promise, called by its name -/
/-- the def stands under its own name behind the top -/
def At (K : PySem.W.Frag) (mg : Str → Option Value) (x : Str) (st : Stmt) : Prop := ∃ (f : Addr) (fd : FuncData), mg x = some (.ref f) ∧ Fun K x x st f fd
structure Df (P : Program) (w : World) (K : PySem.W.Frag) (mg : Str → Option Value) (base : Heap) (x : Str) (n : Nat) (ps : List Str) (sp : Sp) : Prop where
  ex : ∃ (f : Addr) (fd : FuncData), mg x = some (.ref f) ∧ PySem.W.keepIn K (.ref f) = true ∧ Binds K fd ps [] ∧ FnOk P w K mg base CX0 n f fd ps sp
section
variable {P : Program} {w : World} {K : PySem.W.Frag} {mg : Str → Option Value} {base : Heap}
theorem Df.mk' {x : Str} {st : Stmt} {N ps : List Str} {k : Nat} {sp : Sp} (a : At K mg x st) (S : FnScope N ps (defScope st)) (len : ∀ vs H Q E, sp vs H Q E → vs.length = ps.length)
    (hb : ∀ (kV doc pm : Value) (an : Option Addr) (cdv ct : Value) (us : List Value), us.length = ps.length → bindArgs (PySem.W.fnOf x x (defArgs st) (defBody st) (defScope st) .none kV doc pm an cdv ct) ⟨us, []⟩ = pure (ps.zip us))
    (body : ∀ (f : Addr) (cdv : Value) (A : Around) (outer : List Env) (s : Shared) (H : Hp) (vs : List V) (Q : VK) (E : XK), Room k (A.deeper (envOfC x (defScope st) s.heap.objs.size f cdv)) → sp vs H Q E →
      ∃ t, PSs (cxOf CX0 P w K mg base N x (defScope st) f cdv A outer s H E).nox (defBody st) t ∧ t { nx := fun _ H' => Q .non H', rt := Q } (start N vs) H) : Df P w K mg base x (k + 1) ps sp := by
  obtain ⟨f, fd, hm, F⟩ := a
  exact ⟨f, fd, hm, F.kp, F.binds hb, F.ok S len (body f)⟩
theorem Df.mono {x : Str} {j k : Nat} {ps : List Str} {sp : Sp} (D : Df P w K mg base x j ps sp) (h : j ≤ k) : Df P w K mg base x k ps sp := by
  obtain ⟨f, fd, a, b, c, d⟩ := D.ex
  exact ⟨f, fd, a, b, c, d.mono h⟩
theorem Df.imp {x : Str} {k : Nat} {ps : List Str} {sp sp' : Sp} (D : Df P w K mg base x k ps sp) (h : ∀ vs H Q E, sp' vs H Q E → sp vs H Q E) : Df P w K mg base x k ps sp' := by
  obtain ⟨f, fd, a, b, c, d⟩ := D.ex
  exact ⟨f, fd, a, b, c, d.imp h⟩
end
section
variable {X : Cx} {k : Nat} {ps : List Str} {sp : Sp} {x : Str} {p pos : Pos} {e : Expr} {es : List Expr} {t : TA}
theorem pe_df (D : Df X.prog X.w X.K X.mg X.base x k ps sp) (hr : Room k X.A) (ha : PA X (e :: es) t) (hg : Gl X x := by rfl) (hdb : (x == ("__debug__" : Str)) = false := by decide)
    (he : starEach (e :: es) X.env = (false, eval e X.env) :: starEach es X.env := by rfl) (hpl : (backTo pos (starEach es X.env)).any (·.1) = false := by rfl) : PE X (.Call (.Name x p) (e :: es) [] pos) (tCall sp [] E0 t) := by
  obtain ⟨f, fd, hm, hk, hb, F⟩ := D.ex
  exact pe_call F hr hg hm hk hb .nil pass0 ha hdb he hpl
end
/-! ## what a test or a value is -/
theorem int_inj {i j : Int} (h : i = j) : V.int i = V.int j := by rw [h]
/-! ## the built-ins, not shadowed -/
structure Bl (mg : Str → Option Value) : Prop where
  isinstance : mg "isinstance" = none
  int : mg "int" = none
  bool : mg "bool" = none
  tuple : mg "tuple" = none
  list : mg "list" = none
  str : mg "str" = none
  len : mg "len" = none
  range : mg "range" = none
  enumerate : mg "enumerate" = none
  sorted : mg "sorted" = none
  set : mg "set" = none
  sum : mg "sum" = none
  max : mg "max" = none
  abs : mg "abs" = none
  zip : mg "zip" = none
  min : mg "min" = none
end HSP
namespace HSP
open PySem PySem.Spec PyProof.Rows L2
def topS (i : Nat) : Stmt := PySem.Challenge.pw_halfsearch_k23_whole_gaps_fit.main.body.getD i (.Pass ⟨0, 0, 0, 0⟩)
abbrev s_is_whole : Stmt := topS 5
abbrev p_is_whole : List Str := ["thing"]
abbrev n_is_whole : List Str := ["thing"]
abbrev s_is_tree : Stmt := topS 6
abbrev p_is_tree : List Str := ["thing"]
abbrev n_is_tree : List Str := ["thing", "waiting", "part"]
abbrev s_count_nodes : Stmt := topS 7
abbrev p_count_nodes : List Str := ["tree"]
abbrev n_count_nodes : List Str := ["tree", "many", "waiting", "part"]
abbrev s_check_tree : Stmt := topS 8
abbrev p_check_tree : List Str := ["tree"]
abbrev n_check_tree : List Str := ["tree"]
abbrev s_check_row : Stmt := topS 9
abbrev p_check_row : List Str := ["row"]
abbrev n_check_row : List Str := ["row", "node", "value"]
abbrev s_check_values : Stmt := topS 10
abbrev p_check_values : List Str := ["tree", "values"]
abbrev n_check_values : List Str := ["tree", "values"]
abbrev s_turn : Stmt := topS 12
abbrev p_turn : List Str := ["twice", "value", "at_equal"]
abbrev n_turn : List Str := ["twice", "value", "at_equal"]
abbrev s_search : Stmt := topS 13
abbrev p_search : List Str := ["tree", "values", "twice", "at_equal"]
abbrev n_search : List Str := ["tree", "values", "twice", "at_equal", "nodes", "first", "part", "left", "right", "node", "way"]
abbrev s_find : Stmt := topS 14
abbrev p_find : List Str := ["tree", "values", "twice"]
abbrev n_find : List Str := ["tree", "values", "twice", "_", "ending"]
abbrev s_insertion : Stmt := topS 15
abbrev p_insertion : List Str := ["tree", "values", "twice", "side"]
abbrev n_insertion : List Str := ["tree", "values", "twice", "side", "_", "ending"]
abbrev s_law_draws : Stmt := topS 17
abbrev p_law_draws : List Str := ["cell"]
abbrev n_law_draws : List Str := ["cell"]
abbrev s_law_next : Stmt := topS 18
abbrev p_law_next : List Str := ["draws"]
abbrev n_law_next : List Str := ["draws", "k", "number"]
abbrev s_law_size : Stmt := topS 19
abbrev p_law_size : List Str := ["tree"]
abbrev n_law_size : List Str := ["tree"]
abbrev s_law_tree : Stmt := topS 20
abbrev p_law_tree : List Str := ["draws", "room"]
abbrev n_law_tree : List Str := ["draws", "room", "at"]
abbrev s_law_values : Stmt := topS 21
abbrev p_law_values : List Str := ["draws", "many"]
abbrev n_law_values : List Str := ["draws", "many", "pick", "spread", "k", "told", "at"]
abbrev s_law_probes : Stmt := topS 22
abbrev p_law_probes : List Str := ["values"]
abbrev n_law_probes : List Str := ["values", "value"]
abbrev s_law_fits : Stmt := topS 23
abbrev p_law_fits : List Str := ["values", "gap", "twice", "below", "above"]
abbrev n_law_fits : List Str := ["values", "gap", "twice", "below", "above"]
abbrev s_law_falls : Stmt := topS 24
abbrev p_law_falls : List Str := ["values"]
abbrev n_law_falls : List Str := ["values", "one", "other"]
abbrev s_law_right : Stmt := topS 25
abbrev p_law_right : List Str := ["draws"]
abbrev n_law_right : List Str := ["draws", "tree", "values", "twice", "kind", "gap", "left", "right", "at", "more"]
abbrev s_law : Stmt := topS 26
abbrev p_law : List Str := ["script"]
abbrev n_law : List Str := ["script", "cell", "draws", "turn_v"]
end HSP
namespace HSP
open PySem PySem.Spec PyProof.Rows L2
section
variable {P : Program} {w : World} {K : PySem.W.Frag} {mg : Str → Option Value} {base : Heap}
/-! ### count_nodes -/
/-- what waits: trees of together n nodes -/
inductive Waits (H : Hp) : List V → List Tr → Prop
  | nil : Waits H [] []
  | cons {v : V} {t : Tr} {vs : List V} {ts : List Tr} : TrAt H v t → Waits H vs ts → Waits H (v :: vs) (t :: ts)
theorem Waits.len {H : Hp} {vs : List V} {ts : List Tr} (h : Waits H vs ts) : vs.length = ts.length := by
  induction h with
  | nil => rfl
  | cons _ _ ih => rw [List.length_cons, List.length_cons, ih]
def sizes : List Tr → Nat
  | [] => 0
  | t :: r => t.size + sizes r
def turns : List Tr → Nat
  | [] => 0
  | t :: r => 2 * t.size + 1 + turns r
/-- the list on which they wait, the last one first -/
theorem last_rev {v : V} {vs : List V} : (v :: vs).reverse[(v :: vs).reverse.length - 1]? = some v := by
  rw [List.reverse_cons, List.length_append, List.length_singleton, Nat.add_sub_cancel, List.getElem?_append_right (Nat.le_refl _), Nat.sub_self]
  all_goals rfl
theorem drop_rev {v : V} {vs : List V} : (v :: vs).reverse.dropLast = vs.reverse := by
  rw [List.reverse_cons, List.dropLast_concat]
theorem rev_push {v : V} {vs : List V} : vs.reverse ++ [v] = (v :: vs).reverse := by rw [List.reverse_cons]
theorem rev_empty {vs : List V} : (!vs.reverse.isEmpty) = !vs.isEmpty := by
  cases vs with
  | nil => rfl
  | cons v r =>
    rw [List.reverse_cons]
    cases r.reverse <;> rfl
def spCount : Sp := fun vs H Q _ => ∃ (v : V) (t : Tr), vs = [v] ∧ TrAt H v t ∧ t.size ≤ 1000 ∧ ∀ H', Same H H' → Q (.int t.size) H'
theorem sc_count : FnScope n_count_nodes ["tree"] (defScope s_count_nodes) := ⟨rfl, rfl, rfl, by decide +kernel, rfl, by decide +kernel, by decide +kernel⟩
theorem ok_count (a : At K mg "count_nodes" s_count_nodes) : Df P w K mg base "count_nodes" 1 ["tree"] spCount := by
  refine Df.mk' a sc_count (fun vs H Q E h => ?_) (fun _ _ _ _ _ _ us hl => match us, hl with | [_], _ => rfl) (fun f cdv A outer s H vs Q E hr h => ?_)
  · obtain ⟨v, t, rfl, _⟩ := h
    rfl
  obtain ⟨v, t, rfl, ht, hz, q⟩ := h
  refine ⟨_, pss_cons (ps_set (i := 1) sc_count.nd rfl (.inl rfl) pe_int)
    (pss_cons (ps_set (i := 2) sc_count.nd rfl (.inl rfl) (pe_lst (pa_cons (pv 0) pa_nil)))
    (pss_cons (ps_while PassesOwn.never (pt_truth (pv 2) (by intro _; rfl))
      (pss_cons (ps_set (i := 3) sc_count.nd rfl (.inl rfl) (pe_bm0 PySem.F.plainAttrs_list PySem.F.slot_list_pop PySem.F.type_list_pop mt_pop (pv 2)))
      (pss_one (ps_if (pt_cmpR op_notN (pv 3) pe_non (nomark _))
        (pss_cons (ps_aug (i := 1) sc_count.nd rfl (.inl rfl) pe_int ip_add)
        (pss_cons (ps_expr (pe_bm PySem.F.plainAttrs_list PySem.F.slot_list_append PySem.F.type_list_append mt_append (pv 2) (pa_cons (pe_ix ix_tup (pv 3) pe_int (fun _ _ => rfl)) pa_nil)))
        (pss_one (ps_expr (pe_bm PySem.F.plainAttrs_list PySem.F.slot_list_append PySem.F.type_list_append mt_append (pv 2) (pa_cons (pe_ix ix_tup (pv 3) pe_int (fun _ _ => rfl)) pa_nil)))))) pss_nil))))
    (pss_one (ps_ret (pv 1))))), ?_⟩
  refine ⟨v, rfl, (by show 1 ≤ sizeLine; decide), fun l hl => ?_⟩
  have s0 : Same H (upd H l (.lst [v])) := Same.new hl
  refine ⟨fun m σ H1 => ∃ (vs : List V) (ts : List Tr) (n : Nat) (y : Option V), σ = [some v, some (.int n), some (.ref l), y] ∧ Same H H1 ∧ H1 l = some (.lst vs.reverse) ∧ Waits H vs ts ∧ n + sizes ts = t.size ∧ vs.length ≤ n + 1 ∧ m = turns ts,
    ⟨_, [v], [t], 0, none, rfl, s0, upd_same, .cons ht .nil, by show 0 + (t.size + 0) = t.size; omega, by show 1 ≤ 0 + 1; omega, rfl⟩, fun m σ H1 hW => ?_⟩
  obtain ⟨vs, ts, n, y, rfl, sm, el, hw, hn, hlen, rfl⟩ := hW
  refine ⟨.ref l, rfl, !vs.reverse.isEmpty, .inl ⟨_, .of el, rfl⟩, ?_⟩
  rw [rev_empty]
  cases hw with
  | nil =>
    refine iteF ?_
    exact ⟨_, rfl, by rw [show ((n : Nat) : Int) = ((t.size : Nat) : Int) from congrArg _ hn]; exact q _ sm⟩
  | @cons x u xs us hx hxs =>
    refine iteT ⟨fun σ' H' => ∃ m', m' < turns (u :: us) ∧ ∃ (vs : List V) (ts : List Tr) (n : Nat) (y : Option V), σ' = [some v, some (.int n), some (.ref l), y] ∧ Same H H' ∧ H' l = some (.lst vs.reverse) ∧ Waits H vs ts ∧ n + sizes ts = t.size ∧ vs.length ≤ n + 1 ∧ m' = turns ts,
      fun σ' H' hN => hN, ?_⟩
    refine ⟨.ref l, rfl, .inl ⟨rfl, _, .of el⟩, l, _, x, rfl, rfl, el, last_rev, ?_⟩
    rw [drop_rev]
    have sm2 : Same H (upd H1 l (.lst xs.reverse)) := fun b o e => by rw [upd_ne (ne_of_none e hl)]; exact sm b o e
    refine ⟨x, rfl, rfl, _, rfl, ?_⟩
    cases hx with
    | nil =>
      refine iteF ?_
      refine ⟨_, ?_, xs, us, n, _, rfl, sm2, upd_same, hxs, ?_, ?_, rfl⟩
      · show turns us < 2 * 0 + 1 + turns us; omega
      · have : 0 + sizes us = sizes (Tr.nil :: us) := rfl
        omega
      · rw [List.length_cons] at hlen; omega
    | @nod a x1 y1 l1 r1 ea hl1 hr1 =>
      refine iteT ?_
      refine ⟨_, rfl, _, _, rfl, rfl, ?_⟩
      have e2 : (upd H1 l (.lst xs.reverse)) a = some (.tup [x1, y1]) := sm2 _ _ ea
      refine ⟨_, rfl, .inl ⟨rfl, _, .of upd_same⟩, _, rfl, a, _, _, y1, rfl, rfl, .of e2, atI_nat (j := 1) rfl, l, _, _, rfl, rfl, upd_same, ?_, ?_⟩
      · rw [List.length_reverse]
        rw [List.length_cons] at hlen
        exact small1000 (by omega)
      refine ⟨_, rfl, .inl ⟨rfl, _, .of upd_same⟩, _, rfl, a, _, _, x1, rfl, rfl, .of (by rw [upd_ne (ne_of_none ea hl)]; exact e2), atI_nat (xs := [x1, y1]) (j := 0) rfl, l, _, _, rfl, rfl, upd_same, ?_, ?_⟩
      · rw [List.length_append, List.length_reverse, List.length_singleton]
        rw [List.length_cons] at hlen
        have e1 : sizes (Tr.nod l1 r1 :: us) = (l1.size + 1 + r1.size) + sizes us := rfl
        exact small1000 (by omega)
      rw [rev_push, rev_push]
      refine ⟨_, ?_, x1 :: y1 :: xs, l1 :: r1 :: us, n + 1, _, rfl, fun b o e => ?_, upd_same, .cons hl1 (.cons hr1 hxs), ?_, ?_, rfl⟩
      · show 2 * l1.size + 1 + (2 * r1.size + 1 + turns us) < 2 * (l1.size + 1 + r1.size) + 1 + turns us
        omega
      · rw [upd_ne (ne_of_none e hl), upd_ne (ne_of_none e hl)]
        exact sm2 b o e
      · have e1 : sizes (Tr.nod l1 r1 :: us) = (l1.size + 1 + r1.size) + sizes us := rfl
        show n + 1 + (l1.size + (r1.size + sizes us)) = t.size
        omega
      · rw [List.length_cons] at hlen
        show xs.length + 1 + 1 ≤ n + 1 + 1
        omega
end
end HSP
namespace HSP
open PySem PySem.Spec PyProof.Rows L2
section
variable {P : Program} {w : World} {K : PySem.W.Frag} {mg : Str → Option Value} {base : Heap}
/-! ### is_whole -/
def spWhole : Sp := fun vs H Q _ => ∃ i : Int, vs = [.int i] ∧ Q (.bl true) H
theorem sc_whole : FnScope n_is_whole ["thing"] (defScope s_is_whole) := ⟨rfl, rfl, rfl, by decide +kernel, rfl, by decide +kernel, by decide +kernel⟩
theorem ok_whole (B : Bl mg) (a : At K mg "is_whole" s_is_whole) : Df P w K mg base "is_whole" 1 ["thing"] spWhole := by
  refine Df.mk' a sc_whole (fun vs H Q E h => ?_) (fun _ _ _ _ _ _ us hl => match us, hl with | [_], _ => rfl) (fun f cdv A outer s H vs Q E hr h => ?_)
  · obtain ⟨v, rfl, _⟩ := h
    rfl
  obtain ⟨i, rfl, q⟩ := h
  refine ⟨_, pss_one (ps_ret (pe_and (pe_callB call_isi (by rfl) B.isinstance (by decide +kernel) (pa_cons (pv 0) (pa_cons (pe_bltn (v := .ty "int") (by rfl) B.int (by decide +kernel) rfl) pa_nil)))
    (pe_one (pe_not (pe_callB call_isi (by rfl) B.isinstance (by decide +kernel) (pa_cons (pv 0) (pa_cons (pe_bltn (v := .ty "bool") (by rfl) B.bool (by decide +kernel) rfl) pa_nil))))))), ?_⟩
  refine ⟨_, rfl, _, _, _, _, true, rfl, .ty "int", .base (.int i), rfl, true, rfl, iteT ?_⟩
  exact ⟨_, rfl, _, _, _, _, false, rfl, .ty "bool", .base (.int i), rfl, false, rfl, q⟩
end
end HSP
namespace HSP
open PySem PySem.Spec PyProof.Rows L2
section
variable {P : Program} {w : World} {K : PySem.W.Frag} {mg : Str → Option Value} {base : Heap}
/-! ### is_tree -/
def spTree : Sp := fun vs H Q _ => ∃ (v : V) (t : Tr), vs = [v] ∧ TrAt H v t ∧ t.size ≤ 1000 ∧ ∀ H', Same H H' → Q (.bl true) H'
theorem sc_tree : FnScope n_is_tree ["thing"] (defScope s_is_tree) := ⟨rfl, rfl, rfl, by decide +kernel, rfl, by decide +kernel, by decide +kernel⟩
theorem ok_tree (B : Bl mg) (a : At K mg "is_tree" s_is_tree) : Df P w K mg base "is_tree" 1 ["thing"] spTree := by
  refine Df.mk' a sc_tree (fun vs H Q E h => ?_) (fun _ _ _ _ _ _ us hl => match us, hl with | [_], _ => rfl) (fun f cdv A outer s H vs Q E hr h => ?_)
  · obtain ⟨v, t, rfl, _⟩ := h
    rfl
  obtain ⟨v, t, rfl, ht, hz, q⟩ := h
  refine ⟨_, pss_cons (ps_set (i := 1) sc_tree.nd rfl (.inl rfl) (pe_lst (pa_cons (pv 0) pa_nil)))
    (pss_cons (ps_while PassesOwn.never (pt_truth (pv 1) (by intro _; rfl))
      (pss_cons (ps_set (i := 2) sc_tree.nd rfl (.inl rfl) (pe_bm0 PySem.F.plainAttrs_list PySem.F.slot_list_pop PySem.F.type_list_pop mt_pop (pv 1)))
      (pss_one (ps_if (pt_cmpR op_notN (pv 2) pe_non (nomark _))
        (pss_cons (ps_if (PW.pt (pw_or (pt_not (pt_val (pe_callB call_isi (by rfl) B.isinstance (by decide +kernel) (pa_cons (pv 2) (pa_cons (pe_bltn (v := .ty "tuple") (by rfl) B.tuple (by decide +kernel) rfl) pa_nil)))))
            (pw_or1 (pt_cmpR op_ne (pe_callB call_len_seq (by rfl) B.len PySem.boot_len (pa_cons (pv 2) pa_nil)) pe_int (nomark _)))))
          (pss_one (ps_ret pe_bl)) pss_nil)
        (pss_cons (ps_expr (pe_bm PySem.F.plainAttrs_list PySem.F.slot_list_append PySem.F.type_list_append mt_append (pv 1) (pa_cons (pe_ix ix_tup (pv 2) pe_int (fun _ _ => rfl)) pa_nil)))
        (pss_one (ps_expr (pe_bm PySem.F.plainAttrs_list PySem.F.slot_list_append PySem.F.type_list_append mt_append (pv 1) (pa_cons (pe_ix ix_tup (pv 2) pe_int (fun _ _ => rfl)) pa_nil)))))) pss_nil))))
    (pss_one (ps_ret pe_bl))), ?_⟩
  refine ⟨v, rfl, (by show 1 ≤ sizeLine; decide), fun l hl => ?_⟩
  have s0 : Same H (upd H l (.lst [v])) := Same.new hl
  refine ⟨fun m σ H1 => ∃ (vs : List V) (ts : List Tr) (n : Nat) (y : Option V), σ = [some v, some (.ref l), y] ∧ Same H H1 ∧ H1 l = some (.lst vs.reverse) ∧ Waits H vs ts ∧ n + sizes ts = t.size ∧ vs.length ≤ n + 1 ∧ m = turns ts,
    ⟨_, [v], [t], 0, none, rfl, s0, upd_same, .cons ht .nil, by show 0 + (t.size + 0) = t.size; omega, by show 1 ≤ 0 + 1; omega, rfl⟩, fun m σ H1 hW => ?_⟩
  obtain ⟨vs, ts, n, y, rfl, sm, el, hw, hn, hlen, rfl⟩ := hW
  refine ⟨.ref l, rfl, !vs.reverse.isEmpty, .inl ⟨_, .of el, rfl⟩, ?_⟩
  rw [rev_empty]
  cases hw with
  | nil => exact iteF (q _ sm)
  | @cons x u xs us hx hxs =>
    refine iteT ⟨fun σ' H' => ∃ m', m' < turns (u :: us) ∧ ∃ (vs : List V) (ts : List Tr) (n : Nat) (y : Option V), σ' = [some v, some (.ref l), y] ∧ Same H H' ∧ H' l = some (.lst vs.reverse) ∧ Waits H vs ts ∧ n + sizes ts = t.size ∧ vs.length ≤ n + 1 ∧ m' = turns ts,
      fun σ' H' hN => hN, ?_⟩
    refine ⟨.ref l, rfl, .inl ⟨rfl, _, .of el⟩, l, _, x, rfl, rfl, el, last_rev, ?_⟩
    rw [drop_rev]
    have sm2 : Same H (upd H1 l (.lst xs.reverse)) := fun b o e => by rw [upd_ne (ne_of_none e hl)]; exact sm b o e
    refine ⟨x, rfl, rfl, _, rfl, ?_⟩
    cases hx with
    | nil =>
      refine iteF ?_
      refine ⟨_, ?_, xs, us, n, _, rfl, sm2, upd_same, hxs, ?_, ?_, rfl⟩
      · show turns us < 2 * 0 + 1 + turns us; omega
      · have : 0 + sizes us = sizes (Tr.nil :: us) := rfl
        omega
      · rw [List.length_cons] at hlen; omega
    | @nod a x1 y1 l1 r1 ea hl1 hr1 =>
      refine iteT ?_
      have e2 : (upd H1 l (.lst xs.reverse)) a = some (.tup [x1, y1]) := sm2 _ _ ea
      refine ⟨_, rfl, _, _, _, _, true, rfl, .ty "tuple", .base (.tup e2), rfl, true, rfl, iteF ?_⟩
      refine ⟨_, rfl, a, _, rfl, .inr (.of e2), rfl, _, rfl, iteF ?_⟩
      refine ⟨_, rfl, .inl ⟨rfl, _, .of upd_same⟩, _, rfl, a, _, _, y1, rfl, rfl, .of e2, atI_nat (j := 1) rfl, l, _, _, rfl, rfl, upd_same, ?_, ?_⟩
      · rw [List.length_reverse]
        rw [List.length_cons] at hlen
        exact small1000 (by omega)
      refine ⟨_, rfl, .inl ⟨rfl, _, .of upd_same⟩, _, rfl, a, _, _, x1, rfl, rfl, .of (by rw [upd_ne (ne_of_none ea hl)]; exact e2), atI_nat (xs := [x1, y1]) (j := 0) rfl, l, _, _, rfl, rfl, upd_same, ?_, ?_⟩
      · rw [List.length_append, List.length_reverse, List.length_singleton]
        rw [List.length_cons] at hlen
        have e1 : sizes (Tr.nod l1 r1 :: us) = (l1.size + 1 + r1.size) + sizes us := rfl
        exact small1000 (by omega)
      rw [rev_push, rev_push]
      refine ⟨_, ?_, x1 :: y1 :: xs, l1 :: r1 :: us, n + 1, _, rfl, fun b o e => ?_, upd_same, .cons hl1 (.cons hr1 hxs), ?_, ?_, rfl⟩
      · show 2 * l1.size + 1 + (2 * r1.size + 1 + turns us) < 2 * (l1.size + 1 + r1.size) + 1 + turns us
        omega
      · rw [upd_ne (ne_of_none e hl), upd_ne (ne_of_none e hl)]
        exact sm2 b o e
      · have e1 : sizes (Tr.nod l1 r1 :: us) = (l1.size + 1 + r1.size) + sizes us := rfl
        show n + 1 + (l1.size + (r1.size + sizes us)) = t.size
        omega
      · rw [List.length_cons] at hlen
        show xs.length + 1 + 1 ≤ n + 1 + 1
        omega
/-! ### check_tree -/
theorem sc_chkT : FnScope n_check_tree ["tree"] (defScope s_check_tree) := ⟨rfl, rfl, rfl, by decide +kernel, rfl, by decide +kernel, by decide +kernel⟩
def spChkT : Sp := fun vs H Q _ => ∃ (v : V) (t : Tr), vs = [v] ∧ TrAt H v t ∧ t.size ≤ 1000 ∧ ∀ H', Same H H' → Q .non H'
theorem ok_chkT (T : Df P w K mg base "is_tree" 1 ["thing"] spTree) (a : At K mg "check_tree" s_check_tree) : Df P w K mg base "check_tree" 2 ["tree"] spChkT := by
  refine Df.mk' a sc_chkT (fun vs H Q E h => ?_) (fun _ _ _ _ _ _ us hl => match us, hl with | [_], _ => rfl) (fun f cdv A outer s H vs Q E hr h => ?_)
  · obtain ⟨v, t, rfl, _⟩ := h
    rfl
  obtain ⟨v, t, rfl, ht, hz, q⟩ := h
  refine ⟨_, pss_one (ps_if (pt_not (pt_val (pe_df T hr (pa_cons (pv 0) pa_nil)))) (pss_one ps_never) pss_nil), ?_⟩
  refine ⟨v, rfl, v, t, rfl, ht, hz, fun H' sm => ⟨true, rfl, iteF ?_⟩⟩
  exact q H' sm
end
end HSP
namespace HSP
open PySem PySem.Spec PyProof.Rows L2
section
variable {P : Program} {w : World} {K : PySem.W.Frag} {mg : Str → Option Value} {base : Heap}
/-! ### check_row -/
theorem sc_chkR : FnScope n_check_row ["row"] (defScope s_check_row) := ⟨rfl, rfl, rfl, by decide +kernel, rfl, by decide +kernel, by decide +kernel⟩
def spChkR : Sp := fun vs H Q _ => ∃ (a : Addr) (ns : List Int), vs = [.ref a] ∧ H a = some (.lst (ns.map V.int)) ∧ ∀ H', Same H H' → Q .non H'
theorem ok_chkR (B : Bl mg) (W1 : Df P w K mg base "is_whole" 1 ["thing"] spWhole) (a : At K mg "check_row" s_check_row) : Df P w K mg base "check_row" 2 ["row"] spChkR := by
  refine Df.mk' a sc_chkR (fun vs H Q E h => ?_) (fun _ _ _ _ _ _ us hl => match us, hl with | [_], _ => rfl) (fun f cdv A outer s H vs Q E hr h => ?_)
  · obtain ⟨a, ns, rfl, _⟩ := h
    rfl
  obtain ⟨a, ns, rfl, ha, q⟩ := h
  refine ⟨_, (pss_cons (ps_if (pt_not (pt_val (pe_callB call_isi (by rfl) B.isinstance (by decide +kernel) (pa_cons (pv 0) (pa_cons (pe_bltn (v := .ty "list") (by rfl) B.list (by decide +kernel) rfl) pa_nil))))) (pss_one ps_never) pss_nil)
 (pss_one (ps_for PassesOwn.never rfl (pi_enum (by rfl) B.enumerate (pa_cons (pv 0) pa_nil)) (pg_tup rfl (pgs_cons (pg_name (i := 1) sc_chkR.nd rfl (.inl rfl)) (pgs_cons (pg_name (i := 2) sc_chkR.nd rfl (.inl rfl)) pgs_nil))) (pss_one (ps_if (pt_not (pt_val (pe_df W1 hr (pa_cons (pv 2) pa_nil)))) (pss_one ps_never) pss_nil))))), ?_⟩
  refine ⟨_, rfl, _, _, _, _, true, rfl, .ty "list", .base (.lst ha), rfl, true, rfl, iteF ?_⟩
  refine ⟨.ref a, rfl, a, ns.map V.int, rfl, .of ha, ?_⟩
  refine for_it (walk_enum (K := K) (a := a) (xs := ns.map V.int)) (fun _ σ H3 => Same H H3 ∧ ∃ y2 y3, σ = [some (.ref a), y2, y3]) ⟨Same.refl _, none, none, rfl⟩ (fun i σ H3 _ h3 => .of (h3.1 _ _ ha)) (fun i x σ H3 H4 hi h3 hy => ?_) (fun σ H3 h3 => q _ h3.1)
  obtain ⟨s3, y2, y3, rfl⟩ := h3
  obtain ⟨p, x1, x2, rfl, np, rfl, ex1, ex2⟩ := hy
  rw [List.length_map] at hi
  have g1 : (ns.map V.int)[i]? = some (.int ns[i]) := by
    rw [List.getElem?_map, List.getElem?_eq_getElem hi]
    rfl
  cases g1.symm.trans ex2
  refine ⟨p, [x1, .int ns[i]], rfl, .of upd_same, rfl, x1, _, rfl, _, [], rfl, rfl, ?_⟩
  refine ⟨_, rfl, _, rfl, true, rfl, iteF ?_⟩
  exact ⟨s3.trans (Same.new np), _, _, rfl⟩
end
end HSP
namespace HSP
open PySem PySem.Spec PyProof.Rows L2
section
variable {P : Program} {w : World} {K : PySem.W.Frag} {mg : Str → Option Value} {base : Heap}
/-! ### check_values -/
theorem sc_chkV : FnScope n_check_values ["tree", "values"] (defScope s_check_values) := ⟨rfl, rfl, rfl, by decide +kernel, rfl, by decide +kernel, by decide +kernel⟩
def spChkV : Sp := fun vs H Q _ => ∃ (v : V) (t : Tr) (a : Addr) (ns : List Int), vs = [v, .ref a] ∧ TrAt H v t ∧ t.size ≤ 1000 ∧ H a = some (.lst (ns.map V.int)) ∧ ns.length = t.size ∧ ∀ H', Same H H' → Q .non H'
theorem ok_chkV (B : Bl mg) (R : Df P w K mg base "check_row" 2 ["row"] spChkR) (C : Df P w K mg base "count_nodes" 1 ["tree"] spCount) (T : Df P w K mg base "check_tree" 2 ["tree"] spChkT)
    (a : At K mg "check_values" s_check_values) : Df P w K mg base "check_values" 3 ["tree", "values"] spChkV := by
  refine Df.mk' a sc_chkV (fun vs H Q E h => ?_) (fun _ _ _ _ _ _ us hl => match us, hl with | [_, _], _ => rfl) (fun f cdv A outer s H vs Q E hr h => ?_)
  · obtain ⟨v, t, a, ns, rfl, _⟩ := h
    rfl
  obtain ⟨v, t, a, ns, rfl, ht, hz, ha, hn, q⟩ := h
  refine ⟨_, (pss_cons (ps_expr (pe_df T hr (pa_cons (pv 0) pa_nil)))
 (pss_cons (ps_if (PW.pt (pw_and (pt_val (pe_callB call_isi (by rfl) B.isinstance (by decide +kernel) (pa_cons (pv 1) (pa_cons (pe_bltn (v := .ty "list") (by rfl) B.list (by decide +kernel) rfl) pa_nil)))) (pw_and1 (pt_cmpR op_ne (pe_callB call_len_seq (by rfl) B.len PySem.boot_len (pa_cons (pv 1) pa_nil)) (pe_df C (hr.mono (by decide)) (pa_cons (pv 0) pa_nil)) (nomark _))))) (pss_one ps_never) pss_nil)
 (pss_one (ps_expr (pe_df R hr (pa_cons (pv 1) pa_nil)))))), ?_⟩
  refine ⟨v, rfl, v, t, rfl, ht, hz, fun H1 s1 => ?_⟩
  refine ⟨_, rfl, _, _, _, _, true, rfl, .ty "list", .base (.lst (s1 _ _ ha)), rfl, true, rfl, iteT ?_⟩
  refine ⟨_, rfl, a, _, rfl, .inl (.of (s1 _ _ ha)), v, rfl, v, t, rfl, ht.same s1, hz, fun H2 s2 => ?_⟩
  have e1 : V.int (((ns.map V.int).length : Nat) : Int) = V.int ((t.size : Nat) : Int) := by rw [List.length_map, hn]
  refine ⟨rfl, _, rfl, ?_⟩
  rw [e1, decide_eq_true rfl]
  refine iteF ?_
  exact ⟨.ref a, rfl, a, ns, rfl, s2 _ _ (s1 _ _ ha), fun H3 s3 => q _ ((s1.trans s2).trans s3)⟩
end
end HSP
namespace HSP
open PySem PySem.Spec PyProof.Rows L2
theorem Paired.app {α β : Type} {R : α → β → Prop} : ∀ {l : List α} {m : List β} {l' : List α} {m' : List β}, Paired R l m → Paired R l' m' → Paired R (l ++ l') (m ++ m')
  | _, _, _, _, .nil, h => h
  | _, _, _, _, .cons a t, h => .cons a (Paired.app t h)
theorem ixN_in {n : Nat} {i : Int} (h0 : 0 ≤ i) (h1 : i < (n : Int)) : ixN n i = some i.toNat := by
  unfold ixN
  rw [if_pos h0, if_pos h1]
def valAt (ns : List Int) (i : Nat) : Int := ns.getD i 0
theorem valAt_get {ns : List Int} {i : Nat} (h : i < ns.length) : (ns.map V.int)[i]? = some (.int (valAt ns i)) := by
  rw [List.getElem?_map, List.getElem?_eq_getElem h, valAt, List.getD_eq_getElem?_getD, List.getElem?_eq_getElem h]
  rfl
def natV (n : Nat) : V := .int (n : Int)
theorem ite_no {c A B : Prop} [Decidable c] (h : ¬ c) (b : B) : if decide c = true then A else B := by
  rw [decide_eq_false h]
  exact iteF b
theorem ite_yes {c A B : Prop} [Decidable c] (h : c) (a : A) : if decide c = true then A else B := by
  rw [decide_eq_true h]
  exact iteT a
inductive Md where
  | fin | lft | rgt
def Md.str : Md → Str
  | .fin => "end"
  | .lft => "left"
  | .rgt => "right"
/-- where a search goes on -/
def wayOf (tw v : Int) (m : Md) : Md := if tw = 2 * v then m else if tw < 2 * v then .lft else .rgt
/-! ### the search, as a function of the tree -/
/-- how it ends: is it found, and the node or the gap -/
def sEnd (g : Nat → Int) (tw : Int) (m : Md) : Tr → Nat → Bool × Nat
  | .nil, f => (false, f)
  | .nod l r, f => match wayOf tw (g (f + l.size)) m with
    | .fin => (true, f + l.size)
    | .lft => sEnd g tw m l f
    | .rgt => sEnd g tw m r (f + l.size + 1)
/-- the nodes at which it is -/
def sPath (g : Nat → Int) (tw : Int) (m : Md) : Tr → Nat → List Nat
  | .nil, _ => []
  | .nod l r, f => (f + l.size) :: match wayOf tw (g (f + l.size)) m with
    | .fin => []
    | .lft => sPath g tw m l f
    | .rgt => sPath g tw m r (f + l.size + 1)
theorem sPath_in (g : Nat → Int) (tw : Int) (m : Md) : ∀ (t : Tr) (f i : Nat), i ∈ sPath g tw m t f → f ≤ i ∧ i < f + t.size
  | .nil, _, _, h => by cases h
  | .nod l r, f, i, h => by
    have e : sPath g tw m (.nod l r) f = (f + l.size) :: match wayOf tw (g (f + l.size)) m with | .fin => [] | .lft => sPath g tw m l f | .rgt => sPath g tw m r (f + l.size + 1) := rfl
    have z : (Tr.nod l r).size = l.size + 1 + r.size := rfl
    rw [e] at h
    rw [z]
    rcases List.mem_cons.mp h with q | q
    · omega
    · cases w : wayOf tw (g (f + l.size)) m with
      | fin => rw [w] at q; cases q
      | lft =>
        rw [w] at q
        have := sPath_in g tw m l f i q
        omega
      | rgt =>
        rw [w] at q
        have := sPath_in g tw m r (f + l.size + 1) i q
        omega
theorem sPath_len (g : Nat → Int) (tw : Int) (m : Md) : ∀ (t : Tr) (f : Nat), (sPath g tw m t f).length ≤ t.size
  | .nil, _ => Nat.le_refl _
  | .nod l r, f => by
    have e : sPath g tw m (.nod l r) f = (f + l.size) :: match wayOf tw (g (f + l.size)) m with | .fin => [] | .lft => sPath g tw m l f | .rgt => sPath g tw m r (f + l.size + 1) := rfl
    have z : (Tr.nod l r).size = l.size + 1 + r.size := rfl
    rw [e, z, List.length_cons]
    cases wayOf tw (g (f + l.size)) m with
    | fin => show 0 + 1 ≤ _; omega
    | lft => have := sPath_len g tw m l f; show (sPath g tw m l f).length + 1 ≤ _; omega
    | rgt => have := sPath_len g tw m r (f + l.size + 1); show (sPath g tw m r (f + l.size + 1)).length + 1 ≤ _; omega
def optNV : Option Nat → V
  | none => .non
  | some n => natV n
def kindV (b : Bool) : V := if b = true then .str "found" else .str "gap"
end HSP
namespace HSP
open PySem PySem.Spec PyProof.Rows L2
section
variable {P : Program} {w : World} {K : PySem.W.Frag} {mg : Str → Option Value} {base : Heap}
/-! ### turn -/
theorem sc_turn : FnScope n_turn ["twice", "value", "at_equal"] (defScope s_turn) := ⟨rfl, rfl, rfl, by decide +kernel, rfl, by decide +kernel, by decide +kernel⟩
def spTurn : Sp := fun vs H Q _ => ∃ (tw v : Int) (m : Md), vs = [.int tw, .int v, .str m.str] ∧ Q (.str (wayOf tw v m).str) H
theorem ok_turn (a : At K mg "turn" s_turn) : Df P w K mg base "turn" 1 ["twice", "value", "at_equal"] spTurn := by
  refine Df.mk' a sc_turn (fun vs H Q E h => ?_) (fun _ _ _ _ _ _ us hl => match us, hl with | [_, _, _], _ => rfl) (fun f cdv A outer s H vs Q E hr h => ?_)
  · obtain ⟨tw, v, m, rfl, _⟩ := h
    rfl
  obtain ⟨tw, v, m, rfl, q⟩ := h
  refine ⟨_, pss_cons (ps_if (pt_cmpR op_eq (pv 0) (pe_op op_mul pe_int (pv 1)) (nomark _)) (pss_one (ps_ret (pv 2))) pss_nil)
    (pss_one (ps_ret (pe_ifExp (pt_cmpR op_lt (pv 0) (pe_op op_mul pe_int (pv 1)) (nomark _)) pe_str pe_str))), ?_⟩
  refine ⟨_, rfl, _, rfl, _, _, rfl, rfl, .inl ⟨by decide, by decide⟩, rfl, _, rfl, ?_⟩
  unfold wayOf at q
  refine ite2 (fun c => ?_) (fun c => ?_)
  · have c1 : tw = 2 * v := V.int.inj (of_decide_eq_true c)
    rw [if_pos c1] at q
    exact ⟨_, rfl, q⟩
  · have c1 : ¬ tw = 2 * v := fun z => c (decide_eq_true (congrArg V.int z))
    rw [if_neg c1] at q
    refine ⟨_, rfl, _, rfl, _, _, rfl, rfl, .inl ⟨by decide, by decide⟩, _, _, rfl, rfl, _, rfl, ?_⟩
    refine ite2 (fun d => ?_) (fun d => ?_)
    · rw [if_pos (of_decide_eq_true d)] at q
      exact q
    · rw [if_neg (of_decide_eq_false (Bool.eq_false_iff.mpr d))] at q
      exact q
end
end HSP
namespace HSP
open PySem PySem.Spec PyProof.Rows L2
theorem ne_fin_lft : ¬ (V.str Md.lft.str = V.str "end") := by decide +kernel
theorem ne_fin_rgt : ¬ (V.str Md.rgt.str = V.str "end") := by decide +kernel
theorem ne_lft_rgt : ¬ (V.str Md.rgt.str = V.str "left") := by decide +kernel
/-- what search hands back at p: the list at n, the ending at e -/
def Ended (H H' : Hp) (e : Addr) (r : Bool × Nat) : Prop := H e = none ∧ H' e = some (.tup [kindV r.1, natV r.2])
section
variable {P : Program} {w : World} {K : PySem.W.Frag} {mg : Str → Option Value} {base : Heap}
theorem sc_search : FnScope n_search ["tree", "values", "twice", "at_equal"] (defScope s_search) := ⟨rfl, rfl, rfl, by decide +kernel, rfl, by decide +kernel, by decide +kernel⟩
def spSearch : Sp := fun vs H Q _ => ∃ (v : V) (t : Tr) (a : Addr) (ns : List Int) (tw : Int) (m : Md), vs = [v, .ref a, .int tw, .str m.str] ∧ TrAt H v t ∧ t.size ≤ 1000 ∧ H a = some (.lst (ns.map V.int)) ∧ ns.length = t.size ∧
  ∀ (H' : Hp) (p n e : Addr), Same H H' → H' p = some (.tup [.ref n, .ref e]) → H n = none → H' n = some (.lst ((sPath (valAt ns) tw m t 0).map natV)) → Ended H H' e (sEnd (valAt ns) tw m t 0) → Q (.ref p) H'
theorem ok_search (C : Df P w K mg base "count_nodes" 1 ["tree"] spCount) (T : Df P w K mg base "turn" 1 ["twice", "value", "at_equal"] spTurn) (a : At K mg "search" s_search) :
    Df P w K mg base "search" 2 ["tree", "values", "twice", "at_equal"] spSearch := by
  refine Df.mk' a sc_search (fun vs H Q E h => ?_) (fun _ _ _ _ _ _ us hl => match us, hl with | [_, _, _, _], _ => rfl) (fun f cdv A outer s H vs Q E hr h => ?_)
  · obtain ⟨v, t, a, ns, tw, m, rfl, _⟩ := h
    rfl
  obtain ⟨v, t, a, ns, tw, m, rfl, ht, hz, ha, hn, q⟩ := h
  refine ⟨_, (pss_cons (ps_set (i := 4) sc_search.nd rfl (.inl rfl) (pe_lst pa_nil))
 (pss_cons (ps_set (i := 5) sc_search.nd rfl (.inl rfl) pe_int)
 (pss_cons (ps_set (i := 6) sc_search.nd rfl (.inl rfl) (pv 0))
 (pss_cons (ps_while PassesOwn.never (pt_cmpR op_notN (pv 6) pe_non (nomark _)) (pss_cons (ps_asg (pv 6) (pg_tup rfl (pgs_cons (pg_name (i := 7) sc_search.nd rfl (.inl rfl)) (pgs_cons (pg_name (i := 8) sc_search.nd rfl (.inl rfl)) pgs_nil))))
 (pss_cons (ps_set (i := 9) sc_search.nd rfl (.inl rfl) (pe_op op_add (pv 5) (pe_df C hr (pa_cons (pv 7) pa_nil))))
 (pss_cons (ps_expr (pe_bm PySem.F.plainAttrs_list PySem.F.slot_list_append PySem.F.type_list_append mt_append (pv 4) (pa_cons (pv 9) pa_nil)))
 (pss_cons (ps_set (i := 10) sc_search.nd rfl (.inl rfl) (pe_df T hr (pa_cons (pv 2) (pa_cons (pe_ix ix_list (pv 1) (pv 9) (fun _ _ => rfl)) (pa_cons (pv 3) pa_nil)))))
 (pss_cons (ps_if (pt_cmpR op_eq (pv 10) pe_str (nomark _)) (pss_one (ps_ret (pe_tup (pa_cons (pv 4) (pa_cons (pe_tup (pa_cons pe_str (pa_cons (pv 9) pa_nil))) pa_nil))))) pss_nil)
 (pss_one (ps_if (pt_cmpR op_eq (pv 10) pe_str (nomark _)) (pss_one (ps_set (i := 6) sc_search.nd rfl (.inl rfl) (pv 7))) (pss_cons (ps_set (i := 6) sc_search.nd rfl (.inl rfl) (pv 8))
 (pss_one (ps_set (i := 5) sc_search.nd rfl (.inl rfl) (pe_op op_add (pv 9) pe_int))))))))))))
 (pss_one (ps_ret (pe_tup (pa_cons (pv 4) (pa_cons (pe_tup (pa_cons pe_str (pa_cons (pv 5) pa_nil))) pa_nil))))))))), ?_⟩
  refine ⟨Nat.zero_le _, fun l hl => ?_⟩
  refine ⟨v, rfl, ?_⟩
  have s0 : Same H (upd H l (.lst [])) := Same.new hl
  refine ⟨fun k σ H1 => ∃ (x : V) (u : Tr) (f : Nat) (z : List Nat) (y1 y2 y3 y4 : Option V), σ = [some v, some (.ref a), some (.int tw), some (.str m.str), some (.ref l), some (.int f), some x, y1, y2, y3, y4] ∧ Same H H1 ∧ H1 l = some (.lst (z.map natV)) ∧ TrAt H x u ∧
      f + u.size ≤ t.size ∧ z.length ≤ f + (t.size - (f + u.size)) ∧ sPath (valAt ns) tw m t 0 = z ++ sPath (valAt ns) tw m u f ∧ sEnd (valAt ns) tw m t 0 = sEnd (valAt ns) tw m u f ∧ k = u.size,
    ⟨_, v, t, 0, [], none, none, none, none, rfl, s0, upd_same, ht, by omega, by show 0 ≤ _; omega, rfl, rfl, rfl⟩, fun k σ H1 hW => ?_⟩
  obtain ⟨x, u, f, z, y1, y2, y3, y4, rfl, sm, el, hx, hf, hzl, hP, hE, rfl⟩ := hW
  refine ⟨x, rfl, rfl, _, rfl, ?_⟩
  cases hx with
  | nil =>
    refine iteF ?_
    refine ⟨_, rfl, _, rfl, (by show 2 ≤ sizeLine; decide), fun e he => ⟨(by show 2 ≤ sizeLine; decide), fun p hp => ?_⟩⟩
    have s1 : Same H1 (upd H1 e (.tup [.str "gap", .int (f : Int)])) := Same.new he
    have s2 := Same.new (o := .tup [.ref l, .ref e]) hp
    refine q _ p l e (sm.trans (s1.trans s2)) upd_same hl (s2 _ _ (s1 _ _ ?_)) ⟨sm.free he, s2 _ _ ?_⟩
    · rw [el, hP]
      show _ = some (HO.lst ((z ++ []).map natV))
      rw [List.append_nil]
    · rw [hE]
      exact upd_same
  | @nod b x1 x2 t1 t2 eb h1 h2 =>
    refine iteT ⟨fun σ' H' => ∃ k', k' < (Tr.nod t1 t2).size ∧ ∃ (x : V) (u : Tr) (f : Nat) (z : List Nat) (y1 y2 y3 y4 : Option V), σ' = [some v, some (.ref a), some (.int tw), some (.str m.str), some (.ref l), some (.int f), some x, y1, y2, y3, y4] ∧ Same H H' ∧ H' l = some (.lst (z.map natV)) ∧ TrAt H x u ∧
      f + u.size ≤ t.size ∧ z.length ≤ f + (t.size - (f + u.size)) ∧ sPath (valAt ns) tw m t 0 = z ++ sPath (valAt ns) tw m u f ∧ sEnd (valAt ns) tw m t 0 = sEnd (valAt ns) tw m u f ∧ k' = u.size,
      fun σ' H' hN => hN, ?_⟩
    have hsz : (Tr.nod t1 t2).size = t1.size + 1 + t2.size := rfl
    rw [hsz] at hf hzl
    refine ⟨_, rfl, b, [x1, x2], rfl, .of (sm _ _ eb), rfl, x1, _, rfl, x2, [], rfl, rfl, ?_⟩
    refine ⟨_, rfl, x1, rfl, x1, t1, rfl, h1.same sm, by omega, fun H2 s2 => ⟨_, _, rfl, rfl, ?_⟩⟩
    refine ⟨_, rfl, .inl ⟨rfl, _, .of (s2 _ _ el)⟩, _, rfl, l, _, _, rfl, rfl, s2 _ _ el, ?_, ?_⟩
    · rw [List.length_map]
      exact small1000 (by omega)
    have sm3 : Same H (upd H2 l (.lst (z.map natV ++ [V.int ((f : Int) + (t1.size : Int))]))) := fun c o e => by
      rw [upd_ne (ne_of_none e hl)]
      exact s2 _ _ (sm _ _ e)
    have en : V.int ((f : Int) + (t1.size : Int)) = natV (f + t1.size) := congrArg V.int (by omega)
    have ez : z.map natV ++ [V.int ((f : Int) + (t1.size : Int))] = (z ++ [f + t1.size]).map natV := by
      rw [List.map_append, en]
      rfl
    refine ⟨_, rfl, _, rfl, _, rfl, a, _, _, _, rfl, rfl, .of (sm3 _ _ ha), at_of (j := f + t1.size) (by omega) (valAt_get (by omega)), _, rfl, tw, _, m, rfl, ?_⟩
    refine ⟨_, rfl, rfl, _, rfl, ?_⟩
    have uP : sPath (valAt ns) tw m (.nod t1 t2) f = (f + t1.size) :: match wayOf tw (valAt ns (f + t1.size)) m with | .fin => [] | .lft => sPath (valAt ns) tw m t1 f | .rgt => sPath (valAt ns) tw m t2 (f + t1.size + 1) := rfl
    have uE : sEnd (valAt ns) tw m (.nod t1 t2) f = match wayOf tw (valAt ns (f + t1.size)) m with | .fin => (true, f + t1.size) | .lft => sEnd (valAt ns) tw m t1 f | .rgt => sEnd (valAt ns) tw m t2 (f + t1.size + 1) := rfl
    rw [uP] at hP
    rw [uE] at hE
    have el3 : (upd H2 l (.lst (z.map natV ++ [V.int ((f : Int) + (t1.size : Int))]))) l = some (.lst ((z ++ [f + t1.size]).map natV)) := by rw [upd_same, ez]
    generalize upd H2 l (.lst (z.map natV ++ [V.int ((f : Int) + (t1.size : Int))])) = H3 at sm3 el3 ⊢
    cases ew : wayOf tw (valAt ns (f + t1.size)) m with
    | fin =>
      rw [ew] at hP hE
      refine ite_yes rfl ?_
      refine ⟨_, rfl, _, rfl, (by show 2 ≤ sizeLine; decide), fun e he => ⟨(by show 2 ≤ sizeLine; decide), fun p hp => ?_⟩⟩
      have s4 := Same.new (o := .tup [.str "found", .int ((f : Int) + (t1.size : Int))]) he
      have s5 := Same.new (o := .tup [.ref l, .ref e]) hp
      refine q _ p l e (sm3.trans (s4.trans s5)) upd_same hl (s5 _ _ (s4 _ _ ?_)) ⟨sm3.free he, s5 _ _ ?_⟩
      · rw [el3, hP]
      · rw [hE, upd_same]
        exact congrArg (fun q => some (HO.tup [V.str "found", q])) en
    | lft =>
      rw [ew] at hP hE
      refine ite_no ne_fin_lft ?_
      refine ⟨_, rfl, rfl, _, rfl, ite_yes rfl ?_⟩
      refine ⟨_, rfl, t1.size, by omega, x1, t1, f, z ++ [f + t1.size], _, _, _, _, rfl, sm3, el3, h1, by omega, ?_, ?_, hE, rfl⟩
      · rw [List.length_append, List.length_singleton]
        omega
      · rw [hP, List.append_assoc]
        rfl
    | rgt =>
      rw [ew] at hP hE
      refine ite_no ne_fin_rgt ?_
      refine ⟨_, rfl, rfl, _, rfl, ite_no ne_lft_rgt ?_⟩
      refine ⟨_, rfl, _, rfl, _, _, rfl, rfl, t2.size, by omega, x2, t2, f + t1.size + 1, z ++ [f + t1.size], some x1, some x2, some (.int ((f : Int) + (t1.size : Int))), some (.str Md.rgt.str), ?_, sm3, el3, h2, by omega, ?_, ?_, hE, rfl⟩
      · exact congrArg (fun q => [some v, some (V.ref a), some (V.int tw), some (V.str m.str), some (V.ref l), some (V.int q), some x2, some x1, some x2, some (V.int ((f : Int) + (t1.size : Int))), some (V.str Md.rgt.str)]) (by omega : (f : Int) + (t1.size : Int) + 1 = ((f + t1.size + 1 : Nat) : Int))
      · rw [List.length_append, List.length_singleton]
        omega
      · rw [hP, List.append_assoc]
        rfl
end
end HSP
namespace HSP
open PySem PySem.Spec PyProof.Rows L2
section
variable {P : Program} {w : World} {K : PySem.W.Frag} {mg : Str → Option Value} {base : Heap}
/-! ### find -/
theorem sc_find : FnScope n_find ["tree", "values", "twice"] (defScope s_find) := ⟨rfl, rfl, rfl, by decide +kernel, rfl, by decide +kernel, by decide +kernel⟩
def spFind : Sp := fun vs H Q _ => ∃ (v : V) (t : Tr) (a : Addr) (ns : List Int) (tw : Int), vs = [v, .ref a, .int tw] ∧ TrAt H v t ∧ t.size ≤ 1000 ∧ H a = some (.lst (ns.map V.int)) ∧ ns.length = t.size ∧
  ∀ (H' : Hp) (e : Addr), Same H H' → Ended H H' e (sEnd (valAt ns) tw .fin t 0) → Q (.ref e) H'
theorem ok_find (C : Df P w K mg base "check_values" 3 ["tree", "values"] spChkV) (S : Df P w K mg base "search" 2 ["tree", "values", "twice", "at_equal"] spSearch) (a : At K mg "find" s_find) :
    Df P w K mg base "find" 4 ["tree", "values", "twice"] spFind := by
  refine Df.mk' a sc_find (fun vs H Q E h => ?_) (fun _ _ _ _ _ _ us hl => match us, hl with | [_, _, _], _ => rfl) (fun f cdv A outer s H vs Q E hr h => ?_)
  · obtain ⟨v, t, a, ns, tw, rfl, _⟩ := h
    rfl
  obtain ⟨v, t, a, ns, tw, rfl, ht, hz, ha, hn, q⟩ := h
  refine ⟨_, (pss_cons (ps_expr (pe_df C hr (pa_cons (pv 0) (pa_cons (pv 1) pa_nil))))
 (pss_cons (ps_asg (pe_df S (hr.mono (by decide)) (pa_cons (pv 0) (pa_cons (pv 1) (pa_cons (pv 2) (pa_cons pe_str pa_nil))))) (pg_tup rfl (pgs_cons (pg_name (i := 3) sc_find.nd rfl (.inl rfl)) (pgs_cons (pg_name (i := 4) sc_find.nd rfl (.inl rfl)) pgs_nil))))
 (pss_one (ps_ret (pv 4))))), ?_⟩
  refine ⟨v, rfl, _, rfl, v, t, a, ns, rfl, ht, hz, ha, hn, fun H1 s1 => ?_⟩
  refine ⟨v, rfl, _, rfl, _, rfl, v, t, a, ns, tw, .fin, rfl, ht.same s1, hz, s1 _ _ ha, hn, fun H2 p n e s2 ep hn2 en ee => ?_⟩
  refine ⟨p, _, rfl, .of ep, rfl, _, _, rfl, _, [], rfl, rfl, ?_⟩
  exact ⟨_, rfl, q H2 e (s1.trans s2) ⟨s1.free ee.1, ee.2⟩⟩
/-! ### insertion -/
theorem sc_insertion : FnScope n_insertion ["tree", "values", "twice", "side"] (defScope s_insertion) := ⟨rfl, rfl, rfl, by decide +kernel, rfl, by decide +kernel, by decide +kernel⟩
inductive Side where
  | lft | rgt
def Side.md : Side → Md
  | .lft => .lft
  | .rgt => .rgt
/-- where a number is put in -/
def place (ns : List Int) (tw : Int) (d : Side) (t : Tr) : Nat := (sEnd (valAt ns) tw d.md t 0).2
def spInsert : Sp := fun vs H Q _ => ∃ (v : V) (t : Tr) (a : Addr) (ns : List Int) (tw : Int) (d : Side), vs = [v, .ref a, .int tw, .str d.md.str] ∧ TrAt H v t ∧ t.size ≤ 1000 ∧ H a = some (.lst (ns.map V.int)) ∧ ns.length = t.size ∧
  ∀ (H' : Hp), Same H H' → Q (natV (place ns tw d t)) H'
theorem side_in (d : Side) : inV (.str d.md.str) [.str "left", .str "right"] = true := by
  cases d <;> decide +kernel
/-- the def insertion, with its default for a side that is not given -/
structure Ins (P : Program) (w : World) (K : PySem.W.Frag) (mg : Str → Option Value) (base : Heap) : Prop where
  ex : ∃ (f : Addr) (fd : FuncData), mg "insertion" = some (.ref f) ∧ PySem.W.keepIn K (.ref f) = true ∧ (∃ ds, Vals [V.str Md.lft.str] ds ∧ Binds K fd ["tree", "values", "twice", "side"] ds) ∧
    KBn K fd ["tree", "values", "twice", "side"] 3 ["side"] (fun us ws => us ++ ws) (fun vs zs => vs ++ zs) ∧ FnOk P w K mg base CX0 4 f fd ["tree", "values", "twice", "side"] spInsert
def AtI (K : PySem.W.Frag) (mg : Str → Option Value) : Prop := ∃ (f : Addr) (fd : FuncData), mg "insertion" = some (.ref f) ∧ FunD K "insertion" "insertion" (defArgs s_insertion) (defBody s_insertion) (defScope s_insertion) [] [("side", .str "left")] f fd
theorem ok_insertion (B : Bl mg) (C : Df P w K mg base "check_values" 3 ["tree", "values"] spChkV) (S : Df P w K mg base "search" 2 ["tree", "values", "twice", "at_equal"] spSearch) (a : AtI K mg) : Ins P w K mg base := by
  obtain ⟨f, fd, hm, F⟩ := a
  obtain ⟨ds, rd, bd⟩ := F.binds0 (ps := ["tree", "values", "twice", "side"]) 3 (by decide) rfl (fun D doc pm an cdv ct us ks h1 h2 => match us, ks, h1, h2 with | [_, _, _], [_], _, _ => ⟨_, _, _, _, _, _, rfl, rfl, rfl⟩)
  refine ⟨f, fd, hm, F.kp, ⟨ds, rd, bd⟩, ⟨fun s us ws _ h1 h2 => ?_, fun r1 r2 => r1.append r2⟩, ?_⟩
  · obtain ⟨oc, od, dV, kV, doc, pm, an, cdv, ct, osl, rfl, lk, hcd, hD, hK⟩ := F.ex
    rcases hD with ⟨_, rfl⟩ | ⟨e, _⟩
    · match us, ws, h1, h2 with
      | [_, _, _], [_], _, _ => exact .of_eq rfl
    · exact absurd rfl e
  refine F.ok sc_insertion (fun vs H Q E h => ?_) (fun cdv A outer s H vs Q E hr h => ?_)
  · obtain ⟨v, t, a, ns, tw, d, rfl, _⟩ := h
    rfl
  obtain ⟨v, t, a, ns, tw, d, rfl, ht, hz, ha, hn, q⟩ := h
  refine ⟨_, PSs.nox (pss_cons (ps_expr (pe_df C hr (pa_cons (pv 0) (pa_cons (pv 1) pa_nil))))
 (pss_cons (ps_if (PW.pt (pw_or (pt_not (pt_val (pe_callB call_isi (by rfl) B.isinstance (by decide +kernel) (pa_cons (pv 3) (pa_cons (pe_bltn (v := .ty "str") (by rfl) B.str (by decide +kernel) rfl) pa_nil))))) (pw_or1 (pt_cmpR op_notIn_seq (pv 3) (pe_tup (pa_cons pe_str (pa_cons pe_str pa_nil))) (by rfl))))) (pss_one ps_never) pss_nil)
 (pss_cons (ps_asg (pe_df S (hr.mono (by decide)) (pa_cons (pv 0) (pa_cons (pv 1) (pa_cons (pv 2) (pa_cons (pv 3) pa_nil))))) (pg_tup rfl (pgs_cons (pg_name (i := 4) sc_insertion.nd rfl (.inl rfl)) (pgs_cons (pg_name (i := 5) sc_insertion.nd rfl (.inl rfl)) pgs_nil))))
 (pss_one (ps_ret (pe_ix ix_tup (pv 5) pe_int (fun _ _ => rfl))))))), ?_⟩
  refine ⟨v, rfl, _, rfl, v, t, a, ns, rfl, ht, hz, ha, hn, fun H1 s1 => ?_⟩
  refine ⟨_, rfl, _, _, _, _, true, rfl, .ty "str", .base (.str _), rfl, true, rfl, iteF ?_⟩
  refine ⟨_, rfl, (by show 2 ≤ sizeLine; decide), fun T hT => ?_⟩
  refine ⟨T, _, rfl, .inr (.of upd_same), rfl, rfl, _, rfl, ?_⟩
  rw [side_in d]
  refine iteF ?_
  have s2 : Same H1 (upd H1 T (.tup [.str "left", .str "right"])) := Same.new hT
  refine ⟨v, rfl, _, rfl, _, rfl, _, rfl, v, t, a, ns, tw, d.md, rfl, (ht.same s1).same s2, hz, s2 _ _ (s1 _ _ ha), hn, fun H2 p n e s3 ep hn2 en ee => ?_⟩
  refine ⟨p, _, rfl, .of ep, rfl, _, _, rfl, _, [], rfl, rfl, ?_⟩
  exact ⟨_, rfl, e, _, _, _, rfl, rfl, .of ee.2, atI_nat (j := 1) rfl, q H2 (s1.trans (s2.trans s3))⟩
end
end HSP
namespace HSP
open PySem PySem.Spec PyProof.Rows L2
/-! ## where a search ends: the mathematics -/
theorem wayOf_fin {tw v : Int} {m : Md} (h : wayOf tw v m = .fin) : m = .fin ∧ tw = 2 * v := by
  unfold wayOf at h
  split at h
  · exact ⟨h, by assumption⟩
  · split at h <;> cases h
theorem wayOf_lft {tw v : Int} {m : Md} (h : wayOf tw v m = .lft) : tw < 2 * v ∨ tw = 2 * v ∧ m = .lft := by
  unfold wayOf at h
  split at h
  · exact .inr ⟨by assumption, h⟩
  · split at h
    · exact .inl (by assumption)
    · cases h
theorem wayOf_rgt {tw v : Int} {m : Md} (h : wayOf tw v m = .rgt) : 2 * v < tw ∨ tw = 2 * v ∧ m = .rgt := by
  unfold wayOf at h
  split at h
  · exact .inr ⟨by assumption, h⟩
  · split at h
    · cases h
    · exact .inl (by omega)
/-- in a gap: what lies beside it -/
structure Fits (g : Nat → Int) (tw : Int) (m : Md) (f n k : Nat) : Prop where
  lo : f ≤ k
  hi : k ≤ f + n
  before : f < k → 2 * g (k - 1) < tw ∨ tw = 2 * g (k - 1) ∧ m = .rgt
  behind : k < f + n → tw < 2 * g k ∨ tw = 2 * g k ∧ m = .lft
theorem sEnd_fits (g : Nat → Int) (tw : Int) (m : Md) : ∀ (t : Tr) (f : Nat), (sEnd g tw m t f).1 = false → Fits g tw m f t.size (sEnd g tw m t f).2
  | .nil, f, _ => ⟨Nat.le_refl _, Nat.le_refl _, fun h => absurd h (Nat.lt_irrefl _), fun h => absurd h (Nat.lt_irrefl _)⟩
  | .nod l r, f, h => by
    have e : sEnd g tw m (.nod l r) f = match wayOf tw (g (f + l.size)) m with | .fin => (true, f + l.size) | .lft => sEnd g tw m l f | .rgt => sEnd g tw m r (f + l.size + 1) := rfl
    have z : (Tr.nod l r).size = l.size + 1 + r.size := rfl
    rw [e] at h ⊢
    rw [z]
    cases w : wayOf tw (g (f + l.size)) m with
    | fin => rw [w] at h; exact absurd h (by simp)
    | lft =>
      rw [w] at h
      have q := sEnd_fits g tw m l f h
      show Fits g tw m f (l.size + 1 + r.size) (sEnd g tw m l f).2
      generalize (sEnd g tw m l f).2 = k at q
      obtain ⟨q1, q2, q3, q4⟩ := q
      refine ⟨q1, by omega, q3, fun hk => ?_⟩
      by_cases hk2 : k < f + l.size
      · exact q4 hk2
      · have ek : k = f + l.size := by omega
        rw [ek]
        exact wayOf_lft w
    | rgt =>
      rw [w] at h
      have q := sEnd_fits g tw m r (f + l.size + 1) h
      show Fits g tw m f (l.size + 1 + r.size) (sEnd g tw m r (f + l.size + 1)).2
      generalize (sEnd g tw m r (f + l.size + 1)).2 = k at q
      obtain ⟨q1, q2, q3, q4⟩ := q
      refine ⟨by omega, by omega, fun hk => ?_, fun hk => q4 (by omega)⟩
      by_cases hk2 : f + l.size + 1 < k
      · exact q3 hk2
      · have ek : k - 1 = f + l.size := by omega
        rw [ek]
        exact wayOf_rgt w
/-- a search that doesn't end at equal values ends in a gap -/
theorem sEnd_gap (g : Nat → Int) (tw : Int) (m : Md) (hm : m ≠ .fin) : ∀ (t : Tr) (f : Nat), (sEnd g tw m t f).1 = false
  | .nil, _ => rfl
  | .nod l r, f => by
    have e : sEnd g tw m (.nod l r) f = match wayOf tw (g (f + l.size)) m with | .fin => (true, f + l.size) | .lft => sEnd g tw m l f | .rgt => sEnd g tw m r (f + l.size + 1) := rfl
    rw [e]
    cases w : wayOf tw (g (f + l.size)) m with
    | fin => exact absurd (wayOf_fin w).1 hm
    | lft => exact sEnd_gap g tw m hm l f
    | rgt => exact sEnd_gap g tw m hm r _
theorem Side.ne (d : Side) : d.md ≠ .fin := by
  cases d <;> intro h <;> cases h
theorem place_fits (ns : List Int) (tw : Int) (d : Side) (t : Tr) : Fits (valAt ns) tw d.md 0 t.size (place ns tw d t) := sEnd_fits _ _ _ t 0 (sEnd_gap _ _ _ d.ne t 0)
/-! ## falls -/
def falls : List Int → List (Int × Int)
  | [] => []
  | [_] => []
  | x :: y :: r => if y < x then (x, y) :: falls (y :: r) else falls (y :: r)
theorem falls_put : ∀ (xs : List Int) (k : Nat) (x : Int), k ≤ xs.length → (∀ y, xs[k - 1]? = some y → 0 < k → y ≤ x) → (∀ y, xs[k]? = some y → x ≤ y) → falls (xs.take k ++ x :: xs.drop k) = falls xs
  | [], 0, x, _, _, _ => rfl
  | [], k + 1, _, h, _, _ => absurd h (Nat.not_succ_le_zero k)
  | y :: r, 0, x, _, _, h2 => by
    have q := h2 y rfl
    show falls (x :: y :: r) = falls (y :: r)
    show (if y < x then (x, y) :: falls (y :: r) else falls (y :: r)) = _
    rw [if_neg (by omega)]
  | [y], 1, x, _, h1, _ => by
    have q := h1 y rfl (by decide)
    show (if x < y then (y, x) :: falls [x] else falls [x]) = _
    rw [if_neg (by omega)]
    rfl
  | y :: z :: r, 1, x, _, h1, h2 => by
    have q1 := h1 y rfl (by decide)
    have q2 := h2 z rfl
    show (if x < y then (y, x) :: falls (x :: z :: r) else falls (x :: z :: r)) = falls (y :: z :: r)
    rw [if_neg (by omega)]
    show (if z < x then (x, z) :: falls (z :: r) else falls (z :: r)) = (if z < y then (y, z) :: falls (z :: r) else falls (z :: r))
    rw [if_neg (by omega), if_neg (by omega)]
  | [y], k + 2, _, h, _, _ => by
    rw [List.length_singleton] at h
    omega
  | y :: z :: r, k + 2, x, h, h1, h2 => by
    have ih := falls_put (z :: r) (k + 1) x (Nat.le_of_succ_le_succ h) (fun v hv _ => h1 v hv (Nat.succ_pos _)) (fun v hv => h2 v hv)
    have e1 : (z :: r).take (k + 1) ++ x :: (z :: r).drop (k + 1) = z :: (r.take k ++ x :: r.drop k) := rfl
    rw [e1] at ih
    show falls (y :: z :: (r.take k ++ x :: r.drop k)) = _
    show (if z < y then (y, z) :: falls (z :: (r.take k ++ x :: r.drop k)) else falls (z :: (r.take k ++ x :: r.drop k))) = (if z < y then (y, z) :: falls (z :: r) else falls (z :: r))
    rw [ih]
section
variable {X : Cx} {p pos : Pos} {e : Expr} {es : List Expr} {kws : List Keyword} {t tk : TA}
/-- insertion(tree, values, twice) -/
theorem pe_ins (J : Ins X.prog X.w X.K X.mg X.base) (hr : Room 4 X.A) (ha : PA X (e :: es) t) (hg : Gl X "insertion" := by rfl)
    (he : starEach (e :: es) X.env = (false, eval e X.env) :: starEach es X.env := by rfl) (hpl : (backTo pos (starEach es X.env)).any (·.1) = false := by rfl) : PE X (.Call (.Name "insertion" p) (e :: es) [] pos) (tCall spInsert [V.str Md.lft.str] E0 t) := by
  obtain ⟨f, fd, hm, hk, ⟨ds, rd, bd⟩, _, F⟩ := J.ex
  exact pe_call F hr hg hm hk bd rd pass0 ha (by decide) he hpl
/-- insertion(tree, values, twice, side=..) -/
theorem pe_insK (J : Ins X.prog X.w X.K X.mg X.base) (hr : Room 4 X.A) (ha : PA X (e :: es) t) (hkw : PK X kws tk) (hg : Gl X "insertion" := by rfl) (hall : (backToKw pos (keywordEach kws X.env)).all (·.1.isSome) = true := by rfl) (hks : (backToKw pos (keywordEach kws X.env)).filterMap (·.1) = ([("side" : Str)] : List Str) := by rfl)
    (he : starEach (e :: es) X.env = (false, eval e X.env) :: starEach es X.env := by rfl)
    (hpl : ((backTo pos (starEach (e :: es) X.env)).any (·.1) || (backToKw pos (keywordEach kws X.env)).any (·.1.isNone)) = false := by rfl) :
    PE X (.Call (.Name "insertion" p) (e :: es) kws pos) (tCallN 3 1 spInsert (fun vs zs => vs ++ zs) E0 t tk) := by
  obtain ⟨f, fd, hm, hk, _, kb, F⟩ := J.ex
  exact pe_callN F hr hg hm hk kb pass0 ha hkw hall hks (by decide) he hpl
end
end HSP
namespace HSP
open PySem PySem.Spec PyProof.Rows L2
/-! ## sum(rows, start): lists put behind one another -/
/-- a list object with these items -/
def LO (its : List Value) (n : Nat) : Obj := { cls := .type "list", data := .seq its.toArray n }
section
variable {prog : Program} {w : World} {A : Around}
theorem sumL_loop {I S : Addr} {fp wr : List Addr} {n : Nat} {Pv : Nat → Value → Prop} {St : Nat → Heap → Prop} (W : Walks prog w A.in1 I fp wr n Pv St) (hS : S ∉ fp) (row : Nat → Addr) (part : Nat → List Value) (hv : ∀ i v, Pv i v → v = .ref (row i)) (R : Result → Shared → Prop)
    (most : Nat) (hmost : most ≤ sizeLine) (hfp : ∀ i h, St i h → ∀ b ∈ fp, b < h.objs.size) :
    ∀ (k i : Nat) (s : Shared) (T : Addr) (acc : List Value) (c cT : Nat), n - i = k → i ≤ n → St i s.heap → s.heap.get? S = some (LO [.ref T] c) → s.heap.get? T = some (LO acc cT) → T ≠ S → T ∉ wr →
      (∀ j, j < n → row j ≠ S ∧ row j ∉ wr ∧ ∃ m, s.heap.get? (row j) = some (LO (part j) m)) → acc.length + (((List.range n).drop i).map fun j => (part j).length).sum ≤ most →
      (∀ (s' : Shared) (T' : Addr) (c' : Nat), (∀ b o, b ∉ wr → b ≠ S → s.heap.get? b = some o → s'.heap.get? b = some o) → s'.gens = s.gens → s'.drawn = s.drawn → s'.os = s.os →
        s'.heap.get? T' = some (LO (acc ++ (((List.range n).drop i).map part).flatten) c') → T' ≠ S → T' ∉ wr → (i = n ∧ T' = T ∨ s.heap.get? T' = none) → R (.ok (.ret (.ref T'))) s') →
      codeAny (model prog w) A (.builtin "sum.loop" ⟨[.ref I, .ref S, rawInt 2, rawInt 0], []⟩) R s := by
  have hSw : S ∉ wr := fun h => hS (W.sub _ h)
  intro k
  induction k with
  | zero =>
    intro i s T acc c cT hk hi hst eS eT nTS nTw rows hz hR
    obtain rfl : i = n := by omega
    refine codeAny_builtin F.entry_sum_loop ?_
    rw [Around.under_plainId F.plain_sum_loop _]
    show wpAny _ A.in1 (seqItems? (.ref S) >>= _) _ _ s
    refine wpAny_bind (wpAny_seqItems eS rfl (wpAny_bind (wpAny_tryCatch (W.done s _ _ hst fun h' tk kp => ?_))))
    have e0 : ((List.range i).drop i) = [] := List.drop_eq_nil_of_le (by rw [List.length_range]; exact Nat.le_refl _)
    refine wpAny_pure (hR { s with heap := h', toks := tk } T cT (fun b o n1 _ e => kp b o n1 e) rfl rfl rfl ?_ nTS nTw (.inl ⟨rfl, rfl⟩))
    rw [e0, List.map_nil, List.flatten_nil, List.append_nil]
    exact kp T _ nTw eT
  | succ k ih =>
    intro i s T acc c cT hk hi hst eS eT nTS nTw rows hz hR
    have hlt : i < n := by omega
    have ed : (List.range n).drop i = i :: (List.range n).drop (i + 1) := by
      have q := List.drop_eq_getElem_cons (l := List.range n) (i := i) (by rw [List.length_range]; exact hlt)
      rw [List.getElem_range] at q
      exact q
    rw [ed, List.map_cons, List.sum_cons] at hz
    refine codeAny_builtin F.entry_sum_loop ?_
    rw [Around.under_plainId F.plain_sum_loop _]
    show wpAny _ A.in1 (seqItems? (.ref S) >>= _) _ _ s
    refine wpAny_bind (wpAny_seqItems eS rfl (wpAny_bind (wpAny_tryCatch (W.item i s _ _ hlt hst fun v h1 tk hp hst1 kp => ?_))))
    obtain rfl := hv i v hp
    obtain ⟨nrS, nrw, m, er⟩ := rows i hlt
    have eS1 := kp S _ hSw eS
    have eT1 := kp T _ nTw eT
    have er1 := kp (row i) _ nrw er
    show wpAny _ A.in1 ((holding [Value.ref (row i)] (binaryOp .Add (.ref T) (.ref (row i)))).attempt >>= _) _ _ _
    refine wpAny_bind (wpAny_attempt (wpAny_holding (PySem.P.add_list eT1 er1 ?_ (by rw [List.size_toArray, List.size_toArray]; omega))))
    dsimp only
    have z1 : h1.objs.size ≠ S := fun z => by
      have q : S < h1.objs.size := Heap.lt_size eS1
      rw [z] at q
      exact Nat.lt_irrefl _ q
    have eS2 := Heap.get?_push_of_some ({ cls := .type "list", data := .seq (acc.toArray ++ (part i).toArray) } : Obj) eS1
    refine wpAny_bind (wpAny_updateSeq eS2 rfl ?_)
    have eS3 := Heap.get?_update_self (Obj.mapSeq fun _ => #[Value.ref h1.objs.size]) eS2 rfl
    refine wpAny_bind (wpAny_letGo (wpAny_bind (wpAny_updateSeq eS3 rfl ?_)))
    have eS4 := Heap.get?_update_self (Obj.mapSeq fun _ => #[Value.ref h1.objs.size]) eS3 rfl
    have kk : ∀ b o, b ≠ S → h1.get? b = some o → (((h1.push ({ cls := .type "list", data := .seq (acc.toArray ++ (part i).toArray) } : Obj)).update S (Obj.mapSeq fun _ => #[Value.ref h1.objs.size])).update S (Obj.mapSeq fun _ => #[Value.ref h1.objs.size])).get? b = some o := fun b o nb e =>
      (Heap.get?_update_other _ _ (Ne.symm nb)).trans ((Heap.get?_update_other _ _ (Ne.symm nb)).trans (Heap.get?_push_of_some _ e))
    have eN : (((h1.push ({ cls := .type "list", data := .seq (acc.toArray ++ (part i).toArray) } : Obj)).update S (Obj.mapSeq fun _ => #[Value.ref h1.objs.size])).update S (Obj.mapSeq fun _ => #[Value.ref h1.objs.size])).get? h1.objs.size = some (LO (acc ++ part i) 0) := by
      rw [Heap.get?_update_other _ _ (Ne.symm z1), Heap.get?_update_other _ _ (Ne.symm z1), Heap.get?_push_size _ rfl]
      unfold LO
      rw [List.append_toArray]
    refine wpAny_pure ⟨plainId_quiet F.plain_sum_loop _, ih (i + 1) _ h1.objs.size (acc ++ part i) _ 0 (by omega) hlt (W.frame _ _ _ hst1 fun b hb o e => kk b o (fun z => hS (z ▸ hb)) e) eS4 eN z1 (fun z => Nat.lt_irrefl _ (hfp _ _ hst1 _ (W.sub _ z))) (fun j hj => ?_) ?_ fun s' T' c' kp' g' d' o' e' m1 m2 m3 => ?_⟩
    · obtain ⟨n1, n2, m', e1⟩ := rows j hj
      exact ⟨n1, n2, m', kk _ _ n1 (kp _ _ n2 e1)⟩
    · rw [List.length_append]
      omega
    · refine hR s' T' c' (fun b o n1 n2 e => kp' b o n1 n2 (kk b o n2 (kp b o n1 e))) g' d' o' ?_ m1 m2 (.inr ?_)
      · rw [e', ed, List.map_cons, List.flatten_cons, List.append_assoc]
      · cases eo : s.heap.get? T' with
        | none => rfl
        | some o =>
          have e1 := kp T' o m2 eo
          rcases m3 with ⟨_, z⟩ | z
          · rw [z] at e1
            exact absurd (Heap.lt_size e1) (Nat.lt_irrefl _)
          · rw [kk T' o m1 e1] at z
            cases z
end
section
variable {prog : Program} {w : World} {A : Around} {E : Value → Shared → Prop} {s : Shared}
theorem args_sum2 (a b : Value) : argsOk "sum" ⟨[a, b], []⟩ := by
  unfold argsOk
  kernel_rfl
theorem sumL_call {l s0 : Addr} {rows : List Addr} {lits : List Value} {nl n0 : Nat} {parts : Nat → List Value} {acc : List Value} {Q : Value → Shared → Prop} (hh : A.handled = none)
    (el : s.heap.get? l = some (LO lits nl)) (hl : lits = rows.map Value.ref) (e0 : s.heap.get? s0 = some (LO acc n0)) (hr : ∀ j (h : j < rows.length), ∃ m, s.heap.get? rows[j] = some (LO (parts j) m))
    (hz : acc.length + ((List.range rows.length).map fun j => (parts j).length).sum ≤ sizeLine)
    (h : ∀ (s' : Shared) (T : Addr) (c : Nat), (∀ b o, s.heap.get? b = some o → s'.heap.get? b = some o) → s'.gens = s.gens → s'.os = s.os → s'.heap.get? T = some (LO (acc ++ ((List.range rows.length).map parts).flatten) c) → (rows = [] ∧ T = s0 ∨ s.heap.get? T = none) → Q (.ref T) s') :
    wpAny (model prog w) A (call (.builtin "sum") [.ref l, .ref s0]) Q E s := by
  have hlen : lits.toArray.size = rows.length := by rw [hl, List.size_toArray, List.length_map]
  refine call_function_tree F.kind_sum F.plain_sum F.entry_sum (args_sum2 _ _) ?_
  unfold Builtin.«sum»
  simp only [List.length_cons, List.length_nil]
  rw [if_neg (by decide)]
  refine wpAny_bind (wpAny_of_eq (show Builtin.Builtins.bindParams "sum" ["start"] 0 ⟨[.ref s0], []⟩ = pure [some (.ref s0)] from rfl) ?_)
  have hL : s.heap.IsList l lits.toArray := ⟨_, el, rfl, nl, rfl⟩
  refine wpAny_bind (wpAny_pyIter_list hL ?_)
  have lt1 : l < s.heap.objs.size := Heap.lt_size el
  have lt0 : s0 < s.heap.objs.size := Heap.lt_size e0
  have e1 := Heap.get?_push_of_some ({ cls := .type "list_iterator", data := .fields #[.ref l, .int 0 0] } : Obj) e0
  have tL : Shared.TypeIs { s with heap := s.heap.push { cls := .type "list_iterator", data := .fields #[.ref l, .int 0 0] } } (.ref s0) "list" := ⟨_, e1, rfl⟩
  refine wpAny_bind (wpAny_pure ?_)
  simp only [List.forIn_cons, List.forIn_nil]
  refine wpAny_bind (wpAny_bind (wpAny_bind (wpAny_isInstance (T := "list") (b := false) tL PySem.F.sub_list_str ?_)))
  simp only [Bool.false_eq_true, if_false]
  refine wpAny_pure (wpAny_bind (wpAny_bind (wpAny_isInstance (T := "list") (b := false) tL PySem.F.sub_list_bytes ?_)))
  simp only [Bool.false_eq_true, if_false]
  refine wpAny_pure (wpAny_bind (wpAny_bind (wpAny_isInstance (T := "list") (b := false) tL PySem.F.sub_list_bytearray ?_)))
  simp only [Bool.false_eq_true, if_false]
  refine wpAny_pure (wpAny_pure (wpAny_bind (wpAny_newObj_type ?_)))
  have sz1 : (s.heap.push ({ cls := .type "list_iterator", data := .fields #[.ref l, .int 0 0] } : Obj)).objs.size = s.heap.objs.size + 1 := Heap.size_push ..
  have nlI : l ≠ s.heap.objs.size := Nat.ne_of_lt lt1
  have kp : ∀ b o, s.heap.get? b = some o → ((s.heap.push ({ cls := .type "list_iterator", data := .fields #[.ref l, .int 0 0] } : Obj)).push (LO [.ref s0] 0)).get? b = some o := fun b o e => Heap.get?_push_of_some _ (Heap.get?_push_of_some _ e)
  refine wpAny_pure ⟨plainId_quiet F.plain_sum_loop _, sumL_loop (Walks.list (A := A.in1) (by simp [hh]) s.heap.objs.size l nlI lits.toArray) (S := (s.heap.push ({ cls := .type "list_iterator", data := .fields #[.ref l, .int 0 0] } : Obj)).objs.size) ?_ (fun j => rows.getD j 0) parts ?_ _ sizeLine (Nat.le_refl _) ?_
    (rows.length - 0) 0 _ s0 acc 0 n0 (by rw [hlen]) (Nat.zero_le _) ⟨⟨_, Heap.get?_push_of_some _ (Heap.get?_push_size _ rfl), rfl, rfl⟩, (hL.push _).push _⟩ ?_ (kp _ _ e0) (by rw [sz1]; exact Nat.ne_of_lt (Nat.lt_succ_of_lt lt0)) ?_ ?_ ?_ ?_⟩
  · rw [sz1]
    intro z
    rcases List.mem_cons.mp z with z | z
    · exact absurd z (Nat.ne_of_gt (Nat.lt_succ_self _))
    · exact absurd (List.mem_singleton.mp z) (Nat.ne_of_gt (Nat.lt_succ_of_lt lt1))
  · intro i v hv
    rw [List.getElem?_toArray, hl, List.getElem?_map] at hv
    cases hr2 : rows[i]? with
    | none => rw [hr2] at hv; cases hv
    | some b =>
      rw [hr2] at hv
      cases hv
      rw [List.getD_eq_getElem?_getD, hr2]
      rfl
  · intro i h st b hb
    rcases List.mem_cons.mp hb with z | z
    · obtain ⟨⟨o, ho, _⟩, _⟩ := st
      rw [z]
      exact Heap.lt_size ho
    · obtain ⟨_, ⟨o, ho, _⟩⟩ := st
      rw [List.mem_singleton.mp z]
      exact Heap.lt_size ho
  · exact Heap.get?_push_size _ rfl
  · intro z
    exact absurd (List.mem_singleton.mp z) (Nat.ne_of_lt lt0)
  · intro j hj
    rw [hlen] at hj
    obtain ⟨m, e⟩ := hr j hj
    have eg : rows.getD j 0 = rows[j] := by
      rw [List.getD_eq_getElem?_getD, List.getElem?_eq_getElem hj]
      rfl
    have lt2 : rows[j] < s.heap.objs.size := Heap.lt_size e
    refine ⟨?_, ?_, m, ?_⟩
    · rw [eg, sz1]; exact Nat.ne_of_lt (Nat.lt_succ_of_lt lt2)
    · rw [eg]; exact fun z => absurd (List.mem_singleton.mp z) (Nat.ne_of_lt lt2)
    · rw [eg]; exact kp _ _ e
  · rw [hlen, List.drop_zero]
    exact hz
  · intro s' T' c' k1 g1 d1 o1 e' m1 m2 m3
    rw [hlen, List.drop_zero] at e'
    refine h s' T' c' (fun b o e => ?_) g1 o1 e' (m3.imp (fun z => ⟨List.eq_nil_of_length_eq_zero (by rw [← hlen]; exact z.1.symm), z.2⟩) fun z => ?_)
    rotate_left
    · cases eo : s.heap.get? T' with
      | none => rfl
      | some o =>
        cases (kp _ _ eo).symm.trans z
    have lt3 : b < s.heap.objs.size := Heap.lt_size e
    exact k1 b o (fun z => absurd (List.mem_singleton.mp z) (Nat.ne_of_lt lt3)) (by rw [sz1]; exact Nat.ne_of_lt (Nat.lt_succ_of_lt lt3)) (kp _ _ e)
end
section
variable {X : Cx}
/-- sum(a list of lists of ints, a list of ints) -/
def rSumL (K : PySem.W.Frag) : List V → Hp → VK → Prop := fun vs H Q => ∃ (a b : Addr) (rows : List Addr) (parts : List (List Int)) (ms : List Int), vs = [V.ref a, V.ref b] ∧ H a = some (.lst (rows.map V.ref)) ∧ H b = some (.lst (ms.map V.int)) ∧
  Paired (fun r ns => H r = some (.lst (ns.map V.int))) rows parts ∧ ms.length + parts.flatten.length ≤ sizeLine ∧ ∀ (H' : Hp) (p : Addr), Same H H' → H' p = some (.lst ((ms ++ parts.flatten).map V.int)) → Q (.ref p) H'
theorem refs_of : ∀ {rows : List Addr} {its : List Value}, Vals (rows.map V.ref) its → its = rows.map Value.ref
  | [], _, .nil => rfl
  | a :: r, _, .cons q t => by rw [List.map_cons, ← refs_of t, (show _ = Value.ref a from q)]
theorem Paired.at' {α β : Type} {R : α → β → Prop} : ∀ {l : List α} {m : List β}, Paired R l m → ∀ j (h : j < l.length) (h' : j < m.length), R l[j] m[j]
  | _, _, .cons q _, 0, _, _ => q
  | _, _, .cons _ t, j + 1, h, h' => Paired.at' t j (Nat.lt_of_succ_lt_succ h) (Nat.lt_of_succ_lt_succ h')
theorem range_map {α β : Type} (f : α → β) (d : α) : ∀ l : List α, (List.range l.length).map (fun j => f (l.getD j d)) = l.map f := by
  intro l
  apply List.ext_getElem
  · rw [List.length_map, List.length_map, List.length_range]
  · intro i h1 h2
    rw [List.length_map] at h2
    rw [List.getElem_map, List.getElem_map, List.getElem_range, List.getD_eq_getElem?_getD, List.getElem?_eq_getElem h2]
    rfl
theorem rows_of {P : Program} {w : World} {H : Hp} {h : Heap} (ok : HOk P w H h) : ∀ {rows : List Addr} {parts : List (List Int)}, Paired (fun r ns => H r = some (.lst (ns.map V.int))) rows parts →
    ∃ pits : List (List Value), pits.length = rows.length ∧ (∀ j (hj : j < rows.length), ∃ m, h.get? rows[j] = some (LO (pits.getD j []) m)) ∧ Vals (parts.flatten.map V.int) pits.flatten ∧ (pits.map List.length).sum = parts.flatten.length
  | [], [], .nil => ⟨[], rfl, fun j hj => absurd hj (Nat.not_lt_zero j), .nil, rfl⟩
  | r :: rows, ns :: parts, .cons e t => by
    obtain ⟨pits, h1, h2, h3, h4⟩ := rows_of ok t
    obtain ⟨z, its, n, v, g⟩ : ObjOk P w H h r (.lst (ns.map V.int)) := ok r _ e
    refine ⟨its :: pits, by rw [List.length_cons, h1, List.length_cons], fun j hj => ?_, ?_, ?_⟩
    · cases j with
      | zero => exact ⟨n, g⟩
      | succ j => exact h2 j (Nat.lt_of_succ_lt_succ hj)
    · rw [List.flatten_cons, List.map_append, List.flatten_cons]
      exact v.append h3
    · rw [List.map_cons, List.sum_cons, h4, List.flatten_cons, List.length_append, ← v.length, List.length_map]
theorem cr_sumL (hc : X.calm = true) : CallR X (.builtin "sum") (rSumL X.K) := by
  intro pins s σ H vs us Q I r h
  obtain ⟨a, b, rows, parts, ms, rfl, ha, hb, hp, hz, q⟩ := h
  cases r with
  | cons r1 t1 =>
    cases t1 with
    | cons r2 t2 =>
      cases t2
      cases r1
      cases r2
      obtain ⟨za, its, n, va, ea⟩ : ObjOk X.prog X.w H s.heap a (.lst (rows.map V.ref)) := I.hok a _ ha
      obtain ⟨zb, it0, n0, vb, eb⟩ : ObjOk X.prog X.w H s.heap b (.lst (ms.map V.int)) := I.hok b _ hb
      obtain ⟨pits, hl2, hg2, hv2, hn2⟩ := rows_of I.hok hp
      have e1 : (List.range rows.length).map (fun j => pits.getD j []) = pits := by
        have q := range_map (fun x : List Value => x) [] pits
        rw [List.map_id', hl2] at q
        exact q
      have e2 : ((List.range rows.length).map fun j => (pits.getD j []).length).sum = parts.flatten.length := by
        have q := range_map (fun x : List Value => x.length) [] pits
        rw [hl2] at q
        rw [q, hn2]
      refine sumL_call (I.ok.hd hc) (lits := its) (acc := it0) (parts := fun j => pits.getD j []) ea (refs_of va) eb hg2 (by rw [e2, ← vb.length, List.length_map]; exact hz) fun s' T c kp hg ho hT hw => ?_
      rw [e1] at hT
      have hvals : Vals ((ms ++ parts.flatten).map V.int) (it0 ++ pits.flatten) := by
        rw [List.map_append]
        exact vb.append hv2
      rcases hw with ⟨z1, z2⟩ | hnew
      · subst z1
        cases hp
        refine ⟨.ref T, H, I.call' (ch := []) ho (Un.kept kp) (I.hok.kept kp) (by rw [hg]; exact I.bare) (fun _ z => nomatch z), rfl, q H T (Same.refl H) ?_⟩
        rw [z2, hb, List.flatten_nil, List.append_nil]
      · have hn : H T = none := by
          cases eo : H T with
          | none => rfl
          | some o =>
            obtain ⟨u, hu⟩ := objOk_get (I.hok T o eo)
            rw [hnew] at hu
            cases hu
        refine ⟨.ref T, upd H T (.lst ((ms ++ parts.flatten).map V.int)), I.call' (ch := []) ho (Un.laidN kp hnew hn) (I.hok.laidN kp hn ⟨?_, _, c, hvals, hT⟩) (by rw [hg]; exact I.bare) (fun _ z => nomatch z), rfl, q _ T (Same.new hn) upd_same⟩
        rw [List.length_map, List.length_append]
        exact hz
end
end HSP
namespace HSP
open PySem PySem.Spec PyProof.Rows L2
/-! ## set(a list of ints) -/
/-- a set that was just made, as the world bears it -/
abbrev nSet (w : World) : Obj := { cls := .type "set", dict := none, data := .set #[] 0 (.fresh 0 0 (!w.params.followText "set-order")) }
abbrev nIt (l : Addr) : Obj := { cls := .type "list_iterator", data := .fields #[.ref l, .int 0 0] }
section
variable {P : Program} {w : World} {A : Around} {E : Value → Shared → Prop} {s : Shared}
/-- what the filling of the new set leaves -/
def Filled (w : World) (s : Shared) (ns : List Int) (v : Value) (s2 : Shared) : Prop :=
  v = .none ∧ ∃ (h2 : Heap) (tk c : Nat), s2 = { s with heap := h2, toks := tk } ∧ SetR w h2 s.heap.objs.size (fun j => decide (j ∈ ns)) c ∧ c ≤ ns.length ∧ ∀ b o, s.heap.get? b = some o → h2.get? b = some o
theorem setL_fill {l : Addr} {items : Array Value} {nl : Nat} {dd : Option Addr} {sl : Array (Option Value)} (ns : List Int) (hh : A.handled = none) (el : s.heap.get? l = some { cls := .type "list", dict := dd, data := .seq items nl, slots := sl }) (hi : IntsAre items.toList ns) (hb : ns.length + 1 < scanBound) :
    codeAny (model P w) A (.call (.builtin "set.__init__") ⟨[.ref s.heap.objs.size, .ref l], []⟩) (wants (Filled w s ns) E) { s with heap := s.heap.push (nSet w) } := by
  have many : items.size = ns.length := by rw [← Array.length_toList]; exact IntsAre.length hi
  have lS : l < s.heap.objs.size := Heap.lt_size el
  have sz : (s.heap.push (nSet w)).objs.size = s.heap.objs.size + 1 := Heap.size_push ..
  have gS : (s.heap.push (nSet w)).get? s.heap.objs.size = some (nSet w) := Heap.get?_push_size _ rfl
  have el1 := Heap.get?_push_of_some (nSet w) el
  have isL : (s.heap.push (nSet w)).IsList l items := ⟨_, el1, rfl, nl, rfl⟩
  refine codeAny_call_builtin F.called_set.init.plain F.entry_set_init (check_set_init_1 ⟨_, gS, rfl⟩ ?_)
  have t1 := F.sub_list_set
  have t2 := F.sub_list_frozenset
  have t3 : (Value.type "list" == Value.type "dict") = false := by decide
  unfold Builtin.«set.__init__» noKeywords Builtin.Frozenset.updateFrom
  generalize hPI : pyIter = PI
  wp_walk
  subst hPI
  refine wpAny_pyIter_list isL (wpAny_bind (wpAny_runValue ?_))
  have nlI : l ≠ (s.heap.push (nSet w)).objs.size := by rw [sz]; exact Nat.ne_of_lt (Nat.lt_succ_of_lt lS)
  have offS : s.heap.objs.size ∉ [(s.heap.push (nSet w)).objs.size, l] := fun z => by
    rw [sz] at z
    rcases List.mem_cons.mp z with z | z
    · exact absurd z (Nat.ne_of_lt (Nat.lt_succ_self _))
    · exact absurd (List.mem_singleton.mp z) (Nat.ne_of_gt lS)
  have vals : ∀ (i : Nat) (v : Value), items[i]? = some v → ∃ k t, ns[i]? = some k ∧ v = .int k t := fun i v hv => by
    have lt : i < ns.length := by rw [← many]; exact (Array.getElem?_eq_some_iff.mp hv).1
    obtain ⟨t, e⟩ := IntsAre.int_at hi i v (by rw [Array.getElem?_toList]; exact hv)
    have eg : ns.getD i 0 = ns[i] := by rw [List.getD_eq_getElem?_getD, List.getElem?_eq_getElem lt]; rfl
    exact ⟨ns[i], t, List.getElem?_eq_getElem lt, by rw [e, eg]⟩
  refine set_update_ints (Walks.list (A := A.in1.in1) (by simp [hh]) _ l nlI items).toS s.heap.objs.size offS ns many hb vals (items.size - 0) 0 _ rfl (Nat.zero_le _) ?st ?new fun s2 c hm hc hR => ?_
  case st => exact ⟨⟨_, Heap.get?_push_size _ rfl, rfl, rfl⟩, isL.push _⟩
  case new => exact ⟨0, Nat.le_refl 0, setR_new_at (w := w) (show ((s.heap.push (nSet w)).push (nIt l)).get? s.heap.objs.size = some (nSet w) from Heap.get?_push_of_some _ gS)⟩
  obtain ⟨h2, g2, d2, tk2, os2⟩ := s2
  obtain rfl : g2 = s.gens := hm.gens
  obtain rfl : d2 = s.drawn := hm.drawn
  obtain rfl : os2 = s.os := hm.os
  rw [many] at hc
  refine wpAny_pure (wpAny_pure ⟨rfl, h2, tk2, c, rfl, hR, hc, fun b o e => ?_⟩)
  have bS : b < s.heap.objs.size := Heap.lt_size e
  refine hm.heap b o (fun z => ?_) (Heap.get?_push_of_some _ (Heap.get?_push_of_some _ e))
  rcases List.mem_cons.mp z with z | z
  · exact absurd z (Nat.ne_of_lt bS)
  · have z' := List.mem_singleton.mp z
    rw [sz] at z'
    exact absurd z' (Nat.ne_of_lt (Nat.lt_succ_of_lt bS))
theorem setL_call {l : Addr} {items : Array Value} {nl : Nat} {dd : Option Addr} {sl : Array (Option Value)} (ns : List Int) {Q : Value → Shared → Prop} (hh : A.handled = none) (el : s.heap.get? l = some { cls := .type "list", dict := dd, data := .seq items nl, slots := sl }) (hi : IntsAre items.toList ns) (hb : ns.length + 1 < scanBound)
    (h : ∀ s2, Filled w s ns .none s2 → Q (.ref s.heap.objs.size) s2) : wpAny (model P w) A (call (.type "set") [.ref l]) Q E s := by
  obtain ⟨cl, tl, f1⟩ := F.called_set.mro
  have f2 := F.called_set.made
  have f3 := F.called_set.sub
  have f4 := F.called_set.notType
  have f5 := F.called_set.canCreate
  have f6 := F.typeCall_set_1 (.ref l)
  refine wpAny_call (codeAny_of_tree (show wpAny _ _ (callAny (.type "set") _) _ _ _ from wpAny_pure ⟨Code.quiet_builtin _ (by decide +kernel), codeAny_builtin F.entry_type_call ?_⟩))
  rw [Around.under_plain (weight_type_call_type "set" [.ref l] []) rfl]
  repeat any_goals (first | assumption | wp_step)
  refine codeAny_mono (code_set_led1 (.ref l) (E := E) (Q₁ := fun v s1 => v = .ref s.heap.objs.size ∧ s1 = { s with heap := s.heap.push (nSet w) }) ⟨rfl, rfl⟩) fun r s1 hr => ?_
  match r, hr with
  | .error _, hr => exact hr
  | .ok (.ret v), hr =>
    obtain ⟨e1, e2⟩ := hr
    subst e1 e2
    have f7 := F.called_set.init.lookup
    have f8 := F.called_set.init.bind (.ref s.heap.objs.size)
    have f9 : Shared.TypeIs { s with heap := s.heap.push (nSet w) } (.ref s.heap.objs.size) "set" := ⟨_, Heap.get?_push_size _ rfl, rfl⟩
    repeat any_goals (first | assumption | wp_step)
    refine codeAny_mono (setL_fill (E := E) (A := A.in1) ns (by simp [hh]) el hi hb) fun r2 s2 hr2 => ?_
    match r2, hr2 with
    | .error _, hr2 => exact hr2
    | .ok (.ret u), hr2 =>
      obtain ⟨e3, q⟩ := hr2
      subst e3
      repeat any_goals (first | assumption | wp_step)
      exact h _ ⟨rfl, q⟩
end
section
variable {X : Cx}
/-- set(a list of ints): its members, at most as many as there are items -/
def rSetInts (w : World) : List V → Hp → VK → Prop := fun vs H Q => ∃ (a : Addr) (ns : List Int), vs = [V.ref a] ∧ H a = some (.lst (ns.map V.int)) ∧ ns.length ≤ 1000 ∧
  ∀ (p : Addr) (c : Nat), H p = none → c ≤ ns.length → Q (.ref p) (upd H p (SetO w p (fun j => decide (j ∈ ns)) c))
theorem cr_setInts (hc : X.calm = true) : CallR X (.type "set") (rSetInts X.w) := by
  intro pins s σ H vs us Q I r h
  obtain ⟨a, ns, rfl, ha, hl, q⟩ := h
  rw [Vals.ref1 r]
  obtain ⟨z, its, n, rv, e⟩ : ObjOk X.prog X.w H s.heap a (.lst (ns.map V.int)) := I.hok a _ ha
  refine setL_call ns (I.ok.hd hc) e (ints_of_vals rv) (by unfold scanBound; omega) fun s2 hf => ?_
  obtain ⟨_, h2, tk, c, rfl, hR, hc2, kp⟩ := hf
  have hn : H s.heap.objs.size = none := I.hok.fresh (Nat.le_refl _)
  exact ⟨.ref _, _, I.laid kp (Nat.le_refl _) (setO_new hR), rfl, q _ c hn hc2⟩
end
end HSP
namespace HSP
open PySem PySem.Spec PyProof.Rows L2
/-! ## what the law draws from: a list of a number, a count, a mark -/
def DrAt (H : Hp) (p : Addr) (k : Nat) : Prop := ∃ (n : Int) (j : Nat) (b : Bool), H p = some (.lst [.int n, .int (j : Int), .bl b]) ∧ j ≤ k
theorem DrAt.mono {H : Hp} {p : Addr} {k k' : Nat} (d : DrAt H p k) (h : k ≤ k') : DrAt H p k' := by
  obtain ⟨n, j, b, e, l⟩ := d
  exact ⟨n, j, b, e, Nat.le_trans l h⟩
theorem DrAt.same {H H' : Hp} {p : Addr} {k : Nat} (d : DrAt H p k) (s : Same H H') : DrAt H' p k := by
  obtain ⟨n, j, b, e, l⟩ := d
  exact ⟨n, j, b, s _ _ e, l⟩
theorem DrAt.ne {H : Hp} {p q : Addr} {k : Nat} (d : DrAt H p k) (h : H q = none) : q ≠ p := by
  obtain ⟨n, j, b, e, l⟩ := d
  exact (ne_of_none e h).symm
theorem DrAt.tree {H H' : Hp} {p : Addr} {k : Nat} {v : V} {t : Tr} (d : DrAt H p k) (s : Keep p H H') (h : TrAt H v t) : TrAt H' v t := by
  obtain ⟨n, j, b, e, l⟩ := d
  exact s.tree e h
/-- any of the items, whichever place is read -/
theorem at_any {xs : List V} {C : V → Prop} (h : ∀ x, x ∈ xs → C x) {i : Int} (h0 : 0 ≤ i) (h1 : i < (xs.length : Int)) : ∃ v, atI xs i = some v ∧ C v := by
  have hk : i.toNat < xs.length := by omega
  have ei : i = ((i.toNat : Nat) : Int) := by omega
  exact ⟨xs[i.toNat], at_of ei (List.getElem?_eq_getElem hk), h _ (List.getElem_mem hk)⟩
theorem small_mod {a m : Int} (h0 : 0 < m) (h1 : m < 2 ^ 64) : -(2 ^ 64) < a % m ∧ a % m < 2 ^ 64 := by
  have q1 := Int.emod_nonneg a (show m ≠ 0 by omega)
  have q2 := Int.emod_lt_of_pos a h0
  constructor <;> omega
section
variable {P : Program} {w : World} {K : PySem.W.Frag} {mg : Str → Option Value} {base : Heap}
/-! ### _law_draws -/
theorem sc_law_draws : FnScope n_law_draws ["cell"] (defScope s_law_draws) := ⟨rfl, rfl, rfl, by decide +kernel, rfl, by decide +kernel, by decide +kernel⟩
def spDraws : Sp := fun vs H Q _ => ∃ c : Int, vs = [.int c] ∧ ∀ (H' : Hp) (p : Addr), Same H H' → H p = none → DrAt H' p 0 → Q (.ref p) H'
theorem ok_draws (B : Bl mg) (a : At K mg "_law_draws" s_law_draws) : Df P w K mg base "_law_draws" 1 ["cell"] spDraws := by
  refine Df.mk' a sc_law_draws (fun vs H Q E h => ?_) (fun _ _ _ _ _ _ us hl => match us, hl with | [_], _ => rfl) (fun f cdv A outer s H vs Q E hr h => ?_)
  · obtain ⟨c, rfl, _⟩ := h
    rfl
  obtain ⟨c, rfl, q⟩ := h
  refine ⟨_, (pss_one (ps_ret (pe_lst (pa_cons (pe_op op_mod (pe_callTy call_int1 (by rfl) B.int (by decide +kernel) (pa_cons (pv 0) pa_nil)) (pe_op op_powW (pe_op op_powW (pe_op op_powW pe_int pe_int) pe_int) pe_int)) (pa_cons pe_int (pa_cons (pe_cmpR op_ge (pv 0) (pe_op op_powW pe_int pe_int) (nomark _)) pa_nil)))))), ?_⟩
  refine ⟨_, rfl, .inl ⟨_, rfl, _, _, rfl, rfl, ⟨by decide, by decide +kernel⟩, _, _, rfl, rfl, ⟨by decide, by decide +kernel⟩, _, _, rfl, rfl, ⟨by decide, by decide +kernel⟩, _, _, rfl, rfl, ?_, ?_⟩⟩
  · exact Int.pow_pos (Int.pow_pos (Int.pow_pos (by decide)))
  refine ⟨_, rfl, _, _, rfl, rfl, ⟨by decide, by decide +kernel⟩, _, _, rfl, rfl, (by show 3 ≤ sizeLine; decide), fun p hp => ?_⟩
  exact q _ p (Same.new hp) hp ⟨_, 0, _, upd_same, Nat.le_refl _⟩
/-! ### _law_next -/
theorem sc_law_next : FnScope n_law_next ["draws"] (defScope s_law_next) := ⟨rfl, rfl, rfl, by decide +kernel, rfl, by decide +kernel, by decide +kernel⟩
def spNext : Sp := fun vs H Q _ => ∃ (p : Addr) (k : Nat), vs = [.ref p] ∧ DrAt H p k ∧ k ≤ 100000 ∧ ∀ (H' : Hp) (r : Int), Keep p H H' → DrAt H' p (k + 1) → 0 ≤ r → r < 2147483648 → Q (.int r) H'
theorem ok_next (B : Bl mg) (a : At K mg "_law_next" s_law_next) : Df P w K mg base "_law_next" 1 ["draws"] spNext := by
  refine Df.mk' a sc_law_next (fun vs H Q E h => ?_) (fun _ _ _ _ _ _ us hl => match us, hl with | [_], _ => rfl) (fun f cdv A outer s H vs Q E hr h => ?_)
  · obtain ⟨p, k, rfl, _⟩ := h
    rfl
  obtain ⟨p, k, rfl, ⟨n, j, b, e, hj⟩, hk, q⟩ := h
  refine ⟨_, (pss_cons (ps_asg (pe_op op_add (pe_ix ix_list (pv 0) pe_int (fun _ _ => rfl)) pe_int) (pg_sub (pv 0) pe_int set_list))
 (pss_cons (ps_set (i := 1) sc_law_next.nd rfl (.inl rfl) (pe_ix ix_list (pv 0) pe_int (fun _ _ => rfl)))
 (pss_cons (ps_if (pt_val (pe_ix ix_list (pv 0) pe_int (fun _ _ => rfl))) (pss_cons (ps_set (i := 2) sc_law_next.nd rfl (.inl rfl) (pe_op op_mod (pe_callTy call_int1 (by rfl) B.int (by decide +kernel) (pa_cons (pe_ix ix_list (pv 0) pe_int (fun _ _ => rfl)) pa_nil)) (pe_op op_powW pe_int pe_int)))
 (pss_cons (ps_asg (pe_op op_fdiv (pe_ix ix_list (pv 0) pe_int (fun _ _ => rfl)) (pe_op op_powW pe_int pe_int)) (pg_sub (pv 0) pe_int set_list))
 (pss_one (ps_ret (pv 2))))) pss_nil)
 (pss_cons (ps_set (i := 2) sc_law_next.nd rfl (.inl rfl) (pe_op op_mod (pe_callTy call_int1 (by rfl) B.int (by decide +kernel) (pa_cons (pe_op op_mul (pe_op op_add (pe_op op_add (pe_op op_mod (pe_callTy call_int1 (by rfl) B.int (by decide +kernel) (pa_cons (pe_ix ix_list (pv 0) pe_int (fun _ _ => rfl)) pa_nil)) pe_int) (pe_op op_mul (pe_op op_mul (pv 1) (pv 1)) pe_int)) (pv 1)) pe_int) pa_nil)) pe_int))
 (pss_cons (ps_set (i := 2) sc_law_next.nd rfl (.inl rfl) (pe_op op_mod (pe_callTy call_int1 (by rfl) B.int (by decide +kernel) (pa_cons (pe_op op_mul (pv 2) (pv 2)) pa_nil)) pe_int))
 (pss_one (ps_ret (pe_op op_fdiv (pe_op op_mod (pe_callTy call_int1 (by rfl) B.int (by decide +kernel) (pa_cons (pe_op op_mul (pv 2) (pe_op op_add (pv 2) pe_int)) pa_nil)) pe_int) pe_int)))))))), ?_⟩
  have e1 : (upd H p (.lst ([V.int n, .int (j : Int), .bl b].set 1 (.int ((j : Int) + 1))))) p = some (.lst [.int n, .int ((j + 1 : Nat) : Int), .bl b]) := by
    rw [upd_same]
    rfl
  refine ⟨_, rfl, p, _, _, _, rfl, rfl, .of e, atI_nat (j := 1) rfl, _, _, rfl, rfl, _, rfl, p, _, _, 1, rfl, rfl, e, rfl, ?_⟩
  have kp1 : Keep p H (upd H p (.lst ([V.int n, .int (j : Int), .bl b].set 1 (.int ((j : Int) + 1))))) := Keep.at
  generalize upd H p (.lst ([V.int n, .int (j : Int), .bl b].set 1 (.int ((j : Int) + 1)))) = H1 at e1 kp1 ⊢
  refine ⟨_, rfl, p, _, _, _, rfl, rfl, .of e1, atI_nat (j := 1) rfl, ?_⟩
  refine ⟨_, rfl, p, _, _, _, rfl, rfl, .of e1, atI_nat (j := 2) rfl, b, rfl, ?_⟩
  refine ite2 (fun c => ?_) (fun c => ?_)
  · refine ⟨_, rfl, p, _, _, _, rfl, rfl, .of e1, atI_nat (j := 0) rfl, .inl ⟨_, rfl, _, _, rfl, rfl, ⟨by decide, by decide +kernel⟩, _, _, rfl, rfl, Int.pow_pos (by decide), ?_⟩⟩
    refine ⟨_, rfl, p, _, _, _, rfl, rfl, .of e1, atI_nat (j := 0) rfl, _, _, rfl, rfl, ⟨by decide, by decide +kernel⟩, _, _, rfl, rfl, ⟨by decide, by decide⟩, _, rfl, p, _, _, 0, rfl, rfl, e1, rfl, ?_⟩
    refine ⟨_, rfl, q _ _ (kp1.trans Keep.at) ⟨_, j + 1, b, upd_same, by omega⟩ (Int.emod_nonneg _ (by decide)) ?_⟩
    have h6 : n % (1000000 : Int) < 1000000 := Int.emod_lt_of_pos n (by decide)
    exact Int.lt_trans h6 (by decide)
  · have k1 : -(2 ^ 64) < ((j + 1 : Nat) : Int) := by omega
    have k2 : ((j + 1 : Nat) : Int) < 2 ^ 64 := by omega
    refine ⟨_, rfl, p, _, _, _, rfl, rfl, .of e1, atI_nat (j := 0) rfl, .inl ⟨_, rfl, _, _, rfl, rfl, (by show (0 : Int) < 1000003; decide), _, rfl, _, rfl, _, _, rfl, rfl, .inl ⟨k1, k2⟩, _, _, rfl, rfl, .inr ⟨by decide, by decide⟩, _, _, rfl, rfl, _, rfl, _, _, rfl, rfl, _, _, rfl, rfl, .inr ⟨by decide, by decide⟩,
      .inl ⟨_, rfl, _, _, rfl, rfl, (by show (0 : Int) < 2147483629; decide), ?_⟩⟩⟩
    refine ⟨_, rfl, _, rfl, _, _, rfl, rfl, .inl (small_mod (by decide) (by decide)), .inl ⟨_, rfl, _, _, rfl, rfl, (by show (0 : Int) < 2147483587; decide), ?_⟩⟩
    refine ⟨_, rfl, _, rfl, _, _, rfl, rfl, _, _, rfl, rfl, .inl (small_mod (by decide) (by decide)), .inl ⟨_, rfl, _, _, rfl, rfl, (by show (0 : Int) < 2147483579; decide), _, _, rfl, rfl, ⟨by decide, by decide⟩, ?_⟩⟩
    refine q _ _ kp1 ⟨n, j + 1, b, e1, by omega⟩ (Int.ediv_nonneg (Int.emod_nonneg _ (by decide)) (by decide)) ?_
    exact Int.lt_of_le_of_lt (Int.ediv_le_self _ (Int.emod_nonneg _ (by decide))) (Int.lt_trans (Int.emod_lt_of_pos _ (by decide)) (by decide))
end
end HSP
namespace HSP
open PySem PySem.Spec PyProof.Rows L2
section
variable {P : Program} {w : World} {K : PySem.W.Frag} {mg : Str → Option Value} {base : Heap}
/-- nothing can be asked: no room is needed -/
theorem Df.none' {x : Str} {st : Stmt} {ps : List Str} {sp : Sp} (a : At K mg x st) (no : ∀ vs H Q E, ¬ sp vs H Q E)
    (hb : ∀ (kV doc pm : Value) (an : Option Addr) (cdv ct : Value) (us : List Value), us.length = ps.length → bindArgs (PySem.W.fnOf x x (defArgs st) (defBody st) (defScope st) .none kV doc pm an cdv ct) ⟨us, []⟩ = pure (ps.zip us)) (k : Nat) : Df P w K mg base x k ps sp := by
  obtain ⟨f, fd, hm, F⟩ := a
  exact ⟨f, fd, hm, F.kp, F.binds hb, ⟨fun vs H Q E h => absurd h (no vs H Q E), fun A outer s H args us vs Q E _ _ _ _ h => absurd h (no vs H Q E)⟩⟩
def spSize (n : Nat) : Sp := fun vs H Q _ => ∃ (v : V) (t : Tr), vs = [v] ∧ TrAt H v t ∧ t.ht < n ∧ Q (.int t.size) H
end
end HSP
namespace HSP
open PySem PySem.Spec PyProof.Rows L2
section
variable {P : Program} {w : World} {K : PySem.W.Frag} {mg : Str → Option Value} {base : Heap}
/-! ### _law_size -/
theorem sc_law_size : FnScope n_law_size n_law_size (defScope s_law_size) := ⟨rfl, rfl, rfl, by decide +kernel, rfl, by decide +kernel, by decide +kernel⟩
theorem ok_size (a : At K mg "_law_size" s_law_size) : ∀ n, Df P w K mg base "_law_size" n n_law_size (spSize n)
  | 0 => Df.none' a (fun vs H Q E h => by obtain ⟨v, t, _, _, h, _⟩ := h; exact absurd h (Nat.not_lt_zero _)) (fun _ _ _ _ _ _ us hl => match us, hl with | [_], _ => rfl) 0
  | n + 1 => by
    have S := ok_size a n
    refine Df.mk' a sc_law_size (fun vs H Q E h => ?_) (fun _ _ _ _ _ _ us hl => match us, hl with | [_], _ => rfl) (fun f cdv A outer s H vs Q E hr h => ?_)
    · obtain ⟨v, t, rfl, _⟩ := h
      rfl
    obtain ⟨v, t, rfl, ht, hd, q⟩ := h
    refine ⟨_, (pss_one (ps_ret (pe_ifExp (pt_cmpR op_isN (pv 0) pe_non (nomark _)) pe_int (pe_op op_add (pe_op op_add (pe_df S hr (pa_cons (pe_ix ix_tup (pv 0) pe_int (fun _ _ => rfl)) pa_nil)) pe_int) (pe_df S hr (pa_cons (pe_ix ix_tup (pv 0) pe_int (fun _ _ => rfl)) pa_nil)))))), ?_⟩
    refine ⟨v, rfl, rfl, _, rfl, ?_⟩
    cases ht with
    | nil => exact iteT q
    | @nod b x1 x2 l r e hl hr2 =>
      have hd' : max l.ht r.ht + 1 < n + 1 := hd
      refine iteF ?_
      refine ⟨_, rfl, b, _, _, x1, rfl, rfl, .of e, atI_nat (j := 0) rfl, x1, l, rfl, hl, by omega, ?_⟩
      refine ⟨_, _, rfl, rfl, _, rfl, b, _, _, x2, rfl, rfl, .of e, atI_nat (j := 1) rfl, x2, r, rfl, hr2, by omega, ?_⟩
      refine ⟨_, _, rfl, rfl, ?_⟩
      have e2 : ((l.size : Int) + 1 + (r.size : Int)) = (((Tr.nod l r).size : Nat) : Int) := by
        show _ = ((l.size + 1 + r.size : Nat) : Int)
        omega
      rw [← e2] at q
      exact q
/-! ### _law_tree -/
theorem sc_law_tree : FnScope n_law_tree ["draws", "room"] (defScope s_law_tree) := ⟨rfl, rfl, rfl, by decide +kernel, rfl, by decide +kernel, by decide +kernel⟩
def spDraw (n : Nat) : Sp := fun vs H Q _ => ∃ (p : Addr) (m k : Nat), vs = [.ref p, .int (m : Int)] ∧ m < n ∧ DrAt H p k ∧ k + 2 * m ≤ 100000 ∧ ∀ (H' : Hp) (v : V) (t : Tr), Keep p H H' → DrAt H' p (k + 2 * m) → TrAt H' v t → t.size = m → Q v H'
theorem ok_drawT (B : Bl mg) (N : Df P w K mg base "_law_next" 1 ["draws"] spNext) (a : At K mg "_law_tree" s_law_tree) : ∀ n, Df P w K mg base "_law_tree" (n + 1) ["draws", "room"] (spDraw n)
  | 0 => Df.none' a (fun vs H Q E h => by obtain ⟨p, m, k, _, h, _⟩ := h; exact absurd h (Nat.not_lt_zero _)) (fun _ _ _ _ _ _ us hl => match us, hl with | [_, _], _ => rfl) 1
  | n + 1 => by
    have D := ok_drawT B N a n
    refine Df.mk' a sc_law_tree (fun vs H Q E h => ?_) (fun _ _ _ _ _ _ us hl => match us, hl with | [_, _], _ => rfl) (fun f cdv A outer s H vs Q E hr h => ?_)
    · obtain ⟨p, m, k, rfl, _⟩ := h
      rfl
    obtain ⟨p, m, k, rfl, hm, hd, hk, q⟩ := h
    refine ⟨_, (pss_cons (ps_if (pt_cmpR op_eq (pv 1) pe_int (nomark _)) (pss_one (ps_ret pe_non)) pss_nil)
 (pss_cons (ps_set (i := 2) sc_law_tree.nd rfl (.inl rfl) (pe_ix ix_list (pe_lst (pa_cons (pe_op op_fdiv (pv 1) pe_int) (pa_cons (pe_op op_fdiv (pe_op op_sub (pv 1) pe_int) pe_int) (pa_cons (pe_op op_mod (pe_callTy call_int1 (by rfl) B.int (by decide +kernel) (pa_cons (pe_df N (hr.mono (by omega)) (pa_cons (pv 0) pa_nil)) pa_nil)) (pv 1)) (pa_cons pe_int (pa_cons (pe_op op_sub (pv 1) pe_int) pa_nil)))))) (pe_op op_mod (pe_callTy call_int1 (by rfl) B.int (by decide +kernel) (pa_cons (pe_df N (hr.mono (by omega)) (pa_cons (pv 0) pa_nil)) pa_nil)) pe_int) (fun _ _ => rfl)))
 (pss_one (ps_ret (pe_tup (pa_cons (pe_df D hr (pa_cons (pv 0) (pa_cons (pv 2) pa_nil))) (pa_cons (pe_df D hr (pa_cons (pv 0) (pa_cons (pe_op op_sub (pe_op op_sub (pv 1) (pv 2)) pe_int) pa_nil))) pa_nil))))))), ?_⟩
    refine ⟨_, rfl, rfl, _, rfl, ?_⟩
    refine ite2 (fun c => ?_) (fun c => ?_)
    · have m0 : (m : Int) = 0 := V.int.inj (of_decide_eq_true c)
      exact q H .non .nil (Keep.refl _ _) (hd.mono (by omega)) .nil (by show 0 = m; omega)
    have m1 : ¬ (m : Int) = 0 := fun z => c (decide_eq_true (congrArg V.int z))
    have mp : (0 : Int) < (m : Int) := by omega
    refine ⟨_, rfl, _, _, rfl, rfl, ⟨by decide, by decide⟩, _, rfl, _, _, rfl, rfl, _, _, rfl, rfl, ⟨by decide, by decide⟩, _, rfl, p, k, rfl, hd, by omega, fun H1 r1 kp1 d1 a1 a2 => .inl ⟨_, rfl, _, rfl, _, _, rfl, rfl, mp, _, rfl, _, _, rfl, rfl, (by show 5 ≤ sizeLine; decide), fun L hL => ?_⟩⟩
    refine ⟨_, rfl, p, k + 1, rfl, d1.same (Same.new hL), by omega, fun H2 r2 kp2 d2 a3 a4 => .inl ⟨_, rfl, _, _, rfl, rfl, (by show (0 : Int) < 5; decide), ?_⟩⟩
    have eL := kp2 L _ (d1.ne hL) upd_same
    obtain ⟨x, hx, j, rfl, hj⟩ := at_any (xs := [V.int ((m : Int) / 2), V.int (((m : Int) - 1) / 2), V.int (r1 % (m : Int)), V.int 0, V.int ((m : Int) - 1)]) (C := fun x => ∃ j : Nat, x = V.int (j : Int) ∧ j < m) (fun x hx => by
      have nat : ∀ z : Int, 0 ≤ z → z < (m : Int) → ∃ j : Nat, V.int z = V.int (j : Int) ∧ j < m := fun z z0 z1 => ⟨z.toNat, congrArg V.int (by omega), by omega⟩
      simp only [List.mem_cons, List.not_mem_nil, or_false] at hx
      rcases hx with rfl | rfl | rfl | rfl | rfl
      · exact nat _ (by omega) (by omega)
      · exact nat _ (by omega) (by omega)
      · exact nat _ (Int.emod_nonneg _ (by omega)) (Int.emod_lt_of_pos _ mp)
      · exact nat _ (by omega) (by omega)
      · exact nat _ (by omega) (by omega)) (i := r2 % 5) (Int.emod_nonneg _ (by decide)) (Int.emod_lt_of_pos _ (by decide))
    refine ⟨L, _, _, _, rfl, rfl, .of eL, hx, ?_⟩
    have kpA : Keep p H H2 := kp1.trans ((Keep.new hL).trans kp2)
    refine ⟨_, rfl, _, rfl, p, j, k + 1 + 1, rfl, by omega, d2, by omega, fun H3 v3 t3 kp3 d3 b3 s3 => ?_⟩
    refine ⟨_, rfl, _, rfl, _, rfl, _, _, rfl, rfl, _, _, rfl, rfl, p, m - 1 - j, k + 1 + 1 + 2 * j, congrArg (fun z => [V.ref p, V.int z]) (by omega : (m : Int) - (j : Int) - 1 = ((m - 1 - j : Nat) : Int)), by omega, d3, by omega, fun H4 v4 t4 kp4 d4 b4 s4 => ?_⟩
    refine ⟨(by show 2 ≤ sizeLine; decide), fun T hT => ?_⟩
    have s5 := Same.new (o := .tup [v3, v4]) hT
    refine q _ (.ref T) (.nod t3 t4) (kpA.trans (kp3.trans (kp4.trans (Keep.new hT)))) ((d4.mono (by omega)).same s5) (.nod upd_same ((d3.tree kp4 b3).same s5) (b4.same s5)) ?_
    show t3.size + 1 + t4.size = m
    omega
end
end HSP
namespace HSP
open PySem PySem.Spec PyProof.Rows L2
theorem DrAt.neOf {H : Hp} {p q : Addr} {k : Nat} {ns : List Int} (d : DrAt H p k) (e : H q = some (.lst (ns.map V.int))) : q ≠ p := fun z => by
  obtain ⟨n, j, b, e2, _⟩ := d
  rw [z, e2] at e
  have h := HO.lst.inj (Option.some.inj e)
  match ns, h with
  | [], h => exact absurd (congrArg List.length h) (by simp)
  | [_], h => exact absurd (congrArg List.length h) (by simp)
  | [_, _], h => exact absurd (congrArg List.length h) (by simp)
  | _ :: _ :: z :: _, h => exact absurd (congrArg (fun l => l[2]?) h) (by simp)
theorem DrAt.put {H : Hp} {p q : Addr} {k : Nat} {o : HO} (d : DrAt H p k) (n : q ≠ p) : DrAt (upd H q o) p k := by
  obtain ⟨z, j, b, e, l⟩ := d
  exact ⟨z, j, b, by rw [upd_ne n.symm]; exact e, l⟩
/-- a place that was not tracked at first may be written -/
theorem Keep.put {p q : Addr} {H H1 : Hp} {o : HO} (h : H q = none) (k : Keep p H H1) : Keep p H (upd H1 q o) := fun b u n e => by
  rw [upd_ne (ne_of_none e h)]
  exact k b u n e
/-- a value drawn is near 0 -/
def Near (ns : List Int) : Prop := ∀ v, v ∈ ns → -1000001 ≤ v ∧ v ≤ 1000001
theorem Near.nil : Near [] := fun _ h => by cases h
theorem Near.snoc {ns : List Int} {v : Int} (h : Near ns) (h1 : -1000001 ≤ v ∧ v ≤ 1000001) : Near (ns ++ [v]) := fun x hx => by
  rcases List.mem_append.mp hx with z | z
  · exact h x z
  · rw [List.mem_singleton.mp z]
    exact h1
theorem Near.set {ns : List Int} {v : Int} {i : Nat} (h : Near ns) (h1 : -1000001 ≤ v ∧ v ≤ 1000001) : Near (ns.set i v) := fun x hx => by
  rcases List.mem_or_eq_of_mem_set hx with z | z
  · exact h x z
  · rw [z]
    exact h1
theorem near_of {r sp : Int} (h0 : 0 ≤ sp) (h1 : sp ≤ 1000000) : -1000001 ≤ r % (sp + 1) - sp / 2 ∧ r % (sp + 1) - sp / 2 ≤ 1000001 := by
  have a1 := Int.emod_nonneg r (show sp + 1 ≠ 0 by omega)
  have a2 := Int.emod_lt_of_pos r (show (0 : Int) < sp + 1 by omega)
  omega
end HSP
namespace HSP
open PySem PySem.Spec PyProof.Rows L2
section
variable {P : Program} {w : World} {K : PySem.W.Frag} {mg : Str → Option Value} {base : Heap}
/-! ### _law_values -/
theorem sc_law_values : FnScope n_law_values ["draws", "many"] (defScope s_law_values) := ⟨rfl, rfl, rfl, by decide +kernel, rfl, by decide +kernel, by decide +kernel⟩
def spValues : Sp := fun vs H Q _ => ∃ (p : Addr) (m k : Nat), vs = [.ref p, .int (m : Int)] ∧ m ≤ 1000 ∧ DrAt H p k ∧ k + m + 10 ≤ 100000 ∧ ∀ (H' : Hp) (q : Addr) (ns : List Int), Keep p H H' → DrAt H' p (k + m + 10) → H q = none → H' q = some (.lst (ns.map V.int)) → ns.length = m → Near ns → Q (.ref q) H'
theorem ok_values (B : Bl mg) (N : Df P w K mg base "_law_next" 1 ["draws"] spNext) (a : At K mg "_law_values" s_law_values) : Df P w K mg base "_law_values" 2 ["draws", "many"] spValues := by
  refine Df.mk' a sc_law_values (fun vs H Q E h => ?_) (fun _ _ _ _ _ _ us hl => match us, hl with | [_, _], _ => rfl) (fun f cdv A outer s H vs Q E hr h => ?_)
  · obtain ⟨p, m, k, rfl, _⟩ := h
    rfl
  obtain ⟨p, m, k, rfl, hm, hd, hk, q⟩ := h
  refine ⟨_, (pss_cons (ps_set (i := 2) sc_law_values.nd rfl (.inl rfl) (pe_df N hr (pa_cons (pv 0) pa_nil)))
 (pss_cons (ps_set (i := 3) sc_law_values.nd rfl (.inr rfl) (pe_ix ix_list (pe_lst (pa_cons pe_int (pa_cons (pv 1) (pa_cons (pe_op op_add (pe_op op_mul pe_int (pv 1)) pe_int) (pa_cons (pe_op op_powW pe_int pe_int) pa_nil))))) (pe_op op_mod (pe_callTy call_int1 (by rfl) B.int (by decide +kernel) (pa_cons (pv 2) pa_nil)) pe_int) (fun _ _ => rfl)))
 (pss_cons (ps_setLc (i := 5) (own := [("k", 4)]) (g := (gName 4)) (tt := tYes) (by rfl) sc_law_values.nd rfl rfl (sw_true rfl rfl rfl (by decide +kernel)) (pi_range1 (by rfl) B.range (pa_cons (pv 1) pa_nil)) (blkOk_by (N := n_law_values) (sc := defScope s_law_values) (by decide +kernel)) (fun _ _ _ _ _ => (pg_name (i := 4) sc_law_values.nd rfl (.inl rfl))) (fun _ _ _ _ _ => pts_nil) (fun _ _ _ _ _ => (pe_op op_sub (pe_op op_mod (pe_callTy call_int1 (by rfl) B.int (by decide +kernel) (pa_cons (pe_df N hr (pa_cons (pv 0) pa_nil)) pa_nil)) (pe_op op_add (pv 3) pe_int)) (pe_op op_fdiv (pv 3) pe_int))))
 (pss_cons (ps_if (PW.pt (pw_and (pt_cmpR op_eq (pe_op op_mod (pe_callTy call_int1 (by rfl) B.int (by decide +kernel) (pa_cons (pe_op op_fdiv (pv 2) pe_int) pa_nil)) pe_int) pe_int (nomark _)) (pw_and1 (pt_cmpR op_gt (pv 1) pe_int (nomark _))))) (pss_cons (ps_set (i := 5) sc_law_values.nd rfl (.inl rfl) (pe_callB cr_sortedI (by rfl) B.sorted (by decide +kernel) (pa_cons (pv 5) pa_nil)))
 (pss_one (ps_for PassesOwn.never rfl (pi_range1 (by rfl) B.range (pa_cons (pe_op op_mod (pe_callTy call_int1 (by rfl) B.int (by decide +kernel) (pa_cons (pe_op op_fdiv (pv 2) pe_int) pa_nil)) pe_int) pa_nil)) (pg_name (i := 4) sc_law_values.nd rfl (.inl rfl)) (pss_cons (ps_set (i := 6) sc_law_values.nd rfl (.inl rfl) (pe_op op_mod (pe_callTy call_int1 (by rfl) B.int (by decide +kernel) (pa_cons (pe_df N hr (pa_cons (pv 0) pa_nil)) pa_nil)) (pv 1)))
 (pss_one (ps_asg (pe_op op_sub (pe_op op_mod (pe_callTy call_int1 (by rfl) B.int (by decide +kernel) (pa_cons (pe_df N hr (pa_cons (pv 0) pa_nil)) pa_nil)) (pe_op op_add (pv 3) pe_int)) (pe_op op_fdiv (pv 3) pe_int)) (pg_sub (pv 5) (pv 6) set_list))))))) pss_nil)
 (pss_one (ps_ret (pv 5))))))), ?_⟩
  refine ⟨_, rfl, p, k, rfl, hd, by omega, fun H1 r1 kp1 d1 a1 a2 => ?_⟩
  refine ⟨_, rfl, _, rfl, _, _, rfl, rfl, .inl ⟨by decide, by decide⟩, _, _, rfl, rfl, _, _, rfl, rfl, ⟨by decide, by decide +kernel⟩, (by show 4 ≤ sizeLine; decide), fun L hL => ?_⟩
  obtain ⟨x, hx, sp, rfl, hsp, hsp2⟩ := at_any (xs := [V.int 3, V.int (m : Int), V.int (4 * (m : Int) + 1), V.int ((10 : Int) ^ (6 : Int).toNat)]) (C := fun x => ∃ j : Int, x = V.int j ∧ 0 ≤ j ∧ j ≤ 1000000) (fun x hx => by
    simp only [List.mem_cons, List.not_mem_nil, or_false] at hx
    rcases hx with rfl | rfl | rfl | rfl
    · exact ⟨3, rfl, by decide, by decide⟩
    · exact ⟨_, rfl, by omega, by omega⟩
    · exact ⟨_, rfl, by omega, by omega⟩
    · exact ⟨_, rfl, by decide, by decide⟩) (i := r1 % 4) (Int.emod_nonneg _ (by decide)) (Int.emod_lt_of_pos _ (by decide))
  refine ⟨_, rfl, .inl ⟨_, rfl, _, _, rfl, rfl, (by show (0 : Int) < 4; decide), L, _, _, _, rfl, rfl, .of upd_same, hx, ?_⟩⟩
  have kp2 : Keep p H (upd H1 L (.lst [V.int 3, V.int (m : Int), V.int (4 * (m : Int) + 1), V.int ((10 : Int) ^ (6 : Int).toNat)])) := kp1.trans (Keep.new hL)
  have d2 := d1.same (Same.new (o := .lst [V.int 3, V.int (m : Int), V.int (4 * (m : Int) + 1), V.int ((10 : Int) ^ (6 : Int).toNat)]) hL)
  have free2 : ∀ b, (upd H1 L (.lst [V.int 3, V.int (m : Int), V.int (4 * (m : Int) + 1), V.int ((10 : Int) ^ (6 : Int).toNat)])) b = none → H b = none ∧ b ≠ p := fun b hb => by
    refine ⟨?_, d2.ne hb⟩
    cases e : H b with
    | none => rfl
    | some o => cases hb.symm.trans (kp2 b o (d2.ne hb) e)
  generalize upd H1 L (.lst [V.int 3, V.int (m : Int), V.int (4 * (m : Int) + 1), V.int ((10 : Int) ^ (6 : Int).toNat)]) = H2 at kp2 d2 free2 ⊢
  refine ⟨_, rfl, _, rfl, by omega, by omega, fun D hD => ?_⟩
  refine lc_range (lo := 0) (n := m) (fun i H' => ∃ ns : List Int, Keep p H H' ∧ DrAt H' p (k + 1 + i) ∧ H' D = some (.lst (ns.map V.int)) ∧ ns.length = i ∧ Near ns) ⟨[], kp2.trans (Keep.new hD), d2.same (Same.new hD), upd_same, rfl, .nil⟩ (fun i H3 hi h3 => ?_) (fun H3 h3 => ?_)
  · obtain ⟨ns, kp3, d3, e3, l3, w3⟩ := h3
    refine ⟨rfl, ?_⟩
    refine ⟨_, rfl, p, k + 1 + i, rfl, d3, by omega, fun H4 r2 kp4 d4 b1 b2 => .inl ⟨_, rfl, _, rfl, _, _, rfl, rfl, _, _, rfl, rfl, (by show 0 < sp + 1; omega), _, rfl, _, _, rfl, rfl, ⟨by decide, by decide⟩, _, _, rfl, rfl, _, kp4 D _ (d3.neOf e3) e3, ?_, ?_⟩⟩
    · rw [List.length_map]
      exact small1000 (by omega)
    · refine ⟨ns ++ [r2 % (sp + 1) - sp / 2], Keep.put (free2 D hD).1 (kp3.trans kp4), d4.put (d3.neOf e3), ?_, ?_, w3.snoc (near_of hsp hsp2)⟩
      · rw [upd_same, List.map_append]
        rfl
      · rw [List.length_append, List.length_singleton, l3]
  · obtain ⟨ns, kp3, d3, e3, l3, w3⟩ := h3
    have nD := d3.neOf e3
    refine ⟨_, rfl, _, _, rfl, rfl, ⟨by decide, by decide⟩, .inl ⟨_, rfl, _, _, rfl, rfl, (by show (0 : Int) < 3; decide), rfl, _, rfl, ?_⟩⟩
    have back : Q (.ref D) H3 := q H3 D ns kp3 (d3.mono (by omega)) (free2 D hD).1 e3 l3 w3
    refine ite2 (fun c1 => ?_) (fun c1 => iteF ⟨_, rfl, back⟩)
    refine ⟨_, rfl, _, _, rfl, rfl, _, rfl, ite2 (fun c2 => ?_) (fun c2 => ⟨_, rfl, back⟩)⟩
    have mp : (0 : Int) < (m : Int) := of_decide_eq_true c2
    refine ⟨_, rfl, D, ns, rfl, .of e3, fun ns2 D2 hperm _ hD2 => ?_⟩
    refine ⟨_, rfl, _, _, rfl, rfl, ⟨by decide, by decide⟩, .inl ⟨_, rfl, _, _, rfl, rfl, (by show (0 : Int) < 4; decide), ?_⟩⟩
    have u1 := Int.emod_nonneg (r1 / 12) (show (4 : Int) ≠ 0 by decide)
    have u2 := Int.emod_lt_of_pos (r1 / 12) (show (0 : Int) < 4 by decide)
    refine ⟨_, rfl, by omega, by omega, ?_⟩
    have hD2' : H D2 = none ∧ D2 ≠ p := by
      refine ⟨?_, d3.ne hD2⟩
      cases e : H D2 with
      | none => rfl
      | some o => cases hD2.symm.trans (kp3 D2 o (d3.ne hD2) e)
    refine for_range (lo := 0) (n := (r1 / 12 % 4).toNat) (fun i σ H' => ∃ (ns' : List Int) (y4 y6 : Option V), σ = [some (.ref p), some (.int (m : Int)), some (.int r1), some (.int sp), y4, some (.ref D2), y6] ∧ Keep p H H' ∧ DrAt H' p (k + 1 + m + 2 * i) ∧ H' D2 = some (.lst (ns'.map V.int)) ∧ ns'.length = m ∧ Near ns')
      ⟨ns2, _, _, rfl, Keep.put hD2'.1 kp3, d3.put hD2'.2, upd_same, by rw [hperm.length_eq, l3], fun x hx => w3 x (hperm.mem_iff.mp hx)⟩ (fun i σ H4 hi h4 => ?_) (fun σ H4 h4 => ?_)
    · obtain ⟨ns', y4, y6, rfl, kp4, d4, e4, l4, w4⟩ := h4
      refine ⟨_, rfl, p, k + 1 + m + 2 * i, rfl, d4, by omega, fun H5 r5 kp5 d5 b1 b2 => .inl ⟨_, rfl, _, rfl, _, _, rfl, rfl, mp, ?_⟩⟩
      refine ⟨_, rfl, p, k + 1 + m + 2 * i + 1, rfl, d5, by omega, fun H6 r6 kp6 d6 b3 b4 => .inl ⟨_, rfl, _, rfl, _, _, rfl, rfl, _, _, rfl, rfl, (by show 0 < sp + 1; omega), _, rfl, _, _, rfl, rfl, ⟨by decide, by decide⟩, _, _, rfl, rfl, ?_⟩⟩
      have n4 := d4.neOf e4
      have e6 := kp6 D2 _ n4 (kp5 D2 _ n4 e4)
      have v1 := Int.emod_nonneg r5 (show (m : Int) ≠ 0 by omega)
      have v2 := Int.emod_lt_of_pos r5 mp
      refine ⟨_, rfl, _, rfl, D2, _, _, (r5 % (m : Int)).toNat, rfl, rfl, e6, ?_, ?_⟩
      · rw [List.length_map, l4]
        exact ixN_in v1 v2
      · refine ⟨ns'.set (r5 % (m : Int)).toNat (r6 % (sp + 1) - sp / 2), _, _, rfl, Keep.put hD2'.1 ((kp4.trans kp5).trans kp6), d6.put n4, ?_, ?_, w4.set (near_of hsp hsp2)⟩
        · rw [upd_same, List.map_set]
        · rw [List.length_set, l4]
    · obtain ⟨ns', y4, y6, rfl, kp4, d4, e4, l4, w4⟩ := h4
      exact ⟨_, rfl, q H4 D2 ns' kp4 (d4.mono (by omega)) hD2'.1 e4 l4 w4⟩
end
end HSP
namespace HSP
open PySem PySem.Spec PyProof.Rows L2
/-! ## sorted(a set of ints), any number of them -/
section
variable {P : Program} {w : World} {A : Around} {E : Value → Shared → Prop} {s : Shared} {a : Addr}
theorem sorted_setB {S : Int → Bool} {n : Nat} {Q : Value → Shared → Prop} (R : SetR w s.heap a S n) (hh : A.handled = none)
    (hQ : ∀ s' p (out : List Value) (c : Nat) (ns : List Int), (∀ b o, s.heap.get? b = some o → s'.heap.get? b = some o) → s'.gens = s.gens → s'.os = s.os → s.heap.objs.size ≤ p →
      s'.heap.get? p = some (seqObj "list" out.toArray c) → IntsAre out ns → ns.Pairwise (· < ·) → (∀ k, k ∈ ns ↔ S k = true) → ns.length = n → Q (.ref p) s') :
    wpAny (model P w) A (call (.builtin "sorted") [.ref a]) Q E s := by
  obtain ⟨o, es, ep, t, ho, hex, hd, g, nd, hm, hb, hf, hn, hr, hl⟩ := R
  refine Calls.call_function_entry kind_sorted plain_sorted entry_sorted (args_sorted1 _) ?_
  unfold Builtin.«sorted»
  refine wpAny_bind (m := PySem.checkCount "sorted" 1 1 _) (wpAny_pure ?_)
  refine wpAny_bind (collect_set (A := A.in1) hh ⟨o, ho, hex.1, hd⟩ hf hb hr hl fun s1 vs k1 hz g1 o1 pm => ?_)
  have hvl : vs.length = n := by rw [pm.length_eq, List.length_map, Array.length_toList]; exact hn
  have hI : IntsAre vs (vs.map Builtin.Re.reRawOf) := ints_of vs fun v hv => by
    obtain ⟨e, he, q⟩ := List.mem_map.mp (pm.mem_iff.mp hv)
    obtain ⟨k, tk, h1, _⟩ := g e he
    exact ⟨k, tk, by rw [← q]; exact h1⟩
  have pk : (vs.map Builtin.Re.reRawOf).Perm (es.toList.map keyOf) := by
    have q := pm.map Builtin.Re.reRawOf
    rw [List.map_map] at q
    exact q
  have hzl : vs.length ≤ sizeLine := by
    rw [pm.length_eq, List.length_map, Array.length_toList]
    exact fits_of_scanBound hb
  refine wpAny_bind (wpAny_newList ?_ hzl)
  have hoL : (s1.heap.push (seqObj "list" vs.toArray 0)).get? s1.heap.objs.size = some (seqObj "list" vs.toArray 0) := Heap.get?_push_size _ rfl
  refine wpAny_bind (wpAny_holding (wpAny_call_entry slot_list_sort ⟨_, hoL, rfl⟩ entry_list_sort (SrtO.list_sort_ord SrtO.swo_int hoL hzl (fun h2 => SrtO.ints_sortable hI h2) fun out h1 h2 => ⟨_, rfl, ?_⟩) (args_list_sort _)))
  obtain ⟨q1, q2, q3⟩ := SrtO.ints_out hI h1 h2
  obtain ⟨c, hc⟩ := sortedHeap_at (vs := vs) (out := out.toArray) hoL
  have pn := q2.trans pk
  refine wpAny_pure ⟨_, rfl, hQ _ s1.heap.objs.size out c _ (fun b u e => ?_) g1 o1 hz hc q1 (lt_of_le_nodup _ q3 (pn.nodup_iff.mpr nd)) (fun k => by rw [pn.mem_iff, ← hm k]) ?_⟩
  · have q := k1 b u e
    have hlt := Heap.lt_size q
    show (sortedHeap (s1.heap.push (seqObj "list" vs.toArray 0)) s1.heap.objs.size vs out.toArray).get? b = some u
    rw [sortedHeap_old (Nat.ne_of_lt hlt) (by rw [size_push']; exact Nat.lt_succ_of_lt hlt)]
    exact Heap.get?_push_of_some _ q
  · rw [pn.length_eq, List.length_map, Array.length_toList]; exact hn
end
section
variable {X : Cx}
def rSortedSetB (w : World) : List V → Hp → VK → Prop := fun vs H Q => ∃ (a : Addr) (S : Int → Bool) (n : Nat), vs = [V.ref a] ∧ H a = some (SetO w a S n) ∧ n ≤ 10000 ∧
  ∀ (ns : List Int) (p : Addr), ns.Pairwise (· < ·) → (∀ k : Int, k ∈ ns ↔ S k = true) → ns.length = n → H p = none → Q (.ref p) (upd H p (.lst (ns.map V.int)))
theorem cr_sortedSetB (hc : X.calm = true) : CallR X (.builtin "sorted") (rSortedSetB X.w) := by
  intro pins s σ H vs us Q I r h
  obtain ⟨a, S, n, rfl, ha, hnb, q⟩ := h
  have R := setO_get I ha
  rw [Vals.ref1 r]
  refine sorted_setB R (I.ok.hd hc) fun s' p out c ns k g o hp hg hi hs hm hl => ?_
  have hlen : (ns.map V.int).length ≤ sizeLine := by
    rw [List.length_map, hl, sizeLine_eq]
    omega
  have hn : H p = none := I.hok.fresh hp
  have J : Inv X pins σ (upd H p (.lst (ns.map V.int))) { s with heap := s'.heap, gens := s'.gens, drawn := s'.drawn, toks := s'.toks } :=
    I.call (ch := []) (Un.laid k hp hn) (I.hok.laid k hp ⟨hlen, out, c, vals_of_ints hi, hg⟩) (by rw [g]; exact I.bare) (fun _ z => nomatch z)
  have e : s' = { s with heap := s'.heap, gens := s'.gens, drawn := s'.drawn, toks := s'.toks } := by
    cases s'
    cases s
    cases o
    rfl
  rw [e]
  exact ⟨.ref p, _, J, rfl, q ns p hs hm hl hn⟩
end
end HSP
namespace HSP
open PySem PySem.Spec PyProof.Rows L2
/-- the numbers that matter -/
def threeOf (v : Int) : List Int := [2 * v - 1, 2 * v, 2 * v + 1]
theorem three_len (ns : List Int) : ((ns.map threeOf).flatten).length = 3 * ns.length := by
  induction ns with
  | nil => rfl
  | cons v r ih =>
    rw [List.map_cons, List.flatten_cons, List.length_append, ih, List.length_cons]
    show 3 + 3 * r.length = _
    omega
section
variable {P : Program} {w : World} {K : PySem.W.Frag} {mg : Str → Option Value} {base : Heap}
/-! ### _law_probes -/
theorem sc_law_probes : FnScope n_law_probes p_law_probes (defScope s_law_probes) := ⟨rfl, rfl, rfl, by decide +kernel, rfl, by decide +kernel, by decide +kernel⟩
def spProbes : Sp := fun vs H Q _ => ∃ (a : Addr) (ns : List Int), vs = [.ref a] ∧ H a = some (.lst (ns.map V.int)) ∧ ns.length ≤ 100 ∧ ∀ (H' : Hp) (q : Addr) (ps : List Int), Same H H' → H' q = some (.lst (ps.map V.int)) → ps.Pairwise (· < ·) → (∀ k, k ∈ ps ↔ k = 0 ∨ ∃ v, v ∈ ns ∧ k ∈ threeOf v) → ps.length ≤ 3 * ns.length + 1 → Q (.ref q) H'
theorem ok_probes (B : Bl mg) (a : At K mg "_law_probes" s_law_probes) : Df P w K mg base "_law_probes" 1 p_law_probes spProbes := by
  refine Df.mk' a sc_law_probes (fun vs H Q E h => ?_) (fun _ _ _ _ _ _ us hl => match us, hl with | [_], _ => rfl) (fun f cdv A outer s H vs Q E hr h => ?_)
  · obtain ⟨a, ns, rfl, _⟩ := h
    rfl
  obtain ⟨a, ns, rfl, ha, hl, q⟩ := h
  refine ⟨_, (pss_one (ps_ret (pe_callB (cr_sortedSetB rfl) (by rfl) B.sorted (by decide +kernel) (pa_cons (pe_callTy (cr_setInts rfl) (by rfl) B.set (by decide +kernel) (pa_cons (pe_callB (cr_sumL rfl) (by rfl) B.sum (by decide +kernel) (pa_cons (pe_lc (own := [("value", 1)]) (g := (gName 1)) (tt := tYes) (by rfl) sc_law_probes.nd (pi_list (pv 0)) (blkOk_by (N := n_law_probes) (sc := defScope s_law_probes) (by decide +kernel)) (fun _ _ _ _ _ => (pg_name (i := 1) sc_law_probes.nd rfl (.inl rfl))) (fun _ _ _ _ _ => pts_nil) (fun _ _ _ _ _ => (pe_lst (pa_cons (pe_op op_sub (pe_op op_mul pe_int (pv 1)) pe_int) (pa_cons (pe_op op_mul pe_int (pv 1)) (pa_cons (pe_op op_add (pe_op op_mul pe_int (pv 1)) pe_int) pa_nil)))))) (pa_cons (pe_lst (pa_cons pe_int pa_nil)) pa_nil))) pa_nil)) pa_nil)))), ?_⟩
  refine ⟨_, rfl, a, rfl, ⟨_, .of ha⟩, fun D hD => ?_⟩
  have nDa : a ≠ D := ne_of_none ha hD
  refine lc_list (xs := ns.map V.int) (fun i H' => ∃ rows : List Addr, Same H H' ∧ H' D = some (.lst (rows.map V.ref)) ∧ rows.length = i ∧ Paired (fun r zs => H' r = some (.lst (zs.map V.int)) ∧ r ≠ D) rows ((ns.take i).map threeOf)) ⟨[], Same.new hD, upd_same, rfl, .nil⟩ (fun i H3 _ h3 => ?_) (fun i x H3 hx h3 => ?_) (fun H3 h3 => ?_)
  · obtain ⟨rows, s3, _⟩ := h3
    exact .of (s3 _ _ ha)
  · obtain ⟨rows, s3, e3, l3, p3⟩ := h3
    rw [List.getElem?_map] at hx
    cases hv : ns[i]? with
    | none => rw [hv] at hx; cases hx
    | some v =>
      rw [hv] at hx
      cases hx
      have hi : i < ns.length := (List.getElem?_eq_some_iff.mp hv).1
      refine ⟨rfl, ?_⟩
      refine ⟨_, rfl, _, _, rfl, rfl, .inl ⟨by decide, by decide⟩, _, _, rfl, rfl, _, rfl, _, _, rfl, rfl, .inl ⟨by decide, by decide⟩, _, rfl, _, _, rfl, rfl, .inl ⟨by decide, by decide⟩, _, _, rfl, rfl, (by show 3 ≤ sizeLine; decide), fun R hR => ?_⟩
      have sR := Same.new (o := .lst [V.int (2 * v - 1), V.int (2 * v), V.int (2 * v + 1)]) hR
      have nRD : D ≠ R := ne_of_none e3 hR
      refine ⟨_, sR _ _ e3, ?_, ?_⟩
      · rw [List.length_map, l3]
        exact small1000 (by omega)
      · refine ⟨rows ++ [R], fun b o e => ?_, ?_, ?_, ?_⟩
        · rw [upd_ne (ne_of_none e hD)]
          exact sR _ _ (s3 _ _ e)
        · rw [upd_same, List.map_append]
          rfl
        · rw [List.length_append, List.length_singleton, l3]
        · rw [List.take_add_one, hv, List.map_append]
          refine Paired.app (Paired.mapP p3 fun r zs h => ⟨?_, h.2⟩) (.cons ⟨?_, nRD.symm⟩ .nil)
          · rw [upd_ne h.2]
            exact sR _ _ h.1
          · rw [upd_ne nRD.symm, upd_same]
            rfl
  · obtain ⟨rows, s3, e3, l3, p3⟩ := h3
    rw [List.length_map] at l3 p3
    rw [List.take_length] at p3
    refine ⟨(by show 1 ≤ sizeLine; decide), fun Z hZ => ?_⟩
    have sZ := Same.new (o := .lst [V.int 0]) hZ
    have hlen : ((ns.map threeOf).flatten).length = 3 * ns.length := three_len ns
    refine ⟨D, Z, rows, ns.map threeOf, [0], rfl, sZ _ _ e3, upd_same, Paired.mapP p3 fun r zs h => sZ _ _ h.1, ?_, fun H4 M s4 eM => ?_⟩
    · rw [hlen]
      show 1 + 3 * ns.length ≤ sizeLine
      exact Nat.le_of_lt (small1000 (by omega))
    refine ⟨M, _, rfl, eM, ?_, fun S c hS hc => ?_⟩
    · rw [List.length_append, hlen, List.length_singleton]
      omega
    refine ⟨S, _, c, rfl, upd_same, ?_, fun ps p hps hmem hl2 hp => ?_⟩
    · rw [List.length_append, hlen, List.length_singleton] at hc
      omega
    · refine q _ p ps (s3.trans (sZ.trans (s4.trans ((Same.new hS).trans (Same.new hp))))) upd_same hps (fun k => ?_) ?_
      · rw [hmem k, decide_eq_true_eq, List.mem_append, List.mem_singleton, List.mem_flatten]
        refine or_congr Iff.rfl ⟨fun ⟨l, h1, h2⟩ => ?_, fun ⟨v, h1, h2⟩ => ⟨_, List.mem_map.mpr ⟨v, h1, rfl⟩, h2⟩⟩
        obtain ⟨v, h3, rfl⟩ := List.mem_map.mp h1
        exact ⟨v, h3, h2⟩
      · rw [List.length_append, hlen, List.length_singleton] at hc
        omega
end
end HSP
namespace HSP
open PySem PySem.Spec PyProof.Rows L2
theorem cut_from (xs : List V) (k : Nat) : cutV xs (some (k : Int)) none = xs.drop k := by
  unfold cutV
  rw [HT.sIx_nat, HT.sIx_none]
  by_cases h : k ≤ xs.length
  · rw [Nat.min_eq_left h]
    exact List.take_of_length_le (by rw [List.length_drop]; exact Nat.le_refl _)
  · rw [Nat.min_eq_right (by omega), Nat.sub_self, List.take_zero, List.drop_eq_nil_of_le (by omega)]
theorem cut_to (xs : List V) (k : Nat) : cutV xs none (some (k : Int)) = xs.take k := by
  unfold cutV
  rw [HT.sIx_nat, HT.sIx_none, List.drop_zero, Nat.sub_zero]
  by_cases h : k ≤ xs.length
  · rw [Nat.min_eq_left h]
  · rw [Nat.min_eq_right (by omega), List.take_of_length_le (by omega), List.take_of_length_le (by omega)]
theorem falls_snoc : ∀ (l : List Int) (x y : Int), falls (l ++ [x, y]) = falls (l ++ [x]) ++ if y < x then [(x, y)] else []
  | [], x, y => by
    show (if y < x then (x, y) :: falls [y] else falls [y]) = falls [x] ++ _
    split <;> rfl
  | [z], x, y => by
    have ih := falls_snoc [] x y
    rw [List.nil_append, List.nil_append] at ih
    show (if x < z then (z, x) :: falls [x, y] else falls [x, y]) = (if x < z then (z, x) :: falls [x] else falls [x]) ++ _
    rw [ih]
    split <;> rfl
  | z :: z2 :: r, x, y => by
    have ih := falls_snoc (z2 :: r) x y
    show (if z2 < z then (z, z2) :: falls (z2 :: r ++ [x, y]) else falls (z2 :: r ++ [x, y])) = (if z2 < z then (z, z2) :: falls (z2 :: r ++ [x]) else falls (z2 :: r ++ [x])) ++ _
    rw [ih]
    split <;> rfl
theorem falls_turn {ns : List Int} {i : Nat} {x y : Int} (h1 : ns[i]? = some x) (h2 : ns[i + 1]? = some y) : falls (ns.take (i + 2)) = falls (ns.take (i + 1)) ++ if y < x then [(x, y)] else [] := by
  rw [show i + 2 = (i + 1) + 1 from rfl, List.take_add_one (i := i + 1), h2, List.take_add_one, h1]
  have q := falls_snoc (ns.take i) x y
  show falls (ns.take i ++ [x] ++ [y]) = falls (ns.take i ++ [x]) ++ _
  rw [← q, List.append_assoc]
  rfl
/-- a list of pairs stands at q -/
def PairsAt (H : Hp) (q : Addr) (l : List (Int × Int)) : Prop := ∃ rows : List Addr, H q = some (.lst (rows.map V.ref)) ∧ Paired (fun r z => H r = some (.tup [.int z.1, .int z.2])) rows l
theorem PairsAt.same {H H' : Hp} {q : Addr} {l : List (Int × Int)} (h : PairsAt H q l) (s : Same H H') : PairsAt H' q l := by
  obtain ⟨rows, e, p⟩ := h
  exact ⟨rows, s _ _ e, Paired.mapP p fun r z h => s _ _ h⟩
section
variable {P : Program} {w : World} {K : PySem.W.Frag} {mg : Str → Option Value} {base : Heap}
/-! ### _law_fits -/
theorem sc_law_fits : FnScope n_law_fits n_law_fits (defScope s_law_fits) := ⟨rfl, rfl, rfl, by decide +kernel, rfl, by decide +kernel, by decide +kernel⟩
def spFitsP : Sp := fun vs H Q _ => ∃ (a : Addr) (ns : List Int) (g : Nat) (tw b c : Int), vs = [.ref a, natV g, .int tw, .int b, .int c] ∧ H a = some (.lst (ns.map V.int)) ∧ g ≤ ns.length ∧ (0 < g → 2 * valAt ns (g - 1) - tw < b) ∧ (g < ns.length → tw - 2 * valAt ns g < c) ∧ Q (.bl true) H
theorem ok_fits (B : Bl mg) (a : At K mg "_law_fits" s_law_fits) : Df P w K mg base "_law_fits" 1 n_law_fits spFitsP := by
  refine Df.mk' a sc_law_fits (fun vs H Q E h => ?_) (fun _ _ _ _ _ _ us hl => match us, hl with | [_, _, _, _, _], _ => rfl) (fun f cdv A outer s H vs Q E hr h => ?_)
  · obtain ⟨a, ns, g, tw, b, c, rfl, _⟩ := h
    rfl
  obtain ⟨a, ns, g, tw, b, c, rfl, ha, hg, h1, h2, q⟩ := h
  refine ⟨_, (pss_cons (ps_if (PW.pt (pw_and (pt_cmpR op_gt (pv 1) pe_int (nomark _)) (pw_and1 (pt_cmpR op_ge (pe_op op_sub (pe_op op_mul pe_int (pe_ix ix_list (pv 0) (pe_op op_sub (pv 1) pe_int) (fun _ _ => rfl))) (pv 2)) (pv 3) (nomark _))))) (pss_one (ps_ret pe_bl)) pss_nil)
 (pss_one (ps_ret (pe_or (pe_cmpR op_eq (pv 1) (pe_callB call_len_seq (by rfl) B.len PySem.boot_len (pa_cons (pv 0) pa_nil)) (nomark _)) (pe_one (pe_cmpR op_lt (pe_op op_sub (pv 2) (pe_op op_mul pe_int (pe_ix ix_list (pv 0) (pv 1) (fun _ _ => rfl)))) (pv 4) (nomark _))))))), ?_⟩
  refine ⟨_, rfl, _, _, rfl, rfl, _, rfl, ite2 (fun c1 => ?_) (fun c1 => iteF ?_)⟩
  · have g0 : (g : Int) > 0 := of_decide_eq_true c1
    refine ⟨_, rfl, _, rfl, _, _, rfl, rfl, a, _, _, _, rfl, rfl, .of ha, at_of (j := g - 1) (by omega) (valAt_get (by omega)), _, _, rfl, rfl, .inl ⟨by decide, by decide⟩, _, rfl, _, _, rfl, rfl, _, rfl, _, _, rfl, rfl, _, rfl, ite_no ?_ ?_⟩
    · have := h1 (by omega)
      omega
    · refine ⟨_, rfl, _, rfl, a, _, rfl, .inl (.of ha), rfl, _, rfl, ite2 (fun c3 => q) (fun c3 => ?_)⟩
      have gl : g < ns.length := by
        have n3 : ¬ (V.int (g : Int) = V.int (((ns.map V.int).length : Nat) : Int)) := fun z => c3 (decide_eq_true z)
        rw [List.length_map] at n3
        have n4 : ¬ g = ns.length := fun z => n3 (by rw [z])
        omega
      refine ⟨_, rfl, _, rfl, _, rfl, a, _, _, _, rfl, rfl, .of ha, at_of (j := g) rfl (valAt_get gl), _, _, rfl, rfl, .inl ⟨by decide, by decide⟩, _, _, rfl, rfl, _, rfl, _, _, rfl, rfl, ?_⟩
      have q2 : Q (.bl (decide (tw - 2 * valAt ns g < c))) H := by rw [decide_eq_true (h2 gl)]; exact q
      exact q2
  · refine ⟨_, rfl, _, rfl, a, _, rfl, .inl (.of ha), rfl, _, rfl, ite2 (fun c3 => q) (fun c3 => ?_)⟩
    have gl : g < ns.length := by
      have n3 : ¬ (V.int (g : Int) = V.int (((ns.map V.int).length : Nat) : Int)) := fun z => c3 (decide_eq_true z)
      rw [List.length_map] at n3
      have n4 : ¬ g = ns.length := fun z => n3 (by rw [z])
      omega
    refine ⟨_, rfl, _, rfl, _, rfl, a, _, _, _, rfl, rfl, .of ha, at_of (j := g) rfl (valAt_get gl), _, _, rfl, rfl, .inl ⟨by decide, by decide⟩, _, _, rfl, rfl, _, rfl, _, _, rfl, rfl, ?_⟩
    have q2 : Q (.bl (decide (tw - 2 * valAt ns g < c))) H := by rw [decide_eq_true (h2 gl)]; exact q
    exact q2
/-! ### _law_falls -/
theorem sc_law_falls : FnScope n_law_falls ["values"] (defScope s_law_falls) := ⟨rfl, rfl, rfl, by decide +kernel, rfl, by decide +kernel, by decide +kernel⟩
def spFalls : Sp := fun vs H Q _ => ∃ (a : Addr) (ns : List Int), vs = [.ref a] ∧ H a = some (.lst (ns.map V.int)) ∧ ns.length ≤ 1000 ∧ ∀ (H' : Hp) (q : Addr), Same H H' → PairsAt H' q (falls ns) → Q (.ref q) H'
theorem ok_falls (B : Bl mg) (a : At K mg "_law_falls" s_law_falls) : Df P w K mg base "_law_falls" 1 ["values"] spFalls := by
  refine Df.mk' a sc_law_falls (fun vs H Q E h => ?_) (fun _ _ _ _ _ _ us hl => match us, hl with | [_], _ => rfl) (fun f cdv A outer s H vs Q E hr h => ?_)
  · obtain ⟨a, ns, rfl, _⟩ := h
    rfl
  obtain ⟨a, ns, rfl, ha, hl, q⟩ := h
  refine ⟨_, (pss_one (ps_ret (pe_lc (own := [("one", 1), ("other", 2)]) (g := gTup K 2 (gCons (gName 1) (gCons (gName 2) gNil))) (by rfl) sc_law_falls.nd (pi_zip (by rfl) B.zip (pa_cons (pv 0) (pa_cons (pe_slice sl_list (pv 0) (po_some pe_int) po_none) pa_nil))) (blkOk_by (N := n_law_falls) (sc := defScope s_law_falls) (by decide +kernel)) (fun _ _ _ _ _ => (pg_tup rfl (pgs_cons (pg_name (i := 1) sc_law_falls.nd rfl (.inl rfl)) (pgs_cons (pg_name (i := 2) sc_law_falls.nd rfl (.inl rfl)) pgs_nil)))) (fun _ _ _ _ _ => (pts_one (pt_cmpR op_lt (pv 2) (pv 1) (nomark _)))) (fun _ _ _ _ _ => (pe_tup (pa_cons (pv 1) (pa_cons (pv 2) pa_nil))))))), ?_⟩
  refine ⟨_, rfl, _, rfl, 1, rfl, a, _, rfl, .of ha, fun c hc => ?_⟩
  have sc := Same.new (o := .lst (cutV (ns.map V.int) (some 1) none)) hc
  have ec : (upd H c (.lst (cutV (ns.map V.int) (some 1) none))) c = some (.lst ((ns.drop 1).map V.int)) := by
    rw [upd_same, show cutV (ns.map V.int) (some 1) none = (ns.map V.int).drop 1 from cut_from (ns.map V.int) 1, List.map_drop]
  refine ⟨a, c, _, _, rfl, .of (sc _ _ ha), .of ec, fun D hD => ?_⟩
  have nDc : c ≠ D := ne_of_none ec hD
  have many : (ns.length - 1) = min (ns.map V.int).length ((ns.drop 1).map V.int).length := by
    rw [List.length_map, List.length_map, List.length_drop]
    omega
  refine lc_it (walk_zip (K := K) (a := a) (b := c) (xs := ns.map V.int) (ys := (ns.drop 1).map V.int) many) (fun i H' => ∃ rows : List Addr, Same H H' ∧ H' c = some (.lst ((ns.drop 1).map V.int)) ∧ H' D = some (.lst (rows.map V.ref)) ∧ rows.length ≤ i ∧ Paired (fun r z => H' r = some (.tup [.int z.1, .int z.2]) ∧ r ≠ D) rows (falls (ns.take (i + 1)))) ⟨[], sc.trans (Same.new hD), (Same.new hD) _ _ ec, upd_same, Nat.le_refl _, ?_⟩ (fun i H3 _ h3 => ?_) (fun i x H3 H4 hi h3 hy => ?_) (fun H3 h3 => ?_)
  · have e : falls (ns.take (0 + 1)) = [] := by
      cases ns with
      | nil => rfl
      | cons v r => rfl
    rw [e]
    exact .nil
  · obtain ⟨rows, s3, e3, _⟩ := h3
    exact ⟨.of (s3 _ _ ha), .of e3⟩
  · obtain ⟨rows, s3, ec3, e3, l3, p3⟩ := h3
    obtain ⟨T, x1, x2, rfl, nT, rfl, g1, g2⟩ := hy
    have i1 : i < ns.length := by omega
    have i2 : i + 1 < ns.length := by omega
    have v1 : ns[i]? = some ns[i] := List.getElem?_eq_getElem i1
    have v2 : ns[i + 1]? = some ns[i + 1] := List.getElem?_eq_getElem i2
    have w1 : (ns.map V.int)[i]? = some (.int ns[i]) := by rw [List.getElem?_map, v1]; rfl
    have w2 : ((ns.drop 1).map V.int)[i]? = some (.int ns[i + 1]) := by
      rw [List.getElem?_map, List.getElem?_drop, Nat.add_comm 1 i, v2]
      rfl
    cases w1.symm.trans g1
    cases w2.symm.trans g2
    rw [falls_turn v1 v2]
    have sT := Same.new (o := .tup [V.int ns[i], V.int ns[i + 1]]) nT
    have nTD : D ≠ T := ne_of_none e3 nT
    refine ⟨T, _, rfl, .of upd_same, rfl, _, _, rfl, _, [], rfl, rfl, rfl, ?_⟩
    refine ⟨_, rfl, _, rfl, _, _, rfl, rfl, _, rfl, ite2 (fun c1 => ?_) (fun c1 => ?_)⟩
    · rw [if_pos (of_decide_eq_true c1)]
      refine ⟨_, rfl, _, rfl, (by show 2 ≤ sizeLine; decide), fun p hp => ⟨rows.map V.ref, ?_, ?_, ?_⟩⟩
      · exact (Same.new hp) _ _ (sT _ _ e3)
      · rw [List.length_map]
        exact small1000 (by omega)
      · have sp := Same.new (o := .tup [V.int ns[i], V.int ns[i + 1]]) hp
        have nDp : D ≠ p := ne_of_none (sT _ _ e3) hp
        refine ⟨rows ++ [p], fun b o e => ?_, ?_, ?_, ?_, Paired.app (Paired.mapP p3 fun r z h => ⟨?_, h.2⟩) (.cons ⟨?_, nDp.symm⟩ .nil)⟩
        · rw [upd_ne (ne_of_none ((Same.new hc) b o e) hD)]
          exact sp _ _ (sT _ _ (s3 _ _ e))
        · rw [upd_ne nDc]
          exact sp _ _ (sT _ _ ec3)
        · rw [upd_same, List.map_append]
          rfl
        · rw [List.length_append, List.length_singleton]
          omega
        · rw [upd_ne h.2]
          exact sp _ _ (sT _ _ h.1)
        · rw [upd_ne nDp.symm, upd_same]
    · rw [if_neg (fun z => c1 (decide_eq_true z)), List.append_nil]
      exact ⟨rows, fun b o e => sT _ _ (s3 _ _ e), sT _ _ ec3, sT _ _ e3, by omega, Paired.mapP p3 fun r z h => ⟨sT _ _ h.1, h.2⟩⟩
  · obtain ⟨rows, s3, ec3, e3, l3, p3⟩ := h3
    refine q H3 D s3 ⟨rows, e3, ?_⟩
    have e : falls (ns.take (ns.length - 1 + 1)) = falls ns := by rw [List.take_of_length_le (by omega)]
    rw [e] at p3
    exact Paired.mapP p3 fun r z h => h.1
end
end HSP
namespace HSP
open PySem PySem.Spec PyProof.Rows L2
/-! ## pairs as data -/
def pairsD (l : List (Int × Int)) : PyData := .list (l.map fun z => .tuple [.int z.1, .int z.2])
theorem pairs_can : ∀ l : List (Int × Int), PyData.canLayAll0 (l.map fun z => PyData.tuple [.int z.1, .int z.2]) = true
  | [] => by simp [PyData.canLayAll0]
  | z :: r => by
    have ih := pairs_can r
    simp only [List.map_cons, PyData.canLayAll0, PyData.canLay0, ih, Bool.and_self]
theorem pairs_deep : ∀ l : List (Int × Int), PyData.depthAll (l.map fun z => PyData.tuple [.int z.1, .int z.2]) ≤ 1
  | [] => by simp [PyData.depthAll]
  | z :: r => by
    have ih := pairs_deep r
    simp only [List.map_cons, PyData.depthAll, PyData.depth]
    omega
theorem pairs_shaped (l : List (Int × Int)) : SeqAt.shaped (pairsD l) = true := by
  unfold SeqAt.shaped pairsD
  have h1 := pairs_can l
  have h2 := pairs_deep l
  rw [Bool.and_eq_true]
  refine ⟨by simp only [PyData.canLay0]; exact h1, decide_eq_true ?_⟩
  simp only [PyData.depth]
  omega
theorem pairs_same (l : List (Int × Int)) : PyData.eqv (pairsD l) (pairsD l) = true := SeqAt.eqv_refl _ (by unfold pairsD; simp only [PyData.canLay0]; exact pairs_can l)
theorem PairsAt.dp {K : PySem.W.Frag} {H : Hp} {q : Addr} {l : List (Int × Int)} (h : PairsAt H q l) : Dp K H (.ref q) (pairsD l) := by
  obtain ⟨rows, e, p⟩ := h
  refine .lst (.of e) ?_
  clear e
  induction p with
  | nil => exact .nil
  | cons h t ih => exact .cons (.tup (.of h) (.cons (.int _) (.cons (.int _) .nil))) ih
theorem valAt_some {ns : List Int} {i : Nat} {y : Int} (h : ns[i]? = some y) : valAt ns i = y := by
  unfold valAt
  rw [List.getD_eq_getElem?_getD, h]
  rfl
section
variable {P : Program} {w : World} {K : PySem.W.Frag} {mg : Str → Option Value} {base : Heap}
theorem sc_law_right : FnScope n_law_right ["draws"] (defScope s_law_right) := ⟨rfl, rfl, rfl, by decide +kernel, rfl, by decide +kernel, by decide +kernel⟩
def spRight : Sp := fun vs H Q _ => ∃ (p : Addr) (k : Nat), vs = [.ref p] ∧ DrAt H p k ∧ k ≤ 1000 ∧ ∀ H' : Hp, Keep p H H' → DrAt H' p (k + 100) → Q (.bl true) H'
theorem ok_right (B : Bl mg) (N : Df P w K mg base "_law_next" 1 ["draws"] spNext) (T : Df P w K mg base "_law_tree" 22 ["draws", "room"] (spDraw 21)) (Z : Df P w K mg base "_law_size" 21 n_law_size (spSize 21)) (Va : Df P w K mg base "_law_values" 2 ["draws", "many"] spValues)
    (Pr : Df P w K mg base "_law_probes" 1 p_law_probes spProbes) (Fi : Df P w K mg base "_law_fits" 1 n_law_fits spFitsP) (Fa : Df P w K mg base "_law_falls" 1 ["values"] spFalls) (Fd : Df P w K mg base "find" 4 ["tree", "values", "twice"] spFind) (J : Ins P w K mg base)
    (a : At K mg "_law_right" s_law_right) : Df P w K mg base "_law_right" 23 ["draws"] spRight := by
  refine Df.mk' a sc_law_right (fun vs H Q E h => ?_) (fun _ _ _ _ _ _ us hl => match us, hl with | [_], _ => rfl) (fun f cdv A outer s H vs Q E hr h => ?_)
  · obtain ⟨p, k, rfl, _⟩ := h
    rfl
  obtain ⟨p, k, rfl, hd, hk, q⟩ := h
  refine ⟨_, (pss_cons (ps_set (i := 1) sc_law_right.nd rfl (.inl rfl) (pe_df T hr (pa_cons (pv 0) (pa_cons (pe_op op_mod (pe_callTy call_int1 (by rfl) B.int (by decide +kernel) (pa_cons (pe_df N (hr.mono (by decide)) (pa_cons (pv 0) pa_nil)) pa_nil)) pe_int) pa_nil))))
 (pss_cons (ps_set (i := 2) sc_law_right.nd rfl (.inl rfl) (pe_df Va (hr.mono (by decide)) (pa_cons (pv 0) (pa_cons (pe_df Z (hr.mono (by decide)) (pa_cons (pv 1) pa_nil)) pa_nil))))
 (pss_cons (ps_for PassesOwn.never rfl (pi_list (pe_df Pr (hr.mono (by decide)) (pa_cons (pv 2) pa_nil))) (pg_name (i := 3) sc_law_right.nd rfl (.inl rfl)) (pss_cons (ps_asg (pe_df Fd (hr.mono (by decide)) (pa_cons (pv 1) (pa_cons (pv 2) (pa_cons (pv 3) pa_nil)))) (pg_tup rfl (pgs_cons (pg_name (i := 4) sc_law_right.nd rfl (.inl rfl)) (pgs_cons (pg_name (i := 5) sc_law_right.nd rfl (.inl rfl)) pgs_nil))))
 (C8.pss_cut (ps_if (PW.pt (pw_and (pt_cmpR op_eq (pv 4) pe_str (nomark _)) (pw_and1 (pt_not (pt_val (pe_df Fi (hr.mono (by decide)) (pa_cons (pv 2) (pa_cons (pv 5) (pa_cons (pv 3) (pa_cons pe_int (pa_cons pe_int pa_nil))))))))))) (pss_one (ps_ret pe_bl)) pss_nil)
 (pss_cons (ps_set (i := 6) sc_law_right.nd rfl (.inl rfl) (pe_ins J (hr.mono (by decide)) (pa_cons (pv 1) (pa_cons (pv 2) (pa_cons (pv 3) pa_nil)))))
 (pss_cons (ps_set (i := 7) sc_law_right.nd rfl (.inl rfl) (pe_insK J (hr.mono (by decide)) (pa_cons (pv 1) (pa_cons (pv 2) (pa_cons (pv 3) pa_nil))) (pk_cons pe_str pk_nil)))
 (pss_cons (ps_if (PW.pt (pw_or (pt_not (pt_val (pe_df Fi (hr.mono (by decide)) (pa_cons (pv 2) (pa_cons (pv 6) (pa_cons (pv 3) (pa_cons pe_int (pa_cons pe_int pa_nil)))))))) (pw_or1 (pt_not (pt_val (pe_df Fi (hr.mono (by decide)) (pa_cons (pv 2) (pa_cons (pv 7) (pa_cons (pv 3) (pa_cons pe_int (pa_cons pe_int pa_nil))))))))))) (pss_one (ps_ret pe_bl)) pss_nil)
 (pss_one (ps_for PassesOwn.never rfl (pi_list (pe_op op_rep (pe_lst (pa_cons (pv 6) (pa_cons (pv 7) pa_nil))) (pe_callTy call_int1 (by rfl) B.int (by decide +kernel) (pa_cons (pe_cmpR op_eq (pe_op op_mod (pe_callTy call_int1 (by rfl) B.int (by decide +kernel) (pa_cons (pv 3) pa_nil)) pe_int) pe_int (nomark _)) pa_nil)))) (pg_name (i := 8) sc_law_right.nd rfl (.inl rfl)) (pss_cons (ps_set (i := 9) sc_law_right.nd rfl (.inl rfl) (pe_op op_cat (pe_op op_cat (pe_slice sl_list (pv 2) po_none (po_some (pv 8))) (pe_lst (pa_cons (pe_op op_fdiv (pv 3) pe_int) pa_nil))) (pe_slice sl_list (pv 2) (po_some (pv 8)) po_none)))
 (pss_one (ps_if (pt_cmpR (op_neD hr.units) (pe_df Fa (hr.mono (by decide)) (pa_cons (pv 9) pa_nil)) (pe_df Fa (hr.mono (by decide)) (pa_cons (pv 2) pa_nil)) (nomark _)) (pss_one (ps_ret pe_bl)) pss_nil)))))))))))
 (pss_one (ps_ret pe_bl))))), ?_⟩
  -- the tree, the values
  refine ⟨_, rfl, _, rfl, p, k, rfl, hd, by omega, fun H1 r1 kp1 d1 a1 a2 => .inl ⟨_, rfl, _, _, rfl, rfl, (by show (0 : Int) < 21; decide), ?_⟩⟩
  have m1 := Int.emod_nonneg r1 (show (21 : Int) ≠ 0 by decide)
  have m2 := Int.emod_lt_of_pos r1 (show (0 : Int) < 21 by decide)
  refine ⟨p, (r1 % 21).toNat, k + 1, congrArg (fun z => [V.ref p, V.int z]) (by omega : r1 % 21 = (((r1 % 21).toNat : Nat) : Int)), by omega, d1, by omega, fun H2 v t kp2 d2 ht hs => ?_⟩
  have t20 : t.size ≤ 20 := by omega
  refine ⟨_, rfl, v, rfl, v, t, rfl, ht, Nat.lt_of_le_of_lt t.ht_le (by omega), ?_⟩
  refine ⟨p, t.size, k + 1 + 2 * (r1 % 21).toNat, rfl, by omega, d2, by omega, fun H3 a ns kp3 d3 na ea la _ => ?_⟩
  have ht3 : TrAt H3 v t := d2.tree kp3 ht
  have kpA : Keep p H H3 := (kp1.trans kp2).trans kp3
  have n20 : ns.length ≤ 20 := by omega
  -- the numbers
  refine ⟨_, rfl, a, ns, rfl, ea, by omega, fun H4 u ps s4 eu hps _ hpl => ?_⟩
  refine ⟨u, rfl, ⟨_, .of eu⟩, for_list (xs := ps.map V.int) (fun i σ H' => ∃ y3 y4 y5 y6 y7 y8 y9, σ = [some (.ref p), some v, some (.ref a), y3, y4, y5, y6, y7, y8, y9] ∧ Same H4 H') ⟨_, _, _, _, _, _, _, rfl, Same.refl _⟩ (fun i σ H5 _ h5 => ?_) (fun i x σ H5 hx h5 => ?_) (fun σ H5 h5 => ?_)⟩
  · obtain ⟨_, _, _, _, _, _, _, _, s5⟩ := h5
    exact .of (s5 _ _ eu)
  · obtain ⟨y3, y4, y5, y6, y7, y8, y9, rfl, s5⟩ := h5
    rw [List.getElem?_map] at hx
    obtain ⟨tw, _, rfl⟩ := Option.map_eq_some_iff.mp hx
    have sA : Same H3 H5 := s4.trans s5
    -- kind, gap = find(..)
    refine ⟨v, rfl, _, rfl, _, rfl, v, t, a, ns, tw, rfl, ht3.same sA, by omega, sA _ _ ea, la, fun H6 e s6 en => ?_⟩
    refine ⟨e, _, rfl, .of en.2, rfl, _, _, rfl, _, [], rfl, rfl, ?_⟩
    have sB : Same H3 H6 := sA.trans s6
    refine ⟨fun σ' H' => σ' = [some (.ref p), some v, some (.ref a), some (.int tw), some (kindV (sEnd (valAt ns) tw .fin t 0).1), some (natV (sEnd (valAt ns) tw .fin t 0).2), y6, y7, y8, y9] ∧ H' = H6, ?_, ?_⟩
    · cases hb : (sEnd (valAt ns) tw .fin t 0).1 with
      | true =>
        refine ⟨_, rfl, rfl, _, rfl, ite_no (by decide +kernel) (iteF ⟨?_, rfl⟩)⟩
        rfl
      | false =>
        have ft := sEnd_fits (valAt ns) tw .fin t 0 hb
        refine ⟨_, rfl, rfl, _, rfl, ite_yes rfl ?_⟩
        refine ⟨_, rfl, _, rfl, _, rfl, a, ns, _, tw, 0, 0, rfl, sB _ _ ea, by have := ft.hi; omega, fun h0 => ?_, fun h0 => ?_, true, rfl, iteF ⟨rfl, rfl⟩⟩
        · rcases ft.before h0 with z | ⟨_, z⟩
          · omega
          · cases z
        · rcases ft.behind (by omega) with z | ⟨_, z⟩
          · omega
          · cases z
    · rintro σ' H' ⟨rfl, rfl⟩
      -- left, right
      refine ⟨v, rfl, _, rfl, _, rfl, v, t, a, ns, tw, .lft, rfl, ht3.same sB, by omega, sB _ _ ea, la, fun H7 s7 => ?_⟩
      have sC := sB.trans s7
      refine ⟨v, rfl, _, rfl, _, rfl, rfl, rfl, v, t, a, ns, tw, .rgt, rfl, ht3.same sC, by omega, sC _ _ ea, la, fun H8 s8 => ?_⟩
      have sD := sC.trans s8
      have fl := place_fits ns tw .lft t
      have fr := place_fits ns tw .rgt t
      refine ⟨_, rfl, _, rfl, _, rfl, a, ns, _, tw, 0, 1, rfl, sD _ _ ea, by have := fl.hi; omega, fun h0 => ?_, fun h0 => ?_, true, rfl, iteF ?_⟩
      · rcases fl.before h0 with z | ⟨_, z⟩
        · omega
        · cases z
      · rcases fl.behind (by omega) with z | ⟨z, _⟩ <;> omega
      refine ⟨_, rfl, _, rfl, _, rfl, a, ns, _, tw, 1, 0, rfl, sD _ _ ea, by have := fr.hi; omega, fun h0 => ?_, fun h0 => ?_, true, rfl, iteF ?_⟩
      · rcases fr.before h0 with z | ⟨z, _⟩ <;> omega
      · rcases fr.behind (by omega) with z | ⟨_, z⟩
        · omega
        · cases z
      refine ⟨_, rfl, _, rfl, (by show 2 ≤ sizeLine; decide), fun L hL => ?_⟩
      refine ⟨_, rfl, .inl ⟨_, rfl, _, _, rfl, rfl, (by show (0 : Int) < 2; decide), rfl, .inr ⟨_, rfl, ?_⟩⟩⟩
      refine ⟨L, _, [natV (place ns tw .lft t), natV (place ns tw .rgt t)], rfl, rfl, upd_same, ?_, ?_, ?_, fun M hM => ?_⟩
      · split <;> decide
      · split <;> decide
      · split <;> (show 2 * _ ≤ sizeLine; decide)
      have items : ∀ x, x ∈ (List.replicate (if decide (V.int (tw % 2) = V.int 0) = true then (1 : Int) else 0).toNat [natV (place ns tw .lft t), natV (place ns tw .rgt t)]).flatten → ∃ d, x = natV (place ns tw d t) ∧ tw % 2 = 0 := fun x hx => by
        by_cases c : tw % 2 = 0
        · rw [if_pos (decide_eq_true (congrArg V.int c))] at hx
          have hx2 : x ∈ [natV (place ns tw .lft t), natV (place ns tw .rgt t)] := by
            have e1 : (List.replicate (1 : Int).toNat [natV (place ns tw .lft t), natV (place ns tw .rgt t)]).flatten = [natV (place ns tw .lft t), natV (place ns tw .rgt t)] := rfl
            rw [← e1]
            exact hx
          rcases List.mem_cons.mp hx2 with z | z
          · exact ⟨.lft, z, c⟩
          · exact ⟨.rgt, List.mem_singleton.mp z, c⟩
        · rw [if_neg (fun z => c (V.int.inj (of_decide_eq_true z)))] at hx
          cases hx
      have sE : Same H3 (upd (upd H8 L (.lst [natV (place ns tw .lft t), natV (place ns tw .rgt t)])) M (.lst (List.replicate (if decide (V.int (tw % 2) = V.int 0) = true then (1 : Int) else 0).toNat [natV (place ns tw .lft t), natV (place ns tw .rgt t)]).flatten)) := sD.trans ((Same.new hL).trans (Same.new hM))
      have sE5 : Same H5 (upd (upd H8 L (.lst [natV (place ns tw .lft t), natV (place ns tw .rgt t)])) M (.lst (List.replicate (if decide (V.int (tw % 2) = V.int 0) = true then (1 : Int) else 0).toNat [natV (place ns tw .lft t), natV (place ns tw .rgt t)]).flatten)) := (s6.trans (s7.trans s8)).trans ((Same.new hL).trans (Same.new hM))
      have eM : (upd (upd H8 L (.lst [natV (place ns tw .lft t), natV (place ns tw .rgt t)])) M (.lst (List.replicate (if decide (V.int (tw % 2) = V.int 0) = true then (1 : Int) else 0).toNat [natV (place ns tw .lft t), natV (place ns tw .rgt t)]).flatten)) M = some (.lst (List.replicate (if decide (V.int (tw % 2) = V.int 0) = true then (1 : Int) else 0).toNat [natV (place ns tw .lft t), natV (place ns tw .rgt t)]).flatten) := upd_same
      generalize (List.replicate (if decide (V.int (tw % 2) = V.int 0) = true then (1 : Int) else 0).toNat [natV (place ns tw .lft t), natV (place ns tw .rgt t)]).flatten = xs at items sE sE5 eM ⊢
      generalize upd (upd H8 L (.lst [natV (place ns tw .lft t), natV (place ns tw .rgt t)])) M (.lst xs) = H9 at sE sE5 eM ⊢
      refine ⟨M, rfl, ⟨_, .of eM⟩, for_list (xs := xs) (fun i σ H' => ∃ y8 y9, σ = [some (.ref p), some v, some (.ref a), some (.int tw), some (kindV (sEnd (valAt ns) tw .fin t 0).1), some (natV (sEnd (valAt ns) tw .fin t 0).2), some (natV (place ns tw .lft t)), some (natV (place ns tw .rgt t)), y8, y9] ∧ Same H9 H') ⟨_, _, rfl, Same.refl _⟩ (fun i σ Ha _ ha => ?_) (fun i x σ Ha hx ha => ?_) (fun σ Ha ha => ?_)⟩
      · obtain ⟨_, _, _, sa⟩ := ha
        exact .of (sa _ _ eM)
      · obtain ⟨y8, y9, rfl, sa⟩ := ha
        obtain ⟨d, rfl, ev⟩ := items x (List.mem_of_getElem? hx)
        have sF : Same H3 Ha := sE.trans sa
        have fd := place_fits ns tw d t
        have gl : place ns tw d t ≤ ns.length := by have := fd.hi; omega
        generalize place ns tw d t = g at fd gl
        have e1 : cutV (ns.map V.int) none (some (g : Int)) = (ns.take g).map V.int := by rw [cut_to, List.map_take]
        have e2 : cutV (ns.map V.int) (some (g : Int)) none = (ns.drop g).map V.int := by rw [cut_from, List.map_drop]
        refine ⟨_, rfl, _, rfl, _, rfl, a, _, rfl, .of (sF _ _ ea), fun c1 hc1 => ?_⟩
        rw [e1]
        have s1 := Same.new (o := .lst ((ns.take g).map V.int)) hc1
        refine ⟨_, rfl, _, _, rfl, rfl, ⟨by decide, by decide⟩, (by show 1 ≤ sizeLine; decide), fun c2 hc2 => ?_⟩
        have s2 := Same.new (o := .lst [V.int (tw / 2)]) hc2
        refine ⟨c1, c2, _, _, rfl, rfl, s2 _ _ upd_same, upd_same, ?_, fun c3 hc3 => ?_⟩
        · rw [List.length_map, List.length_take]
          show min g ns.length + 1 ≤ sizeLine
          exact Nat.le_of_lt (small1000 (by omega))
        have s3 := Same.new (o := .lst ((ns.take g).map V.int ++ [V.int (tw / 2)])) hc3
        have sG := sF.trans (s1.trans (s2.trans s3))
        refine ⟨_, rfl, _, rfl, _, rfl, a, _, rfl, .of (sG _ _ ea), fun c4 hc4 => ?_⟩
        rw [e2]
        have s4 := Same.new (o := .lst ((ns.drop g).map V.int)) hc4
        refine ⟨c3, c4, _, _, rfl, rfl, s4 _ _ upd_same, upd_same, ?_, fun c5 hc5 => ?_⟩
        · rw [List.length_append, List.length_map, List.length_map, List.length_take, List.length_drop]
          show min g ns.length + 1 + (ns.length - g) ≤ sizeLine
          exact Nat.le_of_lt (small1000 (by omega))
        have e3 : ((ns.take g).map V.int ++ [V.int (tw / 2)] ++ (ns.drop g).map V.int) = (ns.take g ++ (tw / 2) :: ns.drop g).map V.int := by
          rw [List.map_append, List.map_cons, List.append_assoc]
          rfl
        rw [e3]
        have s5 := Same.new (o := .lst ((ns.take g ++ (tw / 2) :: ns.drop g).map V.int)) hc5
        have sH := sG.trans (s4.trans s5)
        refine ⟨_, rfl, c5, _, rfl, upd_same, ?_, fun Hb q1 sb pb => ?_⟩
        · rw [List.length_append, List.length_cons, List.length_take, List.length_drop]
          omega
        refine ⟨_, rfl, a, ns, rfl, sb _ _ (sH _ _ ea), by omega, fun Hc q2 sc pc => ?_⟩
        have ef : falls (ns.take g ++ (tw / 2) :: ns.drop g) = falls ns := falls_put ns g (tw / 2) gl (fun y hy h0 => ?_) (fun y hy => ?_)
        · rw [ef] at pb
          refine ⟨_, _, (pb.same sc).dp, pc.dp, pairs_shaped _, pairs_shaped _, _, rfl, ?_⟩
          rw [pairs_same]
          refine iteF ⟨_, _, rfl, fun b o e => sc _ _ (sb _ _ ?_)⟩
          exact s5 _ _ (s4 _ _ (s3 _ _ (s2 _ _ (s1 _ _ (sa _ _ e)))))
        · have := valAt_some hy
          rcases fd.before h0 with z | ⟨z, _⟩ <;> omega
        · have h1 := valAt_some hy
          have h2 := (List.getElem?_eq_some_iff.mp hy).1
          rcases fd.behind (by omega) with z | ⟨z, _⟩ <;> omega
      · obtain ⟨y8, y9, rfl, sa⟩ := ha
        exact ⟨_, _, _, _, _, _, _, rfl, fun b o e => sa _ _ (sE5 _ _ (s5 _ _ e))⟩
  · obtain ⟨_, _, _, _, _, _, _, _, s5⟩ := h5
    exact q H5 (kpA.trans (Keep.of (s4.trans s5))) ((d3.mono (by omega)).same (s4.trans s5))
end
end HSP
namespace HSP
open PySem PySem.Spec PyProof.Rows L2
section
variable {P : Program} {w : World} {K : PySem.W.Frag} {mg : Str → Option Value} {base : Heap}
/-! ### law -/
theorem sc_law : FnScope n_law ["script"] (defScope s_law) := ⟨rfl, rfl, rfl, by decide +kernel, rfl, by decide +kernel, by decide +kernel⟩
def spLaw (K : PySem.W.Frag) : Sp := fun vs H Q _ => ∃ (a : Addr) (ns : List Int), vs = [.ref a] ∧ SqL K H a (ns.map V.int) ∧ ns.length ≤ 63 ∧ ∀ H', Q (.bl true) H'
theorem ok_law {f : Addr} {fd : FuncData} (B : Bl mg) (F : Fun K "law" "law" s_law f fd) (D : Df P w K mg base "_law_draws" 1 ["cell"] spDraws) (R : Df P w K mg base "_law_right" 23 ["draws"] spRight) : FnOk P w K mg base CX0 24 f fd ["script"] (spLaw K) := by
  refine F.ok sc_law (fun vs H Q E h => ?_) (fun cdv A outer s H vs Q E hr h => ?_)
  · obtain ⟨a, ns, rfl, _⟩ := h
    rfl
  obtain ⟨a, ns, rfl, hS, h63, q⟩ := h
  refine ⟨_, (pss_cons (ps_for PassesOwn.never rfl (pi_list (pe_op op_cat (pe_slice sl_list (pv 0) po_none (po_some pe_int)) (pe_lst (pa_cons pe_int pa_nil)))) (pg_name (i := 1) sc_law.nd rfl (.inl rfl)) (pss_cons (ps_set (i := 2) sc_law.nd rfl (.inl rfl) (pe_df D (hr.mono (by decide)) (pa_cons (pv 1) pa_nil)))
 (pss_one (ps_for PassesOwn.never rfl (pi_range1 (by rfl) B.range (pa_cons pe_int pa_nil)) (pg_name (i := 3) sc_law.nd rfl (.inl rfl)) (pss_one (ps_if (pt_not (pt_val (pe_df R hr (pa_cons (pv 2) pa_nil)))) (pss_one (ps_ret pe_bl)) pss_nil))))))
 (pss_one (ps_ret pe_bl))), ?_⟩
  refine ⟨_, rfl, 6, rfl, a, _, rfl, hS, fun c1 hc1 => ?_⟩
  refine ⟨(by show 1 ≤ sizeLine; decide), fun c2 hc2 => ?_⟩
  have s1 := Same.new (o := .lst (cutV (ns.map V.int) none (some 6))) hc1
  have s2 := Same.new (o := .lst [V.int 0]) hc2
  refine ⟨c1, c2, _, _, rfl, rfl, s2 _ _ upd_same, upd_same, ?_, fun C hC => ?_⟩
  · have z := cutV_length (ns.map V.int) none (some 6)
    rw [List.length_map] at z
    show _ + 1 ≤ sizeLine
    exact Nat.le_of_lt (small1000 (by omega))
  have cells : ∀ x, x ∈ cutV (ns.map V.int) none (some 6) ++ [V.int 0] → ∃ z, x = V.int z := fun x hx => by
    rcases List.mem_append.mp hx with hx | hx
    · have h1 := List.mem_of_mem_take hx
      have h2 := List.mem_of_mem_drop h1
      obtain ⟨z, _, rfl⟩ := List.mem_map.mp h2
      exact ⟨z, rfl⟩
    · exact ⟨0, List.mem_singleton.mp hx⟩
  have eC : (upd (upd (upd H c1 (.lst (cutV (ns.map V.int) none (some 6)))) c2 (.lst [V.int 0])) C (.lst (cutV (ns.map V.int) none (some 6) ++ [V.int 0]))) C = some (.lst (cutV (ns.map V.int) none (some 6) ++ [V.int 0])) := upd_same
  generalize cutV (ns.map V.int) none (some 6) ++ [V.int 0] = xs at cells eC ⊢
  generalize upd (upd (upd H c1 (.lst (cutV (ns.map V.int) none (some 6)))) c2 (.lst [V.int 0])) C (.lst xs) = H1 at eC ⊢
  refine ⟨C, rfl, ⟨_, .of eC⟩, for_list (xs := xs) (fun i σ H' => ∃ y0 y1 y2 y3, σ = [y0, y1, y2, y3] ∧ H' C = some (.lst xs)) ⟨_, _, _, _, rfl, eC⟩ (fun i σ H2 _ h2 => ?_) (fun i x σ H2 hx h2 => ?_) (fun σ H2 _ => q H2)⟩
  · obtain ⟨_, _, _, _, _, e2⟩ := h2
    exact .of e2
  · obtain ⟨y0, y1, y2, y3, rfl, e2⟩ := h2
    obtain ⟨z, rfl⟩ := cells x (List.mem_of_getElem? hx)
    refine ⟨_, rfl, z, rfl, fun H3 p s3 np d3 => ?_⟩
    have nC : C ≠ p := ne_of_none e2 np
    refine ⟨2, rfl, by decide, by decide, ?_⟩
    refine for_range (lo := 0) (n := 2) (fun j σ H' => ∃ y0 y1 y3, σ = [y0, y1, some (.ref p), y3] ∧ H' C = some (.lst xs) ∧ DrAt H' p (100 * j)) ⟨_, _, _, rfl, s3 _ _ e2, d3⟩ (fun j σ H4 hj h4 => ?_) (fun σ H4 h4 => ?_)
    · obtain ⟨y0, y1, y3, rfl, e4, d4⟩ := h4
      refine ⟨_, rfl, p, 100 * j, rfl, d4, by omega, fun H5 k5 d5 => ⟨true, rfl, iteF ?_⟩⟩
      exact ⟨_, _, _, rfl, k5 C _ nC e4, d5.mono (by omega)⟩
    · obtain ⟨y0, y1, y3, rfl, e4, _⟩ := h4
      exact ⟨_, _, _, _, rfl, e4⟩
end
/-! ## what the top has written -/
theorem all_mk {l : PySem.W.OpenLaw} {w : World} {K : PySem.W.Frag} {h : Heap} {mg : Str → Option Value} {fa : Addr} (X : K.In h) (G : h.Ns mainGlobals mg) (hfa : mg "law" = some (.ref fa))
    {f1 : Addr} {od1 an1 : Option Addr} {sl1 : Array (Option Value)} {oc1 kV1 dc1 pm1 cd1 ct1 : Value}
    (a1 : PySem.W.nsIn K mainGlobals "is_whole" = some (some (.ref f1))) (l1 : K.lookup f1 = some ⟨oc1, od1, .func (PySem.W.fnOf "is_whole" "is_whole" (defArgs s_is_whole) (defBody s_is_whole) (defScope s_is_whole) .none kV1 dc1 pm1 an1 cd1 ct1), sl1⟩) (c1 : PySem.W.codeIn K cd1 "is_whole" = true) (k1 : PySem.W.keepIn K (.ref f1) = true)
    {f2 : Addr} {od2 an2 : Option Addr} {sl2 : Array (Option Value)} {oc2 kV2 dc2 pm2 cd2 ct2 : Value}
    (a2 : PySem.W.nsIn K mainGlobals "is_tree" = some (some (.ref f2))) (l2 : K.lookup f2 = some ⟨oc2, od2, .func (PySem.W.fnOf "is_tree" "is_tree" (defArgs s_is_tree) (defBody s_is_tree) (defScope s_is_tree) .none kV2 dc2 pm2 an2 cd2 ct2), sl2⟩) (c2 : PySem.W.codeIn K cd2 "is_tree" = true) (k2 : PySem.W.keepIn K (.ref f2) = true)
    {f3 : Addr} {od3 an3 : Option Addr} {sl3 : Array (Option Value)} {oc3 kV3 dc3 pm3 cd3 ct3 : Value}
    (a3 : PySem.W.nsIn K mainGlobals "count_nodes" = some (some (.ref f3))) (l3 : K.lookup f3 = some ⟨oc3, od3, .func (PySem.W.fnOf "count_nodes" "count_nodes" (defArgs s_count_nodes) (defBody s_count_nodes) (defScope s_count_nodes) .none kV3 dc3 pm3 an3 cd3 ct3), sl3⟩) (c3 : PySem.W.codeIn K cd3 "count_nodes" = true) (k3 : PySem.W.keepIn K (.ref f3) = true)
    {f4 : Addr} {od4 an4 : Option Addr} {sl4 : Array (Option Value)} {oc4 kV4 dc4 pm4 cd4 ct4 : Value}
    (a4 : PySem.W.nsIn K mainGlobals "check_tree" = some (some (.ref f4))) (l4 : K.lookup f4 = some ⟨oc4, od4, .func (PySem.W.fnOf "check_tree" "check_tree" (defArgs s_check_tree) (defBody s_check_tree) (defScope s_check_tree) .none kV4 dc4 pm4 an4 cd4 ct4), sl4⟩) (c4 : PySem.W.codeIn K cd4 "check_tree" = true) (k4 : PySem.W.keepIn K (.ref f4) = true)
    {f5 : Addr} {od5 an5 : Option Addr} {sl5 : Array (Option Value)} {oc5 kV5 dc5 pm5 cd5 ct5 : Value}
    (a5 : PySem.W.nsIn K mainGlobals "check_row" = some (some (.ref f5))) (l5 : K.lookup f5 = some ⟨oc5, od5, .func (PySem.W.fnOf "check_row" "check_row" (defArgs s_check_row) (defBody s_check_row) (defScope s_check_row) .none kV5 dc5 pm5 an5 cd5 ct5), sl5⟩) (c5 : PySem.W.codeIn K cd5 "check_row" = true) (k5 : PySem.W.keepIn K (.ref f5) = true)
    {f6 : Addr} {od6 an6 : Option Addr} {sl6 : Array (Option Value)} {oc6 kV6 dc6 pm6 cd6 ct6 : Value}
    (a6 : PySem.W.nsIn K mainGlobals "check_values" = some (some (.ref f6))) (l6 : K.lookup f6 = some ⟨oc6, od6, .func (PySem.W.fnOf "check_values" "check_values" (defArgs s_check_values) (defBody s_check_values) (defScope s_check_values) .none kV6 dc6 pm6 an6 cd6 ct6), sl6⟩) (c6 : PySem.W.codeIn K cd6 "check_values" = true) (k6 : PySem.W.keepIn K (.ref f6) = true)
    {f7 : Addr} {od7 an7 : Option Addr} {sl7 : Array (Option Value)} {oc7 kV7 dc7 pm7 cd7 ct7 : Value}
    (a7 : PySem.W.nsIn K mainGlobals "turn" = some (some (.ref f7))) (l7 : K.lookup f7 = some ⟨oc7, od7, .func (PySem.W.fnOf "turn" "turn" (defArgs s_turn) (defBody s_turn) (defScope s_turn) .none kV7 dc7 pm7 an7 cd7 ct7), sl7⟩) (c7 : PySem.W.codeIn K cd7 "turn" = true) (k7 : PySem.W.keepIn K (.ref f7) = true)
    {f8 : Addr} {od8 an8 : Option Addr} {sl8 : Array (Option Value)} {oc8 kV8 dc8 pm8 cd8 ct8 : Value}
    (a8 : PySem.W.nsIn K mainGlobals "search" = some (some (.ref f8))) (l8 : K.lookup f8 = some ⟨oc8, od8, .func (PySem.W.fnOf "search" "search" (defArgs s_search) (defBody s_search) (defScope s_search) .none kV8 dc8 pm8 an8 cd8 ct8), sl8⟩) (c8 : PySem.W.codeIn K cd8 "search" = true) (k8 : PySem.W.keepIn K (.ref f8) = true)
    {f9 : Addr} {od9 an9 : Option Addr} {sl9 : Array (Option Value)} {oc9 kV9 dc9 pm9 cd9 ct9 : Value}
    (a9 : PySem.W.nsIn K mainGlobals "find" = some (some (.ref f9))) (l9 : K.lookup f9 = some ⟨oc9, od9, .func (PySem.W.fnOf "find" "find" (defArgs s_find) (defBody s_find) (defScope s_find) .none kV9 dc9 pm9 an9 cd9 ct9), sl9⟩) (c9 : PySem.W.codeIn K cd9 "find" = true) (k9 : PySem.W.keepIn K (.ref f9) = true)
    {f10 D10 : Addr} {od10 an10 : Option Addr} {sl10 : Array (Option Value)} {oc10 dc10 pm10 cd10 ct10 u10 : Value}
    (a10 : PySem.W.nsIn K mainGlobals "insertion" = some (some (.ref f10))) (l10 : K.lookup f10 = some ⟨oc10, od10, .func (PySem.W.fnOf "insertion" "insertion" (defArgs s_insertion) (defBody s_insertion) (defScope s_insertion) .none (.ref D10) dc10 pm10 an10 cd10 ct10), sl10⟩) (c10 : PySem.W.codeIn K cd10 "insertion" = true) (k10 : PySem.W.keepIn K (.ref f10) = true)
    (d10 : PySem.W.nsIn K D10 "side" = some (some u10)) (r10 : ∃ t, u10 = .str "left" t)
    {f11 : Addr} {od11 an11 : Option Addr} {sl11 : Array (Option Value)} {oc11 kV11 dc11 pm11 cd11 ct11 : Value}
    (a11 : PySem.W.nsIn K mainGlobals "_law_draws" = some (some (.ref f11))) (l11 : K.lookup f11 = some ⟨oc11, od11, .func (PySem.W.fnOf "_law_draws" "_law_draws" (defArgs s_law_draws) (defBody s_law_draws) (defScope s_law_draws) .none kV11 dc11 pm11 an11 cd11 ct11), sl11⟩) (c11 : PySem.W.codeIn K cd11 "_law_draws" = true) (k11 : PySem.W.keepIn K (.ref f11) = true)
    {f12 : Addr} {od12 an12 : Option Addr} {sl12 : Array (Option Value)} {oc12 kV12 dc12 pm12 cd12 ct12 : Value}
    (a12 : PySem.W.nsIn K mainGlobals "_law_next" = some (some (.ref f12))) (l12 : K.lookup f12 = some ⟨oc12, od12, .func (PySem.W.fnOf "_law_next" "_law_next" (defArgs s_law_next) (defBody s_law_next) (defScope s_law_next) .none kV12 dc12 pm12 an12 cd12 ct12), sl12⟩) (c12 : PySem.W.codeIn K cd12 "_law_next" = true) (k12 : PySem.W.keepIn K (.ref f12) = true)
    {f13 : Addr} {od13 an13 : Option Addr} {sl13 : Array (Option Value)} {oc13 kV13 dc13 pm13 cd13 ct13 : Value}
    (a13 : PySem.W.nsIn K mainGlobals "_law_size" = some (some (.ref f13))) (l13 : K.lookup f13 = some ⟨oc13, od13, .func (PySem.W.fnOf "_law_size" "_law_size" (defArgs s_law_size) (defBody s_law_size) (defScope s_law_size) .none kV13 dc13 pm13 an13 cd13 ct13), sl13⟩) (c13 : PySem.W.codeIn K cd13 "_law_size" = true) (k13 : PySem.W.keepIn K (.ref f13) = true)
    {f14 : Addr} {od14 an14 : Option Addr} {sl14 : Array (Option Value)} {oc14 kV14 dc14 pm14 cd14 ct14 : Value}
    (a14 : PySem.W.nsIn K mainGlobals "_law_tree" = some (some (.ref f14))) (l14 : K.lookup f14 = some ⟨oc14, od14, .func (PySem.W.fnOf "_law_tree" "_law_tree" (defArgs s_law_tree) (defBody s_law_tree) (defScope s_law_tree) .none kV14 dc14 pm14 an14 cd14 ct14), sl14⟩) (c14 : PySem.W.codeIn K cd14 "_law_tree" = true) (k14 : PySem.W.keepIn K (.ref f14) = true)
    {f15 : Addr} {od15 an15 : Option Addr} {sl15 : Array (Option Value)} {oc15 kV15 dc15 pm15 cd15 ct15 : Value}
    (a15 : PySem.W.nsIn K mainGlobals "_law_values" = some (some (.ref f15))) (l15 : K.lookup f15 = some ⟨oc15, od15, .func (PySem.W.fnOf "_law_values" "_law_values" (defArgs s_law_values) (defBody s_law_values) (defScope s_law_values) .none kV15 dc15 pm15 an15 cd15 ct15), sl15⟩) (c15 : PySem.W.codeIn K cd15 "_law_values" = true) (k15 : PySem.W.keepIn K (.ref f15) = true)
    {f16 : Addr} {od16 an16 : Option Addr} {sl16 : Array (Option Value)} {oc16 kV16 dc16 pm16 cd16 ct16 : Value}
    (a16 : PySem.W.nsIn K mainGlobals "_law_probes" = some (some (.ref f16))) (l16 : K.lookup f16 = some ⟨oc16, od16, .func (PySem.W.fnOf "_law_probes" "_law_probes" (defArgs s_law_probes) (defBody s_law_probes) (defScope s_law_probes) .none kV16 dc16 pm16 an16 cd16 ct16), sl16⟩) (c16 : PySem.W.codeIn K cd16 "_law_probes" = true) (k16 : PySem.W.keepIn K (.ref f16) = true)
    {f17 : Addr} {od17 an17 : Option Addr} {sl17 : Array (Option Value)} {oc17 kV17 dc17 pm17 cd17 ct17 : Value}
    (a17 : PySem.W.nsIn K mainGlobals "_law_fits" = some (some (.ref f17))) (l17 : K.lookup f17 = some ⟨oc17, od17, .func (PySem.W.fnOf "_law_fits" "_law_fits" (defArgs s_law_fits) (defBody s_law_fits) (defScope s_law_fits) .none kV17 dc17 pm17 an17 cd17 ct17), sl17⟩) (c17 : PySem.W.codeIn K cd17 "_law_fits" = true) (k17 : PySem.W.keepIn K (.ref f17) = true)
    {f18 : Addr} {od18 an18 : Option Addr} {sl18 : Array (Option Value)} {oc18 kV18 dc18 pm18 cd18 ct18 : Value}
    (a18 : PySem.W.nsIn K mainGlobals "_law_falls" = some (some (.ref f18))) (l18 : K.lookup f18 = some ⟨oc18, od18, .func (PySem.W.fnOf "_law_falls" "_law_falls" (defArgs s_law_falls) (defBody s_law_falls) (defScope s_law_falls) .none kV18 dc18 pm18 an18 cd18 ct18), sl18⟩) (c18 : PySem.W.codeIn K cd18 "_law_falls" = true) (k18 : PySem.W.keepIn K (.ref f18) = true)
    {f19 : Addr} {od19 an19 : Option Addr} {sl19 : Array (Option Value)} {oc19 kV19 dc19 pm19 cd19 ct19 : Value}
    (a19 : PySem.W.nsIn K mainGlobals "_law_right" = some (some (.ref f19))) (l19 : K.lookup f19 = some ⟨oc19, od19, .func (PySem.W.fnOf "_law_right" "_law_right" (defArgs s_law_right) (defBody s_law_right) (defScope s_law_right) .none kV19 dc19 pm19 an19 cd19 ct19), sl19⟩) (c19 : PySem.W.codeIn K cd19 "_law_right" = true) (k19 : PySem.W.keepIn K (.ref f19) = true)
    {f20 : Addr} {od20 an20 : Option Addr} {sl20 : Array (Option Value)} {oc20 kV20 dc20 pm20 cd20 ct20 : Value}
    (a20 : PySem.W.nsIn K mainGlobals "law" = some (some (.ref f20))) (l20 : K.lookup f20 = some ⟨oc20, od20, .func (PySem.W.fnOf "law" "law" (defArgs s_law) (defBody s_law) (defScope s_law) .none kV20 dc20 pm20 an20 cd20 ct20), sl20⟩) (c20 : PySem.W.codeIn K cd20 "law" = true) (k20 : PySem.W.keepIn K (.ref f20) = true)
    (z0 : PySem.W.nsIn K mainGlobals "isinstance" = some none)
    (z1 : PySem.W.nsIn K mainGlobals "int" = some none)
    (z2 : PySem.W.nsIn K mainGlobals "bool" = some none)
    (z3 : PySem.W.nsIn K mainGlobals "tuple" = some none)
    (z4 : PySem.W.nsIn K mainGlobals "list" = some none)
    (z5 : PySem.W.nsIn K mainGlobals "str" = some none)
    (z6 : PySem.W.nsIn K mainGlobals "len" = some none)
    (z7 : PySem.W.nsIn K mainGlobals "range" = some none)
    (z8 : PySem.W.nsIn K mainGlobals "enumerate" = some none)
    (z9 : PySem.W.nsIn K mainGlobals "sorted" = some none)
    (z10 : PySem.W.nsIn K mainGlobals "set" = some none)
    (z11 : PySem.W.nsIn K mainGlobals "sum" = some none)
    (z12 : PySem.W.nsIn K mainGlobals "max" = some none)
    (z13 : PySem.W.nsIn K mainGlobals "abs" = some none)
    (z14 : PySem.W.nsIn K mainGlobals "zip" = some none)
    (z15 : PySem.W.nsIn K mainGlobals "min" = some none)
    : ∃ fd : FuncData, (∀ (s : Shared) (v : Value), BindsTo s fd ⟨[v], []⟩ [("script", v)]) ∧ ∀ base : Heap, K.In base → base.Ns mainGlobals mg → FnOk l.prog w K mg base CX0 24 fa fd ["script"] (spLaw K) := by
  cases hfa.symm.trans (PySem.W.mg_of X G a20)
  have B : Bl mg := ⟨PySem.W.mg_none_of X G z0, PySem.W.mg_none_of X G z1, PySem.W.mg_none_of X G z2, PySem.W.mg_none_of X G z3, PySem.W.mg_none_of X G z4, PySem.W.mg_none_of X G z5, PySem.W.mg_none_of X G z6, PySem.W.mg_none_of X G z7, PySem.W.mg_none_of X G z8, PySem.W.mg_none_of X G z9, PySem.W.mg_none_of X G z10, PySem.W.mg_none_of X G z11, PySem.W.mg_none_of X G z12, PySem.W.mg_none_of X G z13, PySem.W.mg_none_of X G z14, PySem.W.mg_none_of X G z15⟩
  have A1 : At K mg "is_whole" s_is_whole := ⟨_, _, PySem.W.mg_of X G a1, fun_mk l1 c1 k1⟩
  have A2 : At K mg "is_tree" s_is_tree := ⟨_, _, PySem.W.mg_of X G a2, fun_mk l2 c2 k2⟩
  have A3 : At K mg "count_nodes" s_count_nodes := ⟨_, _, PySem.W.mg_of X G a3, fun_mk l3 c3 k3⟩
  have A4 : At K mg "check_tree" s_check_tree := ⟨_, _, PySem.W.mg_of X G a4, fun_mk l4 c4 k4⟩
  have A5 : At K mg "check_row" s_check_row := ⟨_, _, PySem.W.mg_of X G a5, fun_mk l5 c5 k5⟩
  have A6 : At K mg "check_values" s_check_values := ⟨_, _, PySem.W.mg_of X G a6, fun_mk l6 c6 k6⟩
  have A7 : At K mg "turn" s_turn := ⟨_, _, PySem.W.mg_of X G a7, fun_mk l7 c7 k7⟩
  have A8 : At K mg "search" s_search := ⟨_, _, PySem.W.mg_of X G a8, fun_mk l8 c8 k8⟩
  have A9 : At K mg "find" s_find := ⟨_, _, PySem.W.mg_of X G a9, fun_mk l9 c9 k9⟩
  have A10 : AtI K mg := ⟨_, _, PySem.W.mg_of X G a10, ⟨⟨_, _, _, _, _, _, _, _, _, _, rfl, l10, c10, .inl ⟨rfl, rfl⟩, .inr ⟨D10, rfl, fun q hq => by cases List.mem_singleton.mp hq; exact ⟨u10, d10, r10⟩⟩⟩, k10⟩⟩
  have A11 : At K mg "_law_draws" s_law_draws := ⟨_, _, PySem.W.mg_of X G a11, fun_mk l11 c11 k11⟩
  have A12 : At K mg "_law_next" s_law_next := ⟨_, _, PySem.W.mg_of X G a12, fun_mk l12 c12 k12⟩
  have A13 : At K mg "_law_size" s_law_size := ⟨_, _, PySem.W.mg_of X G a13, fun_mk l13 c13 k13⟩
  have A14 : At K mg "_law_tree" s_law_tree := ⟨_, _, PySem.W.mg_of X G a14, fun_mk l14 c14 k14⟩
  have A15 : At K mg "_law_values" s_law_values := ⟨_, _, PySem.W.mg_of X G a15, fun_mk l15 c15 k15⟩
  have A16 : At K mg "_law_probes" s_law_probes := ⟨_, _, PySem.W.mg_of X G a16, fun_mk l16 c16 k16⟩
  have A17 : At K mg "_law_fits" s_law_fits := ⟨_, _, PySem.W.mg_of X G a17, fun_mk l17 c17 k17⟩
  have A18 : At K mg "_law_falls" s_law_falls := ⟨_, _, PySem.W.mg_of X G a18, fun_mk l18 c18 k18⟩
  have A19 : At K mg "_law_right" s_law_right := ⟨_, _, PySem.W.mg_of X G a19, fun_mk l19 c19 k19⟩
  refine ⟨PySem.W.fnOf "law" "law" (defArgs s_law) (defBody s_law) (defScope s_law) .none kV20 dc20 pm20 an20 cd20 ct20, fun s v => .of_eq rfl, fun base _ _ => ?_⟩
  have Wh := ok_whole (P := l.prog) (w := w) (base := base) B A1
  have Tr := ok_tree (P := l.prog) (w := w) (base := base) B A2
  have Co := ok_count (P := l.prog) (w := w) (base := base) A3
  have Ct := ok_chkT Tr A4
  have Cr := ok_chkR B Wh A5
  have Cv := ok_chkV B Cr Co Ct A6
  have Tu := ok_turn (P := l.prog) (w := w) (base := base) A7
  have Se := ok_search Co Tu A8
  have Fd := ok_find Cv Se A9
  have J := ok_insertion B Cv Se A10
  have Dr := ok_draws (P := l.prog) (w := w) (base := base) B A11
  have N := ok_next (P := l.prog) (w := w) (base := base) B A12
  have Z := ok_size (P := l.prog) (w := w) (base := base) A13 21
  have T := ok_drawT B N A14 21
  have Va := ok_values B N A15
  have Pr := ok_probes (P := l.prog) (w := w) (base := base) B A16
  have Fi := ok_fits (P := l.prog) (w := w) (base := base) B A17
  have Fa := ok_falls (P := l.prog) (w := w) (base := base) B A18
  have R := ok_right B N T Z Va Pr Fi Fa Fd J A19
  exact ok_law B (fun_mk l20 c20 k20) Dr R
end HSP
open PySem PySem.W PyProof.Rows
set_option maxHeartbeats 0 in
theorem PySem.Challenge.cw_halfsearch_k23_whole_gaps_fit_holds : PySem.Challenge.rw_halfsearch_k23_whole_gaps_fit.Holds := by
  w_on; o_law; k_head; (case hw => w_witness2)
  k_fill
  refine L2.walk_of (l := PySem.Challenge.rw_halfsearch_k23_whole_gaps_fit) (n := 63) (k := 24) (x := "script") (CX := fun _ => L2.CX0) (sp := fun w => HSP.spLaw _) rfl (by decide) rfl ⟨rfl, by decide, by decide⟩ (fun w h Y => PySem.W.kIn_of Y) ?F (fun _ _ a ns hl _ hS => ⟨a, ns, rfl, hS, hl, fun _ => rfl⟩) (fun _ _ _ _ _ h => h)
  case F =>
    intro w mg fa h KX G hmg
    refine' HSP.all_mk KX G hmg ?a1 ?l1 ?c1 ?k1 ?a2 ?l2 ?c2 ?k2 ?a3 ?l3 ?c3 ?k3 ?a4 ?l4 ?c4 ?k4 ?a5 ?l5 ?c5 ?k5 ?a6 ?l6 ?c6 ?k6 ?a7 ?l7 ?c7 ?k7 ?a8 ?l8 ?c8 ?k8 ?a9 ?l9 ?c9 ?k9 ?a10 ?l10 ?c10 ?k10 ?d10 ?r10 ?a11 ?l11 ?c11 ?k11 ?a12 ?l12 ?c12 ?k12 ?a13 ?l13 ?c13 ?k13 ?a14 ?l14 ?c14 ?k14 ?a15 ?l15 ?c15 ?k15 ?a16 ?l16 ?c16 ?k16 ?a17 ?l17 ?c17 ?k17 ?a18 ?l18 ?c18 ?k18 ?a19 ?l19 ?c19 ?k19 ?a20 ?l20 ?c20 ?k20 ?z0 ?z1 ?z2 ?z3 ?z4 ?z5 ?z6 ?z7 ?z8 ?z9 ?z10 ?z11 ?z12 ?z13 ?z14 ?z15
    (case a1 => k_is)
    (case l1 => k_is)
    (case c1 => k_is)
    (case k1 => k_is)
    (case a2 => k_is)
    (case l2 => k_is)
    (case c2 => k_is)
    (case k2 => k_is)
    (case a3 => k_is)
    (case l3 => k_is)
    (case c3 => k_is)
    (case k3 => k_is)
    (case a4 => k_is)
    (case l4 => k_is)
    (case c4 => k_is)
    (case k4 => k_is)
    (case a5 => k_is)
    (case l5 => k_is)
    (case c5 => k_is)
    (case k5 => k_is)
    (case a6 => k_is)
    (case l6 => k_is)
    (case c6 => k_is)
    (case k6 => k_is)
    (case a7 => k_is)
    (case l7 => k_is)
    (case c7 => k_is)
    (case k7 => k_is)
    (case a8 => k_is)
    (case l8 => k_is)
    (case c8 => k_is)
    (case k8 => k_is)
    (case a9 => k_is)
    (case l9 => k_is)
    (case c9 => k_is)
    (case k9 => k_is)
    (case a10 => k_is)
    (case l10 => k_is)
    (case c10 => k_is)
    (case k10 => k_is)
    (case d10 => k_is)
    (case r10 => exact ⟨_, rfl⟩)
    (case a11 => k_is)
    (case l11 => k_is)
    (case c11 => k_is)
    (case k11 => k_is)
    (case a12 => k_is)
    (case l12 => k_is)
    (case c12 => k_is)
    (case k12 => k_is)
    (case a13 => k_is)
    (case l13 => k_is)
    (case c13 => k_is)
    (case k13 => k_is)
    (case a14 => k_is)
    (case l14 => k_is)
    (case c14 => k_is)
    (case k14 => k_is)
    (case a15 => k_is)
    (case l15 => k_is)
    (case c15 => k_is)
    (case k15 => k_is)
    (case a16 => k_is)
    (case l16 => k_is)
    (case c16 => k_is)
    (case k16 => k_is)
    (case a17 => k_is)
    (case l17 => k_is)
    (case c17 => k_is)
    (case k17 => k_is)
    (case a18 => k_is)
    (case l18 => k_is)
    (case c18 => k_is)
    (case k18 => k_is)
    (case a19 => k_is)
    (case l19 => k_is)
    (case c19 => k_is)
    (case k19 => k_is)
    (case a20 => k_is)
    (case l20 => k_is)
    (case c20 => k_is)
    (case k20 => k_is)
    (case z0 => k_is)
    (case z1 => k_is)
    (case z2 => k_is)
    (case z3 => k_is)
    (case z4 => k_is)
    (case z5 => k_is)
    (case z6 => k_is)
    (case z7 => k_is)
    (case z8 => k_is)
    (case z9 => k_is)
    (case z10 => k_is)
    (case z11 => k_is)
    (case z12 => k_is)
    (case z13 => k_is)
    (case z14 => k_is)
    (case z15 => k_is)
