import PyProof.Rows.All
import Wide.All
import OpenK.AllK
import Wide.FinOn
import HandS.Base
import HandS.Call
import HandS.List
import HandS.Comp
import HandS.Ends
import HandS.Dict
import HandS.Iter
import HandS.Text
import HandS.Words
import HandS.WordsList
import HandS.Wide
import HandS.Strs
import HandS.SetFor
import HandS.SortInts
import HandS.Defaults
import HandS.IsInst
import HandS.Walk
import HandS.Codes
import HandS.SortKw
import KE.DatumOrd
import HandS.Exc
import HandS.ExcValue
import HandS.Deep
import HandS.Conv
import HandS.ForSpec
import KE.KTryMore
import HandS.ExcField
import HandS.ExcIs
import HandS.WordsExc
import HandS.ExcOwn
import HandS.RaiseMore
import HandS.ExcInit
import PySem.Challenge.RW_halfsearch_k48_lists_alike_counted
set_option Elab.async false
set_option maxRecDepth 100000
namespace HSP
open PySem PySem.Spec PyProof.Rows L2
/-! ## trees of pairs, as they lie in the heap -/
inductive Tr where
  | nil
  | nod (l r : Tr)
  deriving DecidableEq
def Tr.size : Tr → Nat
  | .nil => 0
  | .nod l r => l.size + 1 + r.size
def Tr.ht : Tr → Nat
  | .nil => 0
  | .nod l r => max l.ht r.ht + 1
theorem Tr.ht_le : ∀ t : Tr, t.ht ≤ t.size
  | .nil => Nat.le_refl _
  | .nod l r => by
    have h1 := l.ht_le
    have h2 := r.ht_le
    simp only [Tr.ht, Tr.size]
    omega
inductive TrAt (H : Hp) : V → Tr → Prop
  | nil : TrAt H .non .nil
  | nod {a : Addr} {x y : V} {l r : Tr} : H a = some (.tup [x, y]) → TrAt H x l → TrAt H y r → TrAt H (.ref a) (.nod l r)
theorem TrAt.keep {H H' : Hp} {v : V} {t : Tr} (h : TrAt H v t) (s : ∀ a x y, H a = some (.tup [x, y]) → H' a = some (.tup [x, y])) : TrAt H' v t := by
  induction h with
  | nil => exact .nil
  | nod e _ _ ih1 ih2 => exact .nod (s _ _ _ e) ih1 ih2
theorem TrAt.same {H H' : Hp} {v : V} {t : Tr} (h : TrAt H v t) (s : Same H H') : TrAt H' v t := h.keep fun a x y e => s a _ e
/-! ## heaps: all but one place stays -/
def Keep (p : Addr) (H H' : Hp) : Prop := ∀ b o, b ≠ p → H b = some o → H' b = some o
theorem Keep.refl (p : Addr) (H : Hp) : Keep p H H := fun _ _ _ e => e
theorem Keep.trans {p : Addr} {H H1 H2 : Hp} (a : Keep p H H1) (b : Keep p H1 H2) : Keep p H H2 := fun c o n e => b c o n (a c o n e)
theorem Keep.of {p : Addr} {H H' : Hp} (s : Same H H') : Keep p H H' := fun b o _ e => s b o e
theorem Keep.at {p : Addr} {H : Hp} {o : HO} : Keep p H (upd H p o) := fun b u n e => by
  rw [upd_ne n]; exact e
theorem Keep.new {p q : Addr} {H : Hp} {o : HO} (h : H q = none) : Keep p H (upd H q o) := fun b u _ e => by
  rw [upd_ne (ne_of_none e h)]; exact e
theorem Keep.tree {p : Addr} {H H' : Hp} {v : V} {t : Tr} {xs : List V} (k : Keep p H H') (hp : H p = some (.lst xs)) (h : TrAt H v t) : TrAt H' v t :=
  h.keep fun a x y e => k a _ (fun z => by rw [z, hp] at e; cases e) e
theorem Same.new {H : Hp} {p : Addr} {o : HO} (h : H p = none) : Same H (upd H p o) := fun b u e => by
  rw [upd_ne (ne_of_none e h)]; exact e
theorem Keep.same {p : Addr} {H H1 H' : Hp} (s : Same H H1) (n : H p = none) (k : Keep p H1 H') : Same H H' := fun b o e => k b o (ne_of_none e n) (s b o e)
/-! ## powers -/
def CPowW (i j : Int) : Prop := 0 ≤ j ∧ (Builtin.Int.intBits i : Int) * j ≤ 2 ^ 27
section
variable {X : Cx}
theorem op_powW : OpR X (binaryOp .Pow) (rI CPowW fun i j => .int (i ^ j.toNat)) :=
  opI fun _ _ _ _ _ _ _ hc q => pow_int hc.1 hc.2 q
end
end HSP
namespace HSP
open PySem PySem.Spec PyProof.Rows L2
/-! ## a def of the text that keeps a promise, called by its name -/
/-- the def stands under its own name behind the top -/
def At (K : PySem.W.Frag) (mg : Str → Option Value) (x : Str) (st : Stmt) : Prop := ∃ (f : Addr) (fd : FuncData), mg x = some (.ref f) ∧ Fun K x x st f fd
structure Df (P : Program) (w : World) (K : PySem.W.Frag) (mg : Str → Option Value) (base : Heap) (x : Str) (n : Nat) (ps : List Str) (sp : Sp) : Prop where
  ex : ∃ (f : Addr) (fd : FuncData), mg x = some (.ref f) ∧ PySem.W.keepIn K (.ref f) = true ∧ Binds K fd ps [] ∧ FnOk P w K mg base CX0 n f fd ps sp
section
variable {P : Program} {w : World} {K : PySem.W.Frag} {mg : Str → Option Value} {base : Heap}
theorem Df.mk' {x : Str} {st : Stmt} {N ps : List Str} {k : Nat} {sp : Sp} (a : At K mg x st) (S : FnScope N ps (defScope st)) (len : ∀ vs H Q E, sp vs H Q E → vs.length = ps.length)
    (hb : ∀ (kV doc pm : Value) (an : Option Addr) (cdv ct : Value) (us : List Value), us.length = ps.length → bindArgs (PySem.W.fnOf x x (defArgs st) (defBody st) (defScope st) .none kV doc pm an cdv ct) ⟨us, []⟩ = pure (ps.zip us))
    (body : ∀ (f : Addr) (cdv : Value) (A : Around) (outer : List Env) (s : Shared) (H : Hp) (vs : List V) (Q : VK) (E : XK), Room k (A.deeper (envOfC x (defScope st) s.heap.objs.size f cdv)) → sp vs H Q E →
      ∃ t, PSs (cxOf CX0 P w K mg base N x (defScope st) f cdv A outer s H E).nox (defBody st) t ∧ t { nx := fun _ H' => Q .non H', rt := Q } (start N vs) H) : Df P w K mg base x (k + 1) ps sp := by
  obtain ⟨f, fd, hm, F⟩ := a
  exact ⟨f, fd, hm, F.kp, F.binds hb, F.ok S len (body f)⟩
theorem Df.mono {x : Str} {j k : Nat} {ps : List Str} {sp : Sp} (D : Df P w K mg base x j ps sp) (h : j ≤ k) : Df P w K mg base x k ps sp := by
  obtain ⟨f, fd, a, b, c, d⟩ := D.ex
  exact ⟨f, fd, a, b, c, d.mono h⟩
theorem Df.imp {x : Str} {k : Nat} {ps : List Str} {sp sp' : Sp} (D : Df P w K mg base x k ps sp) (h : ∀ vs H Q E, sp' vs H Q E → sp vs H Q E) : Df P w K mg base x k ps sp' := by
  obtain ⟨f, fd, a, b, c, d⟩ := D.ex
  exact ⟨f, fd, a, b, c, d.imp h⟩
end
section
variable {X : Cx} {k : Nat} {ps : List Str} {sp : Sp} {x : Str} {p pos : Pos} {e : Expr} {es : List Expr} {t : TA}
theorem pe_df (D : Df X.prog X.w X.K X.mg X.base x k ps sp) (hr : Room k X.A) (ha : PA X (e :: es) t) (hg : Gl X x := by rfl) (hdb : (x == ("__debug__" : Str)) = false := by decide)
    (he : starEach (e :: es) X.env = (false, eval e X.env) :: starEach es X.env := by rfl) (hpl : (backTo pos (starEach es X.env)).any (·.1) = false := by rfl) : PE X (.Call (.Name x p) (e :: es) [] pos) (tCall sp [] E0 t) := by
  obtain ⟨f, fd, hm, hk, hb, F⟩ := D.ex
  exact pe_call F hr hg hm hk hb .nil pass0 ha hdb he hpl
end
/-! ## what a test or a value is -/
theorem int_inj {i j : Int} (h : i = j) : V.int i = V.int j := by rw [h]
/-! ## the built-ins, not shadowed -/
structure Bl (mg : Str → Option Value) : Prop where
  isinstance : mg "isinstance" = none
  int : mg "int" = none
  bool : mg "bool" = none
  tuple : mg "tuple" = none
  list : mg "list" = none
  str : mg "str" = none
  len : mg "len" = none
  range : mg "range" = none
  enumerate : mg "enumerate" = none
  sorted : mg "sorted" = none
  set : mg "set" = none
  sum : mg "sum" = none
  max : mg "max" = none
  abs : mg "abs" = none
  zip : mg "zip" = none
  min : mg "min" = none
end HSP
namespace HSP
open PySem PySem.Spec PyProof.Rows L2
def topS (i : Nat) : Stmt := PySem.Challenge.pw_halfsearch_k48_lists_alike_counted.main.body.getD i (.Pass ⟨0, 0, 0, 0⟩)
abbrev s_is_whole : Stmt := topS 4
abbrev p_is_whole : List Str := ["thing"]
abbrev n_is_whole : List Str := ["thing"]
abbrev s_is_tree : Stmt := topS 5
abbrev p_is_tree : List Str := ["thing"]
abbrev n_is_tree : List Str := ["thing", "waiting", "part"]
abbrev s_count_nodes : Stmt := topS 6
abbrev p_count_nodes : List Str := ["tree"]
abbrev n_count_nodes : List Str := ["tree", "many", "waiting", "part"]
abbrev s_walk : Stmt := topS 7
abbrev p_walk : List Str := ["tree"]
abbrev n_walk : List Str := ["tree", "rows", "waiting", "part", "first", "above", "left", "right", "node"]
abbrev s_paths_of : Stmt := topS 8
abbrev p_paths_of : List Str := ["tree"]
abbrev n_paths_of : List Str := ["tree", "paths", "node", "above", "_"]
abbrev s_check_tree : Stmt := topS 9
abbrev p_check_tree : List Str := ["tree"]
abbrev n_check_tree : List Str := ["tree"]
abbrev s_check_row : Stmt := topS 10
abbrev p_check_row : List Str := ["row"]
abbrev n_check_row : List Str := ["row", "node", "value"]
abbrev s_check_values : Stmt := topS 11
abbrev p_check_values : List Str := ["tree", "values"]
abbrev n_check_values : List Str := ["tree", "values"]
abbrev s_bounds_below : Stmt := topS 13
abbrev p_bounds_below : List Str := ["values", "above"]
abbrev n_bounds_below : List Str := ["values", "above", "low", "high", "node", "side"]
abbrev s_label_of : Stmt := topS 14
abbrev p_label_of : List Str := ["bounds", "value"]
abbrev n_label_of : List Str := ["bounds", "value", "low", "high"]
abbrev s_labels_of : Stmt := topS 15
abbrev p_labels_of : List Str := ["tree", "values"]
abbrev n_labels_of : List Str := ["tree", "values", "ways", "way", "value"]
abbrev s_labels : Stmt := topS 16
abbrev p_labels : List Str := ["tree", "values"]
abbrev n_labels : List Str := ["tree", "values"]
abbrev s_killer_of : Stmt := topS 18
abbrev p_killer_of : List Str := ["pattern", "above"]
abbrev n_killer_of : List Str := ["pattern", "above", "ancestor", "side"]
abbrev s_bound_of : Stmt := topS 19
abbrev p_bound_of : List Str := ["pattern", "above", "side"]
abbrev n_bound_of : List Str := ["pattern", "above", "side", "nearest", "ancestor", "turned"]
abbrev s_owners_of : Stmt := topS 20
abbrev p_owners_of : List Str := ["tree", "pattern"]
abbrev n_owners_of : List Str := ["tree", "pattern", "owners", "node", "above", "label"]
abbrev s_allowed : Stmt := topS 22
abbrev p_allowed : List Str := ["bounds", "value"]
abbrev n_allowed : List Str := ["bounds", "value", "label"]
abbrev s_all_allowed : Stmt := topS 23
abbrev p_all_allowed : List Str := ["tree", "values"]
abbrev n_all_allowed : List Str := ["tree", "values", "above", "value"]
abbrev s_count_alike : Stmt := topS 24
abbrev p_count_alike : List Str := ["tree", "values", "least", "most"]
abbrev n_count_alike : List Str := ["tree", "values", "least", "most", "many", "low", "high", "first", "last"]
abbrev s_representative : Stmt := topS 25
abbrev p_representative : List Str := ["tree", "values"]
abbrev n_representative : List Str := ["tree", "values", "owner"]
abbrev s_law_draws : Stmt := topS 27
abbrev p_law_draws : List Str := ["cell"]
abbrev n_law_draws : List Str := ["cell"]
abbrev s_law_next : Stmt := topS 28
abbrev p_law_next : List Str := ["draws"]
abbrev n_law_next : List Str := ["draws", "k", "number"]
abbrev s_law_grown_tree : Stmt := topS 29
abbrev p_law_grown_tree : List Str := ["draws", "nodes"]
abbrev n_law_grown_tree : List Str := ["draws", "nodes", "pick", "root"]
abbrev s_law_even_tree : Stmt := topS 30
abbrev p_law_even_tree : List Str := ["draws", "nodes"]
abbrev n_law_even_tree : List Str := ["draws", "nodes", "root"]
abbrev s_law_room : Stmt := topS 31
abbrev p_law_room : List Str := ["a_tree"]
abbrev n_law_room : List Str := ["a_tree"]
abbrev s_law_numbers : Stmt := topS 32
abbrev p_law_numbers : List Str := ["draws", "nodes"]
abbrev n_law_numbers : List Str := ["draws", "nodes", "wide", "k"]
abbrev s_law_ended : Stmt := topS 33
abbrev p_law_ended : List Str := ["a_tree", "a_values", "twice"]
abbrev n_law_ended : List Str := ["a_tree", "a_values", "twice", "first", "root"]
abbrev s_law_lists : Stmt := topS 34
abbrev p_law_lists : List Str := ["nodes", "a_least", "a_most"]
abbrev n_law_lists : List Str := ["nodes", "a_least", "a_most", "told", "k", "some", "value"]
abbrev s_law_ends : Stmt := topS 35
abbrev p_law_ends : List Str := ["a_tree", "a_values"]
abbrev n_law_ends : List Str := ["a_tree", "a_values", "twice"]
abbrev s_law_small_right : Stmt := topS 36
abbrev p_law_small_right : List Str := ["draws"]
abbrev n_law_small_right : List Str := ["draws", "nodes", "a_tree", "a_values", "a_least", "a_most", "due", "often", "k", "some"]
abbrev s_law_great_right : Stmt := topS 37
abbrev p_law_great_right : List Str := ["draws"]
abbrev n_law_great_right : List Str := ["draws", "nodes", "a_tree", "a_values", "a_least", "a_most", "kept", "due", "label", "bound", "room", "value"]
abbrev s_law_kept : Stmt := topS 38
abbrev p_law_kept : List Str := ["a_tree", "a_values"]
abbrev n_law_kept : List Str := ["a_tree", "a_values", "kept", "error"]
abbrev s_law : Stmt := topS 39
abbrev p_law : List Str := ["script"]
abbrev n_law : List Str := ["script", "draws", "cell"]
end HSP
namespace HSP
open PySem PySem.Spec PyProof.Rows L2
section
variable {P : Program} {w : World} {K : PySem.W.Frag} {mg : Str → Option Value} {base : Heap}
/-! ### count_nodes -/
/-- what waits: trees of together n nodes -/
inductive Waits (H : Hp) : List V → List Tr → Prop
  | nil : Waits H [] []
  | cons {v : V} {t : Tr} {vs : List V} {ts : List Tr} : TrAt H v t → Waits H vs ts → Waits H (v :: vs) (t :: ts)
theorem Waits.len {H : Hp} {vs : List V} {ts : List Tr} (h : Waits H vs ts) : vs.length = ts.length := by
  induction h with
  | nil => rfl
  | cons _ _ ih => rw [List.length_cons, List.length_cons, ih]
def sizes : List Tr → Nat
  | [] => 0
  | t :: r => t.size + sizes r
def turns : List Tr → Nat
  | [] => 0
  | t :: r => 2 * t.size + 1 + turns r
/-- the list on which they wait, the last one first -/
theorem last_rev {v : V} {vs : List V} : (v :: vs).reverse[(v :: vs).reverse.length - 1]? = some v := by
  rw [List.reverse_cons, List.length_append, List.length_singleton, Nat.add_sub_cancel, List.getElem?_append_right (Nat.le_refl _), Nat.sub_self]
  all_goals rfl
theorem drop_rev {v : V} {vs : List V} : (v :: vs).reverse.dropLast = vs.reverse := by
  rw [List.reverse_cons, List.dropLast_concat]
theorem rev_push {v : V} {vs : List V} : vs.reverse ++ [v] = (v :: vs).reverse := by rw [List.reverse_cons]
theorem rev_empty {vs : List V} : (!vs.reverse.isEmpty) = !vs.isEmpty := by
  cases vs with
  | nil => rfl
  | cons v r =>
    rw [List.reverse_cons]
    cases r.reverse <;> rfl
def spCount : Sp := fun vs H Q _ => ∃ (v : V) (t : Tr), vs = [v] ∧ TrAt H v t ∧ t.size ≤ 1000 ∧ ∀ H', Same H H' → Q (.int t.size) H'
theorem sc_count : FnScope n_count_nodes ["tree"] (defScope s_count_nodes) := ⟨rfl, rfl, rfl, by decide +kernel, rfl, by decide +kernel, by decide +kernel⟩
theorem ok_count (a : At K mg "count_nodes" s_count_nodes) : Df P w K mg base "count_nodes" 1 ["tree"] spCount := by
  refine Df.mk' a sc_count (fun vs H Q E h => ?_) (fun _ _ _ _ _ _ us hl => match us, hl with | [_], _ => rfl) (fun f cdv A outer s H vs Q E hr h => ?_)
  · obtain ⟨v, t, rfl, _⟩ := h
    rfl
  obtain ⟨v, t, rfl, ht, hz, q⟩ := h
  refine ⟨_, pss_cons (ps_set (i := 1) sc_count.nd rfl (.inl rfl) pe_int)
    (pss_cons (ps_set (i := 2) sc_count.nd rfl (.inl rfl) (pe_lst (pa_cons (pv 0) pa_nil)))
    (pss_cons (ps_while PassesOwn.never (pt_truth (pv 2) (by intro _; rfl))
      (pss_cons (ps_set (i := 3) sc_count.nd rfl (.inl rfl) (pe_bm0 PySem.F.plainAttrs_list PySem.F.slot_list_pop PySem.F.type_list_pop mt_pop (pv 2)))
      (pss_one (ps_if (pt_cmpR op_notN (pv 3) pe_non (nomark _))
        (pss_cons (ps_aug (i := 1) sc_count.nd rfl (.inl rfl) pe_int ip_add)
        (pss_cons (ps_expr (pe_bm PySem.F.plainAttrs_list PySem.F.slot_list_append PySem.F.type_list_append mt_append (pv 2) (pa_cons (pe_ix ix_tup (pv 3) pe_int (fun _ _ => rfl)) pa_nil)))
        (pss_one (ps_expr (pe_bm PySem.F.plainAttrs_list PySem.F.slot_list_append PySem.F.type_list_append mt_append (pv 2) (pa_cons (pe_ix ix_tup (pv 3) pe_int (fun _ _ => rfl)) pa_nil)))))) pss_nil))))
    (pss_one (ps_ret (pv 1))))), ?_⟩
  refine ⟨v, rfl, (by show 1 ≤ sizeLine; decide), fun l hl => ?_⟩
  have s0 : Same H (upd H l (.lst [v])) := Same.new hl
  refine ⟨fun m σ H1 => ∃ (vs : List V) (ts : List Tr) (n : Nat) (y : Option V), σ = [some v, some (.int n), some (.ref l), y] ∧ Same H H1 ∧ H1 l = some (.lst vs.reverse) ∧ Waits H vs ts ∧ n + sizes ts = t.size ∧ vs.length ≤ n + 1 ∧ m = turns ts,
    ⟨_, [v], [t], 0, none, rfl, s0, upd_same, .cons ht .nil, by show 0 + (t.size + 0) = t.size; omega, by show 1 ≤ 0 + 1; omega, rfl⟩, fun m σ H1 hW => ?_⟩
  obtain ⟨vs, ts, n, y, rfl, sm, el, hw, hn, hlen, rfl⟩ := hW
  refine ⟨.ref l, rfl, !vs.reverse.isEmpty, .inl ⟨_, .of el, rfl⟩, ?_⟩
  rw [rev_empty]
  cases hw with
  | nil =>
    refine iteF ?_
    exact ⟨_, rfl, by rw [show ((n : Nat) : Int) = ((t.size : Nat) : Int) from congrArg _ hn]; exact q _ sm⟩
  | @cons x u xs us hx hxs =>
    refine iteT ⟨fun σ' H' => ∃ m', m' < turns (u :: us) ∧ ∃ (vs : List V) (ts : List Tr) (n : Nat) (y : Option V), σ' = [some v, some (.int n), some (.ref l), y] ∧ Same H H' ∧ H' l = some (.lst vs.reverse) ∧ Waits H vs ts ∧ n + sizes ts = t.size ∧ vs.length ≤ n + 1 ∧ m' = turns ts,
      fun σ' H' hN => hN, ?_⟩
    refine ⟨.ref l, rfl, .inl ⟨rfl, _, .of el⟩, l, _, x, rfl, rfl, el, last_rev, ?_⟩
    rw [drop_rev]
    have sm2 : Same H (upd H1 l (.lst xs.reverse)) := fun b o e => by rw [upd_ne (ne_of_none e hl)]; exact sm b o e
    refine ⟨x, rfl, rfl, _, rfl, ?_⟩
    cases hx with
    | nil =>
      refine iteF ?_
      refine ⟨_, ?_, xs, us, n, _, rfl, sm2, upd_same, hxs, ?_, ?_, rfl⟩
      · show turns us < 2 * 0 + 1 + turns us; omega
      · have : 0 + sizes us = sizes (Tr.nil :: us) := rfl
        omega
      · rw [List.length_cons] at hlen; omega
    | @nod a x1 y1 l1 r1 ea hl1 hr1 =>
      refine iteT ?_
      refine ⟨_, rfl, _, _, rfl, rfl, ?_⟩
      have e2 : (upd H1 l (.lst xs.reverse)) a = some (.tup [x1, y1]) := sm2 _ _ ea
      refine ⟨_, rfl, .inl ⟨rfl, _, .of upd_same⟩, _, rfl, a, _, _, y1, rfl, rfl, .of e2, atI_nat (j := 1) rfl, l, _, _, rfl, rfl, upd_same, ?_, ?_⟩
      · rw [List.length_reverse]
        rw [List.length_cons] at hlen
        exact small1000 (by omega)
      refine ⟨_, rfl, .inl ⟨rfl, _, .of upd_same⟩, _, rfl, a, _, _, x1, rfl, rfl, .of (by rw [upd_ne (ne_of_none ea hl)]; exact e2), atI_nat (xs := [x1, y1]) (j := 0) rfl, l, _, _, rfl, rfl, upd_same, ?_, ?_⟩
      · rw [List.length_append, List.length_reverse, List.length_singleton]
        rw [List.length_cons] at hlen
        have e1 : sizes (Tr.nod l1 r1 :: us) = (l1.size + 1 + r1.size) + sizes us := rfl
        exact small1000 (by omega)
      rw [rev_push, rev_push]
      refine ⟨_, ?_, x1 :: y1 :: xs, l1 :: r1 :: us, n + 1, _, rfl, fun b o e => ?_, upd_same, .cons hl1 (.cons hr1 hxs), ?_, ?_, rfl⟩
      · show 2 * l1.size + 1 + (2 * r1.size + 1 + turns us) < 2 * (l1.size + 1 + r1.size) + 1 + turns us
        omega
      · rw [upd_ne (ne_of_none e hl), upd_ne (ne_of_none e hl)]
        exact sm2 b o e
      · have e1 : sizes (Tr.nod l1 r1 :: us) = (l1.size + 1 + r1.size) + sizes us := rfl
        show n + 1 + (l1.size + (r1.size + sizes us)) = t.size
        omega
      · rw [List.length_cons] at hlen
        show xs.length + 1 + 1 ≤ n + 1 + 1
        omega
end
end HSP
namespace HSP
open PySem PySem.Spec PyProof.Rows L2
section
variable {P : Program} {w : World} {K : PySem.W.Frag} {mg : Str → Option Value} {base : Heap}
/-! ### is_whole -/
def spWhole : Sp := fun vs H Q _ => ∃ i : Int, vs = [.int i] ∧ Q (.bl true) H
theorem sc_whole : FnScope n_is_whole ["thing"] (defScope s_is_whole) := ⟨rfl, rfl, rfl, by decide +kernel, rfl, by decide +kernel, by decide +kernel⟩
theorem ok_whole (B : Bl mg) (a : At K mg "is_whole" s_is_whole) : Df P w K mg base "is_whole" 1 ["thing"] spWhole := by
  refine Df.mk' a sc_whole (fun vs H Q E h => ?_) (fun _ _ _ _ _ _ us hl => match us, hl with | [_], _ => rfl) (fun f cdv A outer s H vs Q E hr h => ?_)
  · obtain ⟨v, rfl, _⟩ := h
    rfl
  obtain ⟨i, rfl, q⟩ := h
  refine ⟨_, pss_one (ps_ret (pe_and (pe_callB call_isi (by rfl) B.isinstance (by decide +kernel) (pa_cons (pv 0) (pa_cons (pe_bltn (v := .ty "int") (by rfl) B.int (by decide +kernel) rfl) pa_nil)))
    (pe_one (pe_not (pe_callB call_isi (by rfl) B.isinstance (by decide +kernel) (pa_cons (pv 0) (pa_cons (pe_bltn (v := .ty "bool") (by rfl) B.bool (by decide +kernel) rfl) pa_nil))))))), ?_⟩
  refine ⟨_, rfl, _, _, _, _, true, rfl, .ty "int", .base (.int i), rfl, true, rfl, iteT ?_⟩
  exact ⟨_, rfl, _, _, _, _, false, rfl, .ty "bool", .base (.int i), rfl, false, rfl, q⟩
end
end HSP
namespace HSP
open PySem PySem.Spec PyProof.Rows L2
section
variable {P : Program} {w : World} {K : PySem.W.Frag} {mg : Str → Option Value} {base : Heap}
/-! ### is_tree -/
def spTree : Sp := fun vs H Q _ => ∃ (v : V) (t : Tr), vs = [v] ∧ TrAt H v t ∧ t.size ≤ 1000 ∧ ∀ H', Same H H' → Q (.bl true) H'
theorem sc_tree : FnScope n_is_tree ["thing"] (defScope s_is_tree) := ⟨rfl, rfl, rfl, by decide +kernel, rfl, by decide +kernel, by decide +kernel⟩
theorem ok_tree (B : Bl mg) (a : At K mg "is_tree" s_is_tree) : Df P w K mg base "is_tree" 1 ["thing"] spTree := by
  refine Df.mk' a sc_tree (fun vs H Q E h => ?_) (fun _ _ _ _ _ _ us hl => match us, hl with | [_], _ => rfl) (fun f cdv A outer s H vs Q E hr h => ?_)
  · obtain ⟨v, t, rfl, _⟩ := h
    rfl
  obtain ⟨v, t, rfl, ht, hz, q⟩ := h
  refine ⟨_, pss_cons (ps_set (i := 1) sc_tree.nd rfl (.inl rfl) (pe_lst (pa_cons (pv 0) pa_nil)))
    (pss_cons (ps_while PassesOwn.never (pt_truth (pv 1) (by intro _; rfl))
      (pss_cons (ps_set (i := 2) sc_tree.nd rfl (.inl rfl) (pe_bm0 PySem.F.plainAttrs_list PySem.F.slot_list_pop PySem.F.type_list_pop mt_pop (pv 1)))
      (pss_one (ps_if (pt_cmpR op_notN (pv 2) pe_non (nomark _))
        (pss_cons (ps_if (PW.pt (pw_or (pt_not (pt_val (pe_callB call_isi (by rfl) B.isinstance (by decide +kernel) (pa_cons (pv 2) (pa_cons (pe_bltn (v := .ty "tuple") (by rfl) B.tuple (by decide +kernel) rfl) pa_nil)))))
            (pw_or1 (pt_cmpR op_ne (pe_callB call_len_seq (by rfl) B.len PySem.boot_len (pa_cons (pv 2) pa_nil)) pe_int (nomark _)))))
          (pss_one (ps_ret pe_bl)) pss_nil)
        (pss_cons (ps_expr (pe_bm PySem.F.plainAttrs_list PySem.F.slot_list_append PySem.F.type_list_append mt_append (pv 1) (pa_cons (pe_ix ix_tup (pv 2) pe_int (fun _ _ => rfl)) pa_nil)))
        (pss_one (ps_expr (pe_bm PySem.F.plainAttrs_list PySem.F.slot_list_append PySem.F.type_list_append mt_append (pv 1) (pa_cons (pe_ix ix_tup (pv 2) pe_int (fun _ _ => rfl)) pa_nil)))))) pss_nil))))
    (pss_one (ps_ret pe_bl))), ?_⟩
  refine ⟨v, rfl, (by show 1 ≤ sizeLine; decide), fun l hl => ?_⟩
  have s0 : Same H (upd H l (.lst [v])) := Same.new hl
  refine ⟨fun m σ H1 => ∃ (vs : List V) (ts : List Tr) (n : Nat) (y : Option V), σ = [some v, some (.ref l), y] ∧ Same H H1 ∧ H1 l = some (.lst vs.reverse) ∧ Waits H vs ts ∧ n + sizes ts = t.size ∧ vs.length ≤ n + 1 ∧ m = turns ts,
    ⟨_, [v], [t], 0, none, rfl, s0, upd_same, .cons ht .nil, by show 0 + (t.size + 0) = t.size; omega, by show 1 ≤ 0 + 1; omega, rfl⟩, fun m σ H1 hW => ?_⟩
  obtain ⟨vs, ts, n, y, rfl, sm, el, hw, hn, hlen, rfl⟩ := hW
  refine ⟨.ref l, rfl, !vs.reverse.isEmpty, .inl ⟨_, .of el, rfl⟩, ?_⟩
  rw [rev_empty]
  cases hw with
  | nil => exact iteF (q _ sm)
  | @cons x u xs us hx hxs =>
    refine iteT ⟨fun σ' H' => ∃ m', m' < turns (u :: us) ∧ ∃ (vs : List V) (ts : List Tr) (n : Nat) (y : Option V), σ' = [some v, some (.ref l), y] ∧ Same H H' ∧ H' l = some (.lst vs.reverse) ∧ Waits H vs ts ∧ n + sizes ts = t.size ∧ vs.length ≤ n + 1 ∧ m' = turns ts,
      fun σ' H' hN => hN, ?_⟩
    refine ⟨.ref l, rfl, .inl ⟨rfl, _, .of el⟩, l, _, x, rfl, rfl, el, last_rev, ?_⟩
    rw [drop_rev]
    have sm2 : Same H (upd H1 l (.lst xs.reverse)) := fun b o e => by rw [upd_ne (ne_of_none e hl)]; exact sm b o e
    refine ⟨x, rfl, rfl, _, rfl, ?_⟩
    cases hx with
    | nil =>
      refine iteF ?_
      refine ⟨_, ?_, xs, us, n, _, rfl, sm2, upd_same, hxs, ?_, ?_, rfl⟩
      · show turns us < 2 * 0 + 1 + turns us; omega
      · have : 0 + sizes us = sizes (Tr.nil :: us) := rfl
        omega
      · rw [List.length_cons] at hlen; omega
    | @nod a x1 y1 l1 r1 ea hl1 hr1 =>
      refine iteT ?_
      have e2 : (upd H1 l (.lst xs.reverse)) a = some (.tup [x1, y1]) := sm2 _ _ ea
      refine ⟨_, rfl, _, _, _, _, true, rfl, .ty "tuple", .base (.tup e2), rfl, true, rfl, iteF ?_⟩
      refine ⟨_, rfl, a, _, rfl, .inr (.of e2), rfl, _, rfl, iteF ?_⟩
      refine ⟨_, rfl, .inl ⟨rfl, _, .of upd_same⟩, _, rfl, a, _, _, y1, rfl, rfl, .of e2, atI_nat (j := 1) rfl, l, _, _, rfl, rfl, upd_same, ?_, ?_⟩
      · rw [List.length_reverse]
        rw [List.length_cons] at hlen
        exact small1000 (by omega)
      refine ⟨_, rfl, .inl ⟨rfl, _, .of upd_same⟩, _, rfl, a, _, _, x1, rfl, rfl, .of (by rw [upd_ne (ne_of_none ea hl)]; exact e2), atI_nat (xs := [x1, y1]) (j := 0) rfl, l, _, _, rfl, rfl, upd_same, ?_, ?_⟩
      · rw [List.length_append, List.length_reverse, List.length_singleton]
        rw [List.length_cons] at hlen
        have e1 : sizes (Tr.nod l1 r1 :: us) = (l1.size + 1 + r1.size) + sizes us := rfl
        exact small1000 (by omega)
      rw [rev_push, rev_push]
      refine ⟨_, ?_, x1 :: y1 :: xs, l1 :: r1 :: us, n + 1, _, rfl, fun b o e => ?_, upd_same, .cons hl1 (.cons hr1 hxs), ?_, ?_, rfl⟩
      · show 2 * l1.size + 1 + (2 * r1.size + 1 + turns us) < 2 * (l1.size + 1 + r1.size) + 1 + turns us
        omega
      · rw [upd_ne (ne_of_none e hl), upd_ne (ne_of_none e hl)]
        exact sm2 b o e
      · have e1 : sizes (Tr.nod l1 r1 :: us) = (l1.size + 1 + r1.size) + sizes us := rfl
        show n + 1 + (l1.size + (r1.size + sizes us)) = t.size
        omega
      · rw [List.length_cons] at hlen
        show xs.length + 1 + 1 ≤ n + 1 + 1
        omega
/-! ### check_tree -/
theorem sc_chkT : FnScope n_check_tree ["tree"] (defScope s_check_tree) := ⟨rfl, rfl, rfl, by decide +kernel, rfl, by decide +kernel, by decide +kernel⟩
def spChkT : Sp := fun vs H Q _ => ∃ (v : V) (t : Tr), vs = [v] ∧ TrAt H v t ∧ t.size ≤ 1000 ∧ ∀ H', Same H H' → Q .non H'
theorem ok_chkT (T : Df P w K mg base "is_tree" 1 ["thing"] spTree) (a : At K mg "check_tree" s_check_tree) : Df P w K mg base "check_tree" 2 ["tree"] spChkT := by
  refine Df.mk' a sc_chkT (fun vs H Q E h => ?_) (fun _ _ _ _ _ _ us hl => match us, hl with | [_], _ => rfl) (fun f cdv A outer s H vs Q E hr h => ?_)
  · obtain ⟨v, t, rfl, _⟩ := h
    rfl
  obtain ⟨v, t, rfl, ht, hz, q⟩ := h
  refine ⟨_, pss_one (ps_if (pt_not (pt_val (pe_df T hr (pa_cons (pv 0) pa_nil)))) (pss_one ps_never) pss_nil), ?_⟩
  refine ⟨v, rfl, v, t, rfl, ht, hz, fun H' sm => ⟨true, rfl, iteF ?_⟩⟩
  exact q H' sm
end
end HSP
namespace HSP
open PySem PySem.Spec PyProof.Rows L2
/-! ## max(.., default=None), min(.., default=None) of ints -/
theorem maxOf_spec : ∀ (ys : List Int) (y : Int), (PySem.W.maxOf y ys) ∈ y :: ys ∧ ∀ z, z ∈ y :: ys → z ≤ PySem.W.maxOf y ys
  | [], y => ⟨List.mem_cons_self, fun z hz => by rw [List.mem_singleton.mp hz]; exact Int.le_refl y⟩
  | x :: r, y => by
    have e : PySem.W.maxOf y (x :: r) = PySem.W.maxOf (if y < x then x else y) r := by
      unfold PySem.W.maxOf
      rw [List.foldl_cons]
      show List.foldl _ (if decide (y < x) = true then x else y) r = _
      by_cases c : y < x
      · rw [if_pos c, if_pos (decide_eq_true c)]
      · rw [if_neg c, if_neg (fun z => c (of_decide_eq_true z))]
    rw [e]
    obtain ⟨h1, h2⟩ := maxOf_spec r (if y < x then x else y)
    generalize PySem.W.maxOf (if y < x then x else y) r = M at h1 h2 ⊢
    constructor
    · rcases List.mem_cons.mp h1 with z | z
      · rw [z]
        split
        · exact List.mem_cons_of_mem _ List.mem_cons_self
        · exact List.mem_cons_self
      · exact List.mem_cons_of_mem _ (List.mem_cons_of_mem _ z)
    · intro z hz
      have h3 := h2 (if y < x then x else y) List.mem_cons_self
      rcases List.mem_cons.mp hz with q | q
      · rw [q]
        split at h3 <;> omega
      · rcases List.mem_cons.mp q with q | q
        · rw [q]
          split at h3 <;> omega
        · exact h2 z (List.mem_cons_of_mem _ q)
theorem minOf_spec : ∀ (ys : List Int) (y : Int), (PySem.W.minOf y ys) ∈ y :: ys ∧ ∀ z, z ∈ y :: ys → PySem.W.minOf y ys ≤ z
  | [], y => ⟨List.mem_cons_self, fun z hz => by rw [List.mem_singleton.mp hz]; exact Int.le_refl y⟩
  | x :: r, y => by
    have e : PySem.W.minOf y (x :: r) = PySem.W.minOf (if x < y then x else y) r := by
      unfold PySem.W.minOf
      rw [List.foldl_cons]
      show List.foldl _ (if decide (x < y) = true then x else y) r = _
      by_cases c : x < y
      · rw [if_pos c, if_pos (decide_eq_true c)]
      · rw [if_neg c, if_neg (fun z => c (of_decide_eq_true z))]
    rw [e]
    obtain ⟨h1, h2⟩ := minOf_spec r (if x < y then x else y)
    generalize PySem.W.minOf (if x < y then x else y) r = M at h1 h2 ⊢
    constructor
    · rcases List.mem_cons.mp h1 with z | z
      · rw [z]
        split
        · exact List.mem_cons_of_mem _ List.mem_cons_self
        · exact List.mem_cons_self
      · exact List.mem_cons_of_mem _ (List.mem_cons_of_mem _ z)
    · intro z hz
      have h3 := h2 (if x < y then x else y) List.mem_cons_self
      rcases List.mem_cons.mp hz with q | q
      · rw [q]
        split at h3 <;> omega
      · rcases List.mem_cons.mp q with q | q
        · rw [q]
          split at h3 <;> omega
        · exact h2 z (List.mem_cons_of_mem _ q)
theorem holds_is {h : Heap} {v : Value} {i : Int} (q : PySem.W.Holds h v i) : ∃ t, v = .int i t := by
  obtain ⟨as, r⟩ := q
  cases r with
  | int _ t => exact ⟨t, rfl⟩
section
variable {X : Cx}
def rMaxN : List V → List V → Hp → VK → Prop := fun vs zs H Q => ∃ (a : Addr) (ns : List Int), vs = [V.ref a] ∧ zs = [V.non] ∧ H a = some (.lst (ns.map V.int)) ∧ (ns = [] → Q .non H) ∧ ∀ m, m ∈ ns → (∀ y, y ∈ ns → y ≤ m) → Q (.int m) H
def rMinN : List V → List V → Hp → VK → Prop := fun vs zs H Q => ∃ (a : Addr) (ns : List Int), vs = [V.ref a] ∧ zs = [V.non] ∧ H a = some (.lst (ns.map V.int)) ∧ (ns = [] → Q .non H) ∧ ∀ m, m ∈ ns → (∀ y, y ∈ ns → m ≤ y) → Q (.int m) H
theorem crk_maxN (hc : X.calm = true) (hu : X.A.units + 64 < cLine) : CallRK X (.builtin "max") ["default"] rMaxN := by
  intro pins s σ H xs zs us ws Q I r rz h
  obtain ⟨a, ns, rfl, rfl, ha, q0, q1⟩ := h
  rw [Vals.ref1 r]
  obtain ⟨z, its, n, rv, e⟩ : ObjOk X.prog X.w H s.heap a (.lst (ns.map V.int)) := I.hok a _ ha
  cases rz with
  | cons r1 t1 =>
    cases t1
    cases (show _ = Value.none from r1)
    refine PySem.W.max_list_datum_default (I.ok.hd hc) (show s.heap.IsList a its.toArray from ⟨_, e, rfl, n, rfl⟩) (PySem.W.HoldAll.of_ints (ints_of_vals rv)) (by show X.A.units + 1 + 0 < cLine; omega) (fun e0 h' tk kp => ?_) (fun y ys i v h' tk ey _ hv kp => ?_)
    · exact ⟨.non, H, I.kept kp, rfl, q0 e0⟩
    · obtain ⟨t, rfl⟩ := holds_is hv
      obtain ⟨m1, m2⟩ := maxOf_spec ys y
      exact ⟨.int _, H, I.kept kp, ⟨t, rfl⟩, q1 _ (by rw [ey]; exact m1) (by rw [ey]; exact m2)⟩
theorem crk_minN (hc : X.calm = true) (hu : X.A.units + 64 < cLine) : CallRK X (.builtin "min") ["default"] rMinN := by
  intro pins s σ H xs zs us ws Q I r rz h
  obtain ⟨a, ns, rfl, rfl, ha, q0, q1⟩ := h
  rw [Vals.ref1 r]
  obtain ⟨z, its, n, rv, e⟩ : ObjOk X.prog X.w H s.heap a (.lst (ns.map V.int)) := I.hok a _ ha
  cases rz with
  | cons r1 t1 =>
    cases t1
    cases (show _ = Value.none from r1)
    refine PySem.W.min_list_datum_default (I.ok.hd hc) (show s.heap.IsList a its.toArray from ⟨_, e, rfl, n, rfl⟩) (PySem.W.HoldAll.of_ints (ints_of_vals rv)) (by show X.A.units + 1 + 0 < cLine; omega) (fun e0 h' tk kp => ?_) (fun y ys i v h' tk ey _ hv kp => ?_)
    · exact ⟨.non, H, I.kept kp, rfl, q0 e0⟩
    · obtain ⟨t, rfl⟩ := holds_is hv
      obtain ⟨m1, m2⟩ := minOf_spec ys y
      exact ⟨.int _, H, I.kept kp, ⟨t, rfl⟩, q1 _ (by rw [ey]; exact m1) (by rw [ey]; exact m2)⟩
end
end HSP
namespace HSP
open PySem PySem.Spec PyProof.Rows L2
theorem Paired.app {α β : Type} {R : α → β → Prop} : ∀ {l : List α} {m : List β} {l' : List α} {m' : List β}, Paired R l m → Paired R l' m' → Paired R (l ++ l') (m ++ m')
  | _, _, _, _, .nil, h => h
  | _, _, _, _, .cons a t, h => .cons a (Paired.app t h)
theorem ixN_in {n : Nat} {i : Int} (h0 : 0 ≤ i) (h1 : i < (n : Int)) : ixN n i = some i.toNat := by
  unfold ixN
  rw [if_pos h0, if_pos h1]
def valAt (ns : List Int) (i : Nat) : Int := ns.getD i 0
theorem valAt_get {ns : List Int} {i : Nat} (h : i < ns.length) : (ns.map V.int)[i]? = some (.int (valAt ns i)) := by
  rw [List.getElem?_map, List.getElem?_eq_getElem h, valAt, List.getD_eq_getElem?_getD, List.getElem?_eq_getElem h]
  rfl
def natV (n : Nat) : V := .int (n : Int)
theorem ite_no {c A B : Prop} [Decidable c] (h : ¬ c) (b : B) : if decide c = true then A else B := by
  rw [decide_eq_false h]
  exact iteF b
theorem ite_yes {c A B : Prop} [Decidable c] (h : c) (a : A) : if decide c = true then A else B := by
  rw [decide_eq_true h]
  exact iteT a
inductive Md where
  | fin | lft | rgt
def Md.str : Md → Str
  | .fin => "end"
  | .lft => "left"
  | .rgt => "right"
/-- where a search goes on -/
def wayOf (tw v : Int) (m : Md) : Md := if tw = 2 * v then m else if tw < 2 * v then .lft else .rgt
/-! ### the search, as a function of the tree -/
/-- how it ends: is it found, and the node or the gap -/
def sEnd (g : Nat → Int) (tw : Int) (m : Md) : Tr → Nat → Bool × Nat
  | .nil, f => (false, f)
  | .nod l r, f => match wayOf tw (g (f + l.size)) m with
    | .fin => (true, f + l.size)
    | .lft => sEnd g tw m l f
    | .rgt => sEnd g tw m r (f + l.size + 1)
theorem sEnd_nod (g : Nat → Int) (tw : Int) (m : Md) (l r : Tr) (f : Nat) : sEnd g tw m (.nod l r) f = match wayOf tw (g (f + l.size)) m with | .fin => (true, f + l.size) | .lft => sEnd g tw m l f | .rgt => sEnd g tw m r (f + l.size + 1) := rfl
/-- the nodes at which it is -/
def sPath (g : Nat → Int) (tw : Int) (m : Md) : Tr → Nat → List Nat
  | .nil, _ => []
  | .nod l r, f => (f + l.size) :: match wayOf tw (g (f + l.size)) m with
    | .fin => []
    | .lft => sPath g tw m l f
    | .rgt => sPath g tw m r (f + l.size + 1)
theorem sPath_in (g : Nat → Int) (tw : Int) (m : Md) : ∀ (t : Tr) (f i : Nat), i ∈ sPath g tw m t f → f ≤ i ∧ i < f + t.size
  | .nil, _, _, h => by cases h
  | .nod l r, f, i, h => by
    have e : sPath g tw m (.nod l r) f = (f + l.size) :: match wayOf tw (g (f + l.size)) m with | .fin => [] | .lft => sPath g tw m l f | .rgt => sPath g tw m r (f + l.size + 1) := rfl
    have z : (Tr.nod l r).size = l.size + 1 + r.size := rfl
    rw [e] at h
    rw [z]
    rcases List.mem_cons.mp h with q | q
    · omega
    · cases w : wayOf tw (g (f + l.size)) m with
      | fin => rw [w] at q; cases q
      | lft =>
        rw [w] at q
        have := sPath_in g tw m l f i q
        omega
      | rgt =>
        rw [w] at q
        have := sPath_in g tw m r (f + l.size + 1) i q
        omega
theorem sPath_len (g : Nat → Int) (tw : Int) (m : Md) : ∀ (t : Tr) (f : Nat), (sPath g tw m t f).length ≤ t.size
  | .nil, _ => Nat.le_refl _
  | .nod l r, f => by
    have e : sPath g tw m (.nod l r) f = (f + l.size) :: match wayOf tw (g (f + l.size)) m with | .fin => [] | .lft => sPath g tw m l f | .rgt => sPath g tw m r (f + l.size + 1) := rfl
    have z : (Tr.nod l r).size = l.size + 1 + r.size := rfl
    rw [e, z, List.length_cons]
    cases wayOf tw (g (f + l.size)) m with
    | fin => show 0 + 1 ≤ _; omega
    | lft => have := sPath_len g tw m l f; show (sPath g tw m l f).length + 1 ≤ _; omega
    | rgt => have := sPath_len g tw m r (f + l.size + 1); show (sPath g tw m r (f + l.size + 1)).length + 1 ≤ _; omega
def optNV : Option Nat → V
  | none => .non
  | some n => natV n
def kindV (b : Bool) : V := if b = true then .str "found" else .str "gap"
end HSP
namespace HSP
open PySem PySem.Spec PyProof.Rows L2
/-! ## heaps: all but some places stay -/
def Stay (X : List Addr) (H H' : Hp) : Prop := ∀ b o, b ∉ X → H b = some o → H' b = some o
theorem Stay.refl (X : List Addr) (H : Hp) : Stay X H H := fun _ _ _ e => e
theorem Stay.trans {X : List Addr} {H H1 H2 : Hp} (a : Stay X H H1) (b : Stay X H1 H2) : Stay X H H2 := fun c o n e => b c o n (a c o n e)
theorem Stay.of {X : List Addr} {H H' : Hp} (s : Same H H') : Stay X H H' := fun b o _ e => s b o e
theorem Stay.new {X : List Addr} {H : Hp} {p : Addr} {o : HO} (h : H p = none) : Stay X H (upd H p o) := fun b u _ e => by
  rw [upd_ne (ne_of_none e h)]; exact e
theorem Stay.at {X : List Addr} {H : Hp} {p : Addr} {o : HO} (h : p ∈ X) : Stay X H (upd H p o) := fun b u n e => by
  rw [upd_ne (fun z : b = p => n (by rw [z]; exact h))]; exact e
theorem Stay.mono {X Y : List Addr} {H H' : Hp} (a : Stay X H H') (h : ∀ x, x ∈ X → x ∈ Y) : Stay Y H H' := fun b o n e => a b o (fun z => n (h b z)) e
theorem Stay.then {X : List Addr} {H H1 H2 : Hp} (a : Stay X H H1) (b : Same H1 H2) : Stay X H H2 := a.trans (.of b)
theorem Stay.anew {X : List Addr} {H H1 : Hp} {p : Addr} {o : HO} (a : Stay X H H1) (h : H1 p = none) : Stay X H (upd H1 p o) := a.trans (.new h)
theorem Stay.put {X : List Addr} {H H1 : Hp} {p : Addr} {o : HO} (a : Stay X H H1) (h : p ∈ X) : Stay X H (upd H1 p o) := a.trans (.at h)
theorem Stay.free {X : List Addr} {H H' : Hp} {b : Addr} (a : Stay X H H') (n : b ∉ X) (h : H' b = none) : H b = none := by
  cases e : H b with
  | none => rfl
  | some o => cases h.symm.trans (a b o n e)
/-- what was not tracked at first may be written -/
theorem Stay.same {X : List Addr} {H H1 H' : Hp} (s : Same H H1) (n : ∀ x, x ∈ X → H x = none) (k : Stay X H1 H') : Same H H' := fun b o e => k b o (fun z => by rw [n b z] at e; cases e) (s b o e)
theorem no2 {a b c : Addr} (h1 : a ≠ b) (h2 : a ≠ c) : a ∉ [b, c] := fun z => by
  rcases List.mem_cons.mp z with q | q
  · exact h1 q
  · exact h2 (List.mem_singleton.mp q)
theorem no1 {a b : Addr} (h1 : a ≠ b) : a ∉ [b] := fun z => h1 (List.mem_singleton.mp z)
theorem in2l {a b : Addr} : a ∈ [a, b] := List.mem_cons_self
theorem in2r {a b : Addr} : b ∈ [a, b] := List.mem_cons_of_mem _ List.mem_cons_self
theorem in1 {a : Addr} : a ∈ [a] := List.mem_cons_self
theorem tup_ne {H : Hp} {a b : Addr} {xs ys : List V} (h : H a = some (.tup xs)) (h2 : H b = some (.lst ys)) : a ≠ b := fun z => by
  rw [z, h2] at h; cases h
theorem TrAt.stay {X : List Addr} {H H' : Hp} {v : V} {t : Tr} (h : TrAt H v t) (k : Stay X H H') (n : ∀ x, x ∈ X → ∃ ys, H x = some (.lst ys)) : TrAt H' v t :=
  h.keep fun a x y e => k a _ (fun z => by
    obtain ⟨ys, q⟩ := n a z
    rw [q] at e
    cases e) e
theorem valAt_mem {ns : List Int} {i : Nat} (h : i < ns.length) : valAt ns i ∈ ns := by
  have e : valAt ns i = ns[i] := by
    unfold valAt
    rw [List.getD_eq_getElem?_getD, List.getElem?_eq_getElem h]
    rfl
  rw [e]
  exact List.getElem_mem h
theorem TrAt.put {H : Hp} {v : V} {t : Tr} {a : Addr} {xs : List V} {o : HO} (h : TrAt H v t) (e : H a = some (.lst xs)) : TrAt (upd H a o) v t := by
  refine h.keep fun b x y eb => ?_
  rw [upd_ne]
  · exact eb
  · intro z
    rw [z, e] at eb
    cases eb
theorem Keep.free {p q : Addr} {H H' : Hp} (k : Keep p H H') (n : q ≠ p) (h : H' q = none) : H q = none := by
  cases e : H q with
  | none => rfl
  | some o => cases h.symm.trans (k q o n e)
theorem Paired.getL {α β : Type} {R : α → β → Prop} : ∀ {l : List α} {m : List β} {i : Nat} {x : α}, Paired R l m → l[i]? = some x → ∃ y, m[i]? = some y ∧ R x y
  | _, _, i, _, .nil, e => by simp at e
  | _, _, 0, _, .cons h _, e => by
    cases Option.some.inj (show some _ = some _ from e)
    exact ⟨_, rfl, h⟩
  | _, _, i + 1, _, .cons _ t, e => Paired.getL (i := i) t e
end HSP
namespace HSP
open PySem PySem.Spec PyProof.Rows L2
/-! ### the paths of the nodes -/
/-- the ancestors of the node i, from the root down, and whether it lies right of them -/
def pOf : Tr → Nat → Nat → List (Nat × Bool)
  | .nil, _, _ => []
  | .nod l r, f, i => if i = f + l.size then [] else if i < f + l.size then (f + l.size, false) :: pOf l f i else (f + l.size, true) :: pOf r (f + l.size + 1) i
def sideV (b : Bool) : V := if b = true then .str "right" else .str "left"
/-- a path stands at r -/
def PathAt (H : Hp) (r : Addr) (p : List (Nat × Bool)) : Prop := ∃ tups : List Addr, H r = some (.lst (tups.map V.ref)) ∧ Paired (fun a (z : Nat × Bool) => H a = some (.tup [natV z.1, sideV z.2])) tups p
theorem PathAt.same {H H' : Hp} {r : Addr} {p : List (Nat × Bool)} (h : PathAt H r p) (s : Same H H') : PathAt H' r p := by
  obtain ⟨t, e, q⟩ := h
  exact ⟨t, s _ _ e, Paired.mapP q fun a z h => s _ _ h⟩
theorem PathAt.put {H : Hp} {r x : Addr} {p : List (Nat × Bool)} {xs ys : List V} (h : PathAt H r p) (n : r ≠ x) (hx : H x = some (.lst xs)) : PathAt (upd H x (.lst ys)) r p := by
  obtain ⟨t, e, q⟩ := h
  refine ⟨t, by rw [upd_ne n]; exact e, Paired.mapP q fun a z h => ?_⟩
  rw [upd_ne (fun e2 => by rw [e2, hx] at h; cases h)]
  exact h
theorem PathAt.stay {X : List Addr} {H H' : Hp} {r : Addr} {p : List (Nat × Bool)} (h : PathAt H r p) (k : Stay X H H') (n : r ∉ X) (hX : ∀ x, x ∈ X → ∃ ys, H x = some (.lst ys)) : PathAt H' r p := by
  obtain ⟨t, e, q⟩ := h
  refine ⟨t, k _ _ n e, Paired.mapP q fun a z h => k _ _ (fun m => ?_) h⟩
  obtain ⟨ys, e2⟩ := hX a m
  rw [e2] at h
  cases h
theorem PathAt.len {H : Hp} {r : Addr} {p : List (Nat × Bool)} {ts : List Addr} (h : Paired (fun a (z : Nat × Bool) => H a = some (.tup [natV z.1, sideV z.2])) ts p) : ts.length = p.length := Paired.length h
/-- all paths stand in the list at q, each one in a list of its own -/
def WaysAt (H : Hp) (q : Addr) (t : Tr) : Prop := ∃ rows : List Addr, H q = some (.lst (rows.map V.ref)) ∧ rows.length = t.size ∧ ∀ i r, rows[i]? = some r → PathAt H r (pOf t 0 i)
theorem pOf_len : ∀ (t : Tr) (f i : Nat), (pOf t f i).length ≤ t.size
  | .nil, _, _ => Nat.le_refl _
  | .nod l r, f, i => by
    have h1 := pOf_len l f i
    have h2 := pOf_len r (f + l.size + 1) i
    unfold pOf
    show _ ≤ l.size + 1 + r.size
    split
    · exact Nat.zero_le _
    · split <;> (rw [List.length_cons]; omega)
theorem pOf_in : ∀ (t : Tr) (f i : Nat) (z : Nat × Bool), z ∈ pOf t f i → f ≤ z.1 ∧ z.1 < f + t.size
  | .nil, _, _, _, h => by cases h
  | .nod l r, f, i, z, h => by
    have e : pOf (.nod l r) f i = if i = f + l.size then [] else if i < f + l.size then (f + l.size, false) :: pOf l f i else (f + l.size, true) :: pOf r (f + l.size + 1) i := rfl
    have sz : (Tr.nod l r).size = l.size + 1 + r.size := rfl
    rw [e] at h
    rw [sz]
    split at h
    · cases h
    · split at h
      · rcases List.mem_cons.mp h with q | q
        · rw [q]
          exact ⟨(by show f ≤ f + l.size; omega), (by show f + l.size < f + (l.size + 1 + r.size); omega)⟩
        · have := pOf_in l f i z q
          omega
      · rcases List.mem_cons.mp h with q | q
        · rw [q]
          exact ⟨(by show f ≤ f + l.size; omega), (by show f + l.size < f + (l.size + 1 + r.size); omega)⟩
        · have := pOf_in r (f + l.size + 1) i z q
          omega
theorem pOf_in0 (t : Tr) (i : Nat) (z : Nat × Bool) (h : z ∈ pOf t 0 i) : z.1 < t.size := by
  have := pOf_in t 0 i z h
  omega
/-- the nodes, the root first, then those of the left part, then those of the right part, each with its path -/
def pre : Tr → Nat → List (Nat × Bool) → List (Nat × List (Nat × Bool))
  | .nil, _, _ => []
  | .nod l r, f, p => (f + l.size, p) :: (pre l f (p ++ [(f + l.size, false)]) ++ pre r (f + l.size + 1) (p ++ [(f + l.size, true)]))
theorem pre_len : ∀ (t : Tr) (f : Nat) (p : List (Nat × Bool)), (pre t f p).length = t.size
  | .nil, _, _ => rfl
  | .nod l r, f, p => by
    show ((f + l.size, p) :: (pre l f (p ++ [(f + l.size, false)]) ++ pre r (f + l.size + 1) (p ++ [(f + l.size, true)]))).length = l.size + 1 + r.size
    rw [List.length_cons, List.length_append, pre_len l, pre_len r]
    omega
theorem pOf_nod (l r : Tr) (f i : Nat) : pOf (.nod l r) f i = if i = f + l.size then [] else if i < f + l.size then (f + l.size, false) :: pOf l f i else (f + l.size, true) :: pOf r (f + l.size + 1) i := rfl
theorem pre_nod (l r : Tr) (f : Nat) (p : List (Nat × Bool)) : pre (.nod l r) f p = (f + l.size, p) :: (pre l f (p ++ [(f + l.size, false)]) ++ pre r (f + l.size + 1) (p ++ [(f + l.size, true)])) := rfl
theorem size_nod (l r : Tr) : (Tr.nod l r).size = l.size + 1 + r.size := rfl
theorem pre_in : ∀ (t : Tr) (f : Nat) (p : List (Nat × Bool)) (n : Nat) (s : List (Nat × Bool)), (n, s) ∈ pre t f p → f ≤ n ∧ n < f + t.size ∧ s = p ++ pOf t f n
  | .nil, _, _, _, _, h => by cases h
  | .nod l r, f, p, n, s, h => by
    rw [pre_nod] at h
    rw [size_nod, pOf_nod]
    rcases List.mem_cons.mp h with z | z
    · obtain ⟨rfl, rfl⟩ := Prod.mk.inj z
      refine ⟨by omega, by omega, ?_⟩
      rw [if_pos rfl, List.append_nil]
    · rcases List.mem_append.mp z with z | z
      · obtain ⟨h1, h2, h3⟩ := pre_in l f _ n s z
        refine ⟨h1, by omega, ?_⟩
        rw [if_neg (by omega), if_pos (by omega), h3, List.append_assoc]
        rfl
      · obtain ⟨h1, h2, h3⟩ := pre_in r (f + l.size + 1) _ n s z
        refine ⟨by omega, by omega, ?_⟩
        rw [if_neg (by omega), if_neg (by omega), h3, List.append_assoc]
        rfl
theorem pre_mem : ∀ (t : Tr) (f : Nat) (p : List (Nat × Bool)) (n : Nat), f ≤ n → n < f + t.size → (n, p ++ pOf t f n) ∈ pre t f p
  | .nil, f, _, n, h1, h2 => by
    have : n < f + 0 := h2
    omega
  | .nod l r, f, p, n, h1, h2 => by
    rw [size_nod] at h2
    rw [pre_nod, pOf_nod]
    by_cases c : n = f + l.size
    · rw [if_pos c, List.append_nil, c]
      exact List.mem_cons_self
    · rw [if_neg c]
      refine List.mem_cons_of_mem _ ?_
      by_cases d : n < f + l.size
      · rw [if_pos d]
        have h := pre_mem l f (p ++ [(f + l.size, false)]) n h1 d
        rw [List.append_assoc] at h
        exact List.mem_append.mpr (.inl h)
      · rw [if_neg d]
        have h := pre_mem r (f + l.size + 1) (p ++ [(f + l.size, true)]) n (by omega) (by omega)
        rw [List.append_assoc] at h
        exact List.mem_append.mpr (.inr h)
/-- a row: a node with its path -/
def RowAt (H : Hp) (R : Addr) (z : Nat × List (Nat × Bool)) : Prop := ∃ b, H R = some (.tup [natV z.1, .ref b]) ∧ PathAt H b z.2
theorem RowAt.same {H H' : Hp} {R : Addr} {z : Nat × List (Nat × Bool)} (h : RowAt H R z) (s : Same H H') : RowAt H' R z := by
  obtain ⟨b, e, q⟩ := h
  exact ⟨b, s _ _ e, q.same s⟩
/-- what waits: a tree, its first node, the path to it -/
structure Wt where
  v : V
  u : Tr
  f : Nat
  b : Addr
  p : List (Nat × Bool)
def WtOk (H0 H : Hp) (X : List Addr) (T : Addr) (x : Wt) : Prop := H T = some (.tup [x.v, natV x.f, .ref x.b]) ∧ TrAt H0 x.v x.u ∧ PathAt H x.b x.p ∧ x.b ∉ X ∧ H0 x.b = none
theorem WtOk.stay {H0 H H' : Hp} {X : List Addr} {T : Addr} {x : Wt} (h : WtOk H0 H X T x) (s : Stay X H H') (hX : ∀ x, x ∈ X → ∃ ys, H x = some (.lst ys)) : WtOk H0 H' X T x := by
  obtain ⟨h1, h2, h3, h4, h5⟩ := h
  refine ⟨s _ _ (fun m => ?_) h1, h2, h3.stay s h4 hX, h4, h5⟩
  obtain ⟨ys, e⟩ := hX T m
  rw [e] at h1
  cases h1
def RowOk (H0 H : Hp) (X : List Addr) (R : Addr) (z : Nat × List (Nat × Bool)) : Prop := ∃ b, H R = some (.tup [natV z.1, .ref b]) ∧ PathAt H b z.2 ∧ b ∉ X ∧ H0 b = none
theorem RowOk.stay {H0 H H' : Hp} {X : List Addr} {R : Addr} {z : Nat × List (Nat × Bool)} (h : RowOk H0 H X R z) (s : Stay X H H') (hX : ∀ x, x ∈ X → ∃ ys, H x = some (.lst ys)) : RowOk H0 H' X R z := by
  obtain ⟨b, h1, h2, h3, h4⟩ := h
  refine ⟨b, s _ _ (fun m => ?_) h1, h2.stay s h3 hX, h3, h4⟩
  obtain ⟨ys, e⟩ := hX R m
  rw [e] at h1
  cases h1
def wtTurns : List Wt → Nat
  | [] => 0
  | x :: r => 2 * x.u.size + 1 + wtTurns r
def wtSizes : List Wt → Nat
  | [] => 0
  | x :: r => x.u.size + wtSizes r
def wtPre : List Wt → List (Nat × List (Nat × Bool))
  | [] => []
  | x :: r => pre x.u x.f x.p ++ wtPre r
/-- a path with one step more, laid anew -/
theorem path_more {H : Hp} {t1 l1 a1 : Addr} {p : List (Nat × Bool)} {z : Nat × Bool} {tups : List Addr} {x y : V} (hx : x = natV z.1) (hy : y = sideV z.2) (hp : Paired (fun a (z : Nat × Bool) => H a = some (.tup [natV z.1, sideV z.2])) tups p) (h1 : H t1 = none) (h2 : upd H t1 (.tup [x, y]) l1 = none)
    (h3 : upd (upd H t1 (.tup [x, y])) l1 (.lst [V.ref t1]) a1 = none) : PathAt (upd (upd (upd H t1 (.tup [x, y])) l1 (.lst [V.ref t1])) a1 (.lst (tups.map V.ref ++ [V.ref t1]))) a1 (p ++ [z]) := by
  subst hx hy
  have s1 := Same.new (o := .tup [natV z.1, sideV z.2]) h1
  have s2 := Same.new (o := .lst [V.ref t1]) h2
  have s3 := Same.new (o := .lst (tups.map V.ref ++ [V.ref t1])) h3
  refine ⟨tups ++ [t1], ?_, Paired.app (Paired.mapP hp fun a z h => s3 _ _ (s2 _ _ (s1 _ _ h))) (.cons (s3 _ _ (s2 _ _ upd_same)) .nil)⟩
  rw [upd_same, List.map_append]
  rfl
section
variable {P : Program} {w : World} {K : PySem.W.Frag} {mg : Str → Option Value} {base : Heap}
theorem sc_walk : FnScope n_walk ["tree"] (defScope s_walk) := ⟨rfl, rfl, rfl, by decide +kernel, rfl, by decide +kernel, by decide +kernel⟩
def spWalk : Sp := fun vs H Q _ => ∃ (v : V) (t : Tr), vs = [v] ∧ TrAt H v t ∧ t.size ≤ 300 ∧ ∀ (H' : Hp) (q : Addr) (rows : List Addr), Same H H' → H q = none → H' q = some (.lst (rows.map V.ref)) → Paired (fun R z => ∃ b, H' R = some (.tup [natV z.1, .ref b]) ∧ PathAt H' b z.2 ∧ b ≠ q ∧ H b = none) rows (pre t 0 []) → Q (.ref q) H'
theorem ok_walk (C : Df P w K mg base "count_nodes" 1 ["tree"] spCount) (a : At K mg "walk" s_walk) : Df P w K mg base "walk" 2 ["tree"] spWalk := by
  refine Df.mk' a sc_walk (fun vs H Q E h => ?_) (fun _ _ _ _ _ _ us hl => match us, hl with | [_], _ => rfl) (fun f cdv A outer s H vs Q E hr h => ?_)
  · obtain ⟨v, t, rfl, _⟩ := h
    rfl
  obtain ⟨v, t, rfl, ht, hz, q⟩ := h
  refine ⟨_, (pss_cons (ps_set (i := 1) sc_walk.nd rfl (.inl rfl) (pe_lst pa_nil))
 (pss_cons (ps_set (i := 2) sc_walk.nd rfl (.inl rfl) (pe_lst (pa_cons (pe_tup (pa_cons (pv 0) (pa_cons pe_int (pa_cons (pe_lst pa_nil) pa_nil)))) pa_nil)))
 (pss_cons (ps_while PassesOwn.never (pt_truth (pv 2) (by intro _; rfl)) (pss_cons (ps_asg (pe_bm0 PySem.F.plainAttrs_list PySem.F.slot_list_pop PySem.F.type_list_pop mt_pop (pv 2)) (pg_tup rfl (pgs_cons (pg_name (i := 3) sc_walk.nd rfl (.inl rfl)) (pgs_cons (pg_name (i := 4) sc_walk.nd rfl (.inl rfl)) (pgs_cons (pg_name (i := 5) sc_walk.nd rfl (.inl rfl)) pgs_nil)))))
 (pss_one (ps_if (pt_cmpR op_notN (pv 3) pe_non (nomark _)) (pss_cons (ps_asg (pv 3) (pg_tup rfl (pgs_cons (pg_name (i := 6) sc_walk.nd rfl (.inl rfl)) (pgs_cons (pg_name (i := 7) sc_walk.nd rfl (.inl rfl)) pgs_nil))))
 (pss_cons (ps_set (i := 8) sc_walk.nd rfl (.inl rfl) (pe_op op_add (pv 4) (pe_df C hr (pa_cons (pv 6) pa_nil))))
 (pss_cons (ps_expr (pe_bm PySem.F.plainAttrs_list PySem.F.slot_list_append PySem.F.type_list_append mt_append (pv 1) (pa_cons (pe_tup (pa_cons (pv 8) (pa_cons (pv 5) pa_nil))) pa_nil)))
 (pss_cons (ps_expr (pe_bm PySem.F.plainAttrs_list PySem.F.slot_list_append PySem.F.type_list_append mt_append (pv 2) (pa_cons (pe_tup (pa_cons (pv 7) (pa_cons (pe_op op_add (pv 8) pe_int) (pa_cons (pe_op op_cat (pv 5) (pe_lst (pa_cons (pe_tup (pa_cons (pv 8) (pa_cons pe_str pa_nil))) pa_nil))) pa_nil)))) pa_nil)))
 (pss_one (ps_expr (pe_bm PySem.F.plainAttrs_list PySem.F.slot_list_append PySem.F.type_list_append mt_append (pv 2) (pa_cons (pe_tup (pa_cons (pv 6) (pa_cons (pv 4) (pa_cons (pe_op op_cat (pv 5) (pe_lst (pa_cons (pe_tup (pa_cons (pv 8) (pa_cons pe_str pa_nil))) pa_nil))) pa_nil)))) pa_nil)))))))) pss_nil))))
 (pss_one (ps_ret (pv 1)))))), ?_⟩
  refine ⟨Nat.zero_le _, fun q0 hq => ?_⟩
  refine ⟨v, rfl, Nat.zero_le _, fun ab hab => ⟨(by show 3 ≤ sizeLine; decide), fun T0 hT0 => ⟨(by show 1 ≤ sizeLine; decide), fun wl hwl => ?_⟩⟩⟩
  have t0 : Same H (upd H q0 (.lst [])) := Same.new hq
  have t1 := Same.new (o := .lst []) hab
  have t2 := Same.new (o := .tup [v, V.int 0, .ref ab]) hT0
  have t3 := Same.new (o := .lst [V.ref T0]) hwl
  have s3 := t0.trans (t1.trans (t2.trans t3))
  have hw : H wl = none := t0.free (t1.free (t2.free hwl))
  have eq3 := t3 _ _ (t2 _ _ (t1 _ _ (upd_same (H := H) (a := q0) (o := .lst []))))
  have nqw : q0 ≠ wl := ne_of_none (t2 _ _ (t1 _ _ upd_same)) hwl
  have nabw : ab ≠ wl := ne_of_none (t2 _ _ upd_same) hwl
  have nabq : ab ≠ q0 := (ne_of_none upd_same hab).symm
  have w0 : WtOk H (upd (upd (upd (upd H q0 (.lst [])) ab (.lst [])) T0 (.tup [v, V.int 0, .ref ab])) wl (.lst [V.ref T0])) [wl, q0] T0 ⟨v, t, 0, ab, []⟩ := ⟨t3 _ _ upd_same, ht, ⟨[], t3 _ _ (t2 _ _ upd_same), .nil⟩, no2 nabw nabq, t0.free hab⟩
  refine ⟨fun m σ H' => ∃ (ts : List Addr) (ws : List Wt) (rows : List Addr) (dn : List (Nat × List (Nat × Bool))) (y3 y4 y5 y6 y7 y8 : Option V), σ = [some v, some (.ref q0), some (.ref wl), y3, y4, y5, y6, y7, y8] ∧ Same H H' ∧ H' wl = some (.lst (ts.map V.ref).reverse) ∧ Paired (WtOk H H' [wl, q0]) ts ws ∧ H' q0 = some (.lst (rows.map V.ref)) ∧ Paired (RowOk H H' [wl, q0]) rows dn ∧
      pre t 0 [] = dn ++ wtPre ws ∧ (∀ x, x ∈ ws → x.p.length + x.u.size ≤ t.size) ∧ dn.length + wtSizes ws ≤ t.size ∧ ts.length + wtSizes ws ≤ t.size + 1 ∧ m = wtTurns ws,
    ⟨_, [T0], [⟨v, t, 0, ab, []⟩], [], [], _, _, _, _, _, _, rfl, s3, upd_same, .cons w0 .nil, eq3, .nil, ?_, fun x hx => ?_, ?_, ?_, rfl⟩, fun m σ H3 hW => ?_⟩
  · show pre t 0 [] = [] ++ (pre t 0 [] ++ [])
    rw [List.nil_append, List.append_nil]
  · rw [List.mem_singleton.mp hx]
    show 0 + t.size ≤ t.size
    omega
  · show 0 + (t.size + 0) ≤ t.size; omega
  · show 1 + (t.size + 0) ≤ t.size + 1; omega
  obtain ⟨ts, ws, rows, dn, y3, y4, y5, y6, y7, y8, rfl, s4, ew, pw, eq, pd, hpre, hin, hsz, hcnt, rfl⟩ := hW
  have hX : ∀ x, x ∈ [wl, q0] → ∃ ys, H3 x = some (.lst ys) := fun x hx => by
    rcases List.mem_cons.mp hx with z | z
    · exact ⟨_, z ▸ ew⟩
    · exact ⟨_, (List.mem_singleton.mp z) ▸ eq⟩
  refine ⟨.ref wl, rfl, !(ts.map V.ref).reverse.isEmpty, .inl ⟨_, .of ew, rfl⟩, ?_⟩
  rw [rev_empty]
  cases pw with
  | nil =>
    refine iteF ?_
    refine ⟨_, rfl, q H3 q0 rows s4 hq eq ?_⟩
    rw [hpre]
    show Paired _ rows (dn ++ [])
    rw [List.append_nil]
    exact Paired.mapP pd fun R z ⟨b, h1, h2, h3, h4⟩ => ⟨b, h1, h2, fun e => h3 (e ▸ in2r), h4⟩
  | @cons T x ts2 ws2 hx hxs =>
    obtain ⟨xv, xu, xf, xb, xp⟩ := x
    refine iteT ⟨fun σ' H' => ∃ m', m' < wtTurns (⟨xv, xu, xf, xb, xp⟩ :: ws2) ∧ ∃ (ts : List Addr) (ws : List Wt) (rows : List Addr) (dn : List (Nat × List (Nat × Bool))) (y3 y4 y5 y6 y7 y8 : Option V), σ' = [some v, some (.ref q0), some (.ref wl), y3, y4, y5, y6, y7, y8] ∧ Same H H' ∧ H' wl = some (.lst (ts.map V.ref).reverse) ∧ Paired (WtOk H H' [wl, q0]) ts ws ∧ H' q0 = some (.lst (rows.map V.ref)) ∧ Paired (RowOk H H' [wl, q0]) rows dn ∧
      pre t 0 [] = dn ++ wtPre ws ∧ (∀ x, x ∈ ws → x.p.length + x.u.size ≤ t.size) ∧ dn.length + wtSizes ws ≤ t.size ∧ ts.length + wtSizes ws ≤ t.size + 1 ∧ m' = wtTurns ws, fun σ' H' hN => hN, ?_⟩
    obtain ⟨eT, hxt, hpa', nb', fb'⟩ := hx
    have hpa : PathAt H3 xb xp := hpa'
    have nb : xb ∉ [wl, q0] := nb'
    have fb : H xb = none := fb'
    clear hpa' nb' fb'
    have nTw : T ≠ wl := tup_ne eT ew
    refine ⟨.ref wl, rfl, .inl ⟨rfl, _, .of ew⟩, wl, _, .ref T, rfl, rfl, ew, last_rev, ?_⟩
    rw [List.map_cons, drop_rev]
    have k5 : Stay [wl, q0] H3 (upd H3 wl (.lst (ts2.map V.ref).reverse)) := .at in2l
    have eT4 : (upd H3 wl (.lst (ts2.map V.ref).reverse)) T = some (.tup [xv, natV xf, .ref xb]) := by rw [upd_ne nTw]; exact eT
    refine ⟨T, _, rfl, .of eT4, rfl, _, _, rfl, _, _, rfl, _, [], rfl, rfl, ?_⟩
    have ew5 : (upd H3 wl (.lst (ts2.map V.ref).reverse)) wl = some (.lst (ts2.map V.ref).reverse) := upd_same
    have eq5 : (upd H3 wl (.lst (ts2.map V.ref).reverse)) q0 = some (.lst (rows.map V.ref)) := by rw [upd_ne nqw]; exact eq
    generalize upd H3 wl (.lst (ts2.map V.ref).reverse) = H5 at eT4 k5 ew5 eq5 ⊢
    have fr : ∀ x, x ∈ [wl, q0] → H x = none := fun x hx => by
      rcases List.mem_cons.mp hx with z | z
      · exact z ▸ hw
      · exact (List.mem_singleton.mp z) ▸ hq
    refine ⟨_, rfl, rfl, _, rfl, ?_⟩
    rw [List.length_cons] at hcnt
    have hin2 := fun x hx => hin x (List.mem_cons_of_mem _ hx)
    have hin1 : xp.length + xu.size ≤ t.size := hin ⟨xv, xu, xf, xb, xp⟩ List.mem_cons_self
    cases hxt with
    | nil =>
      refine iteF ?_
      have z1 : wtSizes (⟨.non, .nil, xf, xb, xp⟩ :: ws2) = 0 + wtSizes ws2 := rfl
      refine ⟨wtTurns ws2, by show wtTurns ws2 < 2 * 0 + 1 + wtTurns ws2; omega, ts2, ws2, rows, dn, _, _, _, _, _, _, rfl, k5.same s4 fr, ew5, Paired.mapP hxs fun a z h => h.stay k5 hX, eq5, Paired.mapP pd fun a z h => h.stay k5 hX, hpre, hin2, by omega, by omega, rfl⟩
    | @nod b x1 x2 l r eb hl hr2 =>
      refine iteT ?_
      have s5 := k5.same s4 fr
      rw [size_nod] at hin1
      have zz : wtSizes (⟨.ref b, .nod l r, xf, xb, xp⟩ :: ws2) = (l.size + 1 + r.size) + wtSizes ws2 := rfl
      rw [zz] at hsz hcnt
      have lrows : rows.length = dn.length := Paired.length pd
      refine ⟨_, rfl, b, [x1, x2], rfl, .of (s5 _ _ eb), rfl, x1, _, rfl, x2, [], rfl, rfl, ?_⟩
      refine ⟨_, rfl, x1, rfl, x1, l, rfl, hl.same s5, by omega, fun H6 s6 => ⟨_, _, rfl, rfl, ?_⟩⟩
      have en : V.int ((xf : Int) + (l.size : Int)) = natV (xf + l.size) := congrArg V.int (by omega)
      have k6 := k5.trans (.of s6)
      -- the row
      refine ⟨_, rfl, .inl ⟨rfl, _, .of (s6 _ _ eq5)⟩, _, rfl, _, rfl, (by show 2 ≤ sizeLine; decide), fun R hR => ?_⟩
      have a0 := Same.new (o := .tup [V.int ((xf : Int) + (l.size : Int)), .ref xb]) hR
      refine ⟨q0, _, _, rfl, rfl, a0 _ _ (s6 _ _ eq5), ?_, ?_⟩
      · rw [List.length_map]
        exact small1000 (by omega)
      have k7 := (k6.anew (p := R) (o := .tup [V.int ((xf : Int) + (l.size : Int)), .ref xb]) hR).put (p := q0) (o := .lst (rows.map V.ref ++ [V.ref R])) in2r
      have nRq : R ≠ q0 := (ne_of_none (s6 _ _ eq5) hR).symm
      have nRw : R ≠ wl := (ne_of_none (s6 _ _ ew5) hR).symm
      have eR7 : (upd (upd H6 R (.tup [V.int ((xf : Int) + (l.size : Int)), .ref xb])) q0 (.lst (rows.map V.ref ++ [V.ref R]))) R = some (.tup [natV (xf + l.size), .ref xb]) := by
        rw [upd_ne nRq, upd_same, en]
      have ew7 : (upd (upd H6 R (.tup [V.int ((xf : Int) + (l.size : Int)), .ref xb])) q0 (.lst (rows.map V.ref ++ [V.ref R]))) wl = some (.lst (ts2.map V.ref).reverse) := by
        rw [upd_ne nqw.symm]
        exact a0 _ _ (s6 _ _ ew5)
      have eq7 : (upd (upd H6 R (.tup [V.int ((xf : Int) + (l.size : Int)), .ref xb])) q0 (.lst (rows.map V.ref ++ [V.ref R]))) q0 = some (.lst ((rows ++ [R]).map V.ref)) := by
        rw [upd_same, List.map_append]
        rfl
      generalize upd (upd H6 R (.tup [V.int ((xf : Int) + (l.size : Int)), .ref xb])) q0 (.lst (rows.map V.ref ++ [V.ref R])) = H7 at k7 eR7 ew7 eq7 ⊢
      have en2 : V.int ((xf : Int) + (l.size : Int) + 1) = natV (xf + l.size + 1) := congrArg V.int (by omega)
      -- the right part waits
      obtain ⟨tups, exb, pt⟩ := hpa.stay k7 nb hX
      have ltp := Paired.length pt
      refine ⟨_, rfl, .inl ⟨rfl, _, .of ew7⟩, x2, rfl, _, rfl, _, _, rfl, rfl, _, rfl, _, rfl, (by show 2 ≤ sizeLine; decide), fun t2 ht2 => ⟨(by show 1 ≤ sizeLine; decide), fun l2 hl2 => ?_⟩⟩
      have a1 := Same.new (o := .tup [V.int ((xf : Int) + (l.size : Int)), .str "right"]) ht2
      have a2 := Same.new (o := .lst [V.ref t2]) hl2
      refine ⟨xb, l2, _, _, rfl, rfl, a2 _ _ (a1 _ _ exb), upd_same, ?_, fun c2 hc2 => ⟨(by show 3 ≤ sizeLine; decide), fun T2 hT2 => ?_⟩⟩
      · rw [List.length_map]
        show tups.length + 1 ≤ sizeLine
        exact Nat.le_of_lt (small1000 (by omega))
      have a3 := Same.new (o := .lst (tups.map V.ref ++ [V.ref t2])) hc2
      have a4 := Same.new (o := .tup [x2, V.int ((xf : Int) + (l.size : Int) + 1), .ref c2]) hT2
      have aS := a1.trans (a2.trans (a3.trans a4))
      have pm2 := (path_more (z := (xf + l.size, true)) en rfl pt ht2 hl2 hc2).same a4
      have nc2w : c2 ≠ wl := (ne_of_none (a2 _ _ (a1 _ _ ew7)) hc2).symm
      have nc2q : c2 ≠ q0 := (ne_of_none (a2 _ _ (a1 _ _ eq7)) hc2).symm
      refine ⟨wl, _, _, rfl, rfl, aS _ _ ew7, ?_, ?_⟩
      · rw [List.length_reverse, List.length_map]
        exact small1000 (by omega)
      have k8 := (k7.then aS).put (p := wl) (o := .lst ((ts2.map V.ref).reverse ++ [V.ref T2])) in2l
      have eq8 : (upd (upd (upd (upd (upd H7 t2 (.tup [V.int ((xf : Int) + (l.size : Int)), .str "right"])) l2 (.lst [V.ref t2])) c2 (.lst (tups.map V.ref ++ [V.ref t2]))) T2 (.tup [x2, V.int ((xf : Int) + (l.size : Int) + 1), .ref c2])) wl (.lst ((ts2.map V.ref).reverse ++ [V.ref T2]))) q0 = some (.lst ((rows ++ [R]).map V.ref)) := by
        rw [upd_ne nqw]
        exact aS _ _ eq7
      have kB : Stay [wl, q0] H7 (upd (upd (upd (upd (upd H7 t2 (.tup [V.int ((xf : Int) + (l.size : Int)), .str "right"])) l2 (.lst [V.ref t2])) c2 (.lst (tups.map V.ref ++ [V.ref t2]))) T2 (.tup [x2, V.int ((xf : Int) + (l.size : Int) + 1), .ref c2])) wl (.lst ((ts2.map V.ref).reverse ++ [V.ref T2]))) := ((Stay.of aS).put in2l)
      have w2 : WtOk H (upd (upd (upd (upd H7 t2 (.tup [V.int ((xf : Int) + (l.size : Int)), .str "right"])) l2 (.lst [V.ref t2])) c2 (.lst (tups.map V.ref ++ [V.ref t2]))) T2 (.tup [x2, V.int ((xf : Int) + (l.size : Int) + 1), .ref c2])) [wl, q0] T2 ⟨x2, r, xf + l.size + 1, c2, xp ++ [(xf + l.size, true)]⟩ := ⟨by rw [upd_same, en2], hr2, pm2, no2 nc2w nc2q, ((k7.same s4 fr).trans (a1.trans a2)).free hc2⟩
      have hX8 : ∀ x, x ∈ [wl, q0] → ∃ ys, (upd (upd (upd (upd H7 t2 (.tup [V.int ((xf : Int) + (l.size : Int)), .str "right"])) l2 (.lst [V.ref t2])) c2 (.lst (tups.map V.ref ++ [V.ref t2]))) T2 (.tup [x2, V.int ((xf : Int) + (l.size : Int) + 1), .ref c2])) x = some (.lst ys) := fun x hx => by
        rcases List.mem_cons.mp hx with z | z
        · exact ⟨_, z ▸ aS _ _ ew7⟩
        · exact ⟨_, (List.mem_singleton.mp z) ▸ aS _ _ eq7⟩
      have w28 := w2.stay (.at (p := wl) (o := .lst ((ts2.map V.ref).reverse ++ [V.ref T2])) in2l) hX8
      have ew8 : (upd (upd (upd (upd (upd H7 t2 (.tup [V.int ((xf : Int) + (l.size : Int)), .str "right"])) l2 (.lst [V.ref t2])) c2 (.lst (tups.map V.ref ++ [V.ref t2]))) T2 (.tup [x2, V.int ((xf : Int) + (l.size : Int) + 1), .ref c2])) wl (.lst ((ts2.map V.ref).reverse ++ [V.ref T2]))) wl = some (.lst ((ts2.map V.ref).reverse ++ [V.ref T2])) := upd_same
      clear w2 hX8 pm2 a1 a2 a3 a4 aS exb pt ew7
      generalize upd (upd (upd (upd (upd H7 t2 (.tup [V.int ((xf : Int) + (l.size : Int)), .str "right"])) l2 (.lst [V.ref t2])) c2 (.lst (tups.map V.ref ++ [V.ref t2]))) T2 (.tup [x2, V.int ((xf : Int) + (l.size : Int) + 1), .ref c2])) wl (.lst ((ts2.map V.ref).reverse ++ [V.ref T2])) = H8 at k8 eq8 kB w28 ew8 ⊢
      have hX9 : ∀ x, x ∈ [wl, q0] → ∃ ys, H8 x = some (.lst ys) := fun x hx => by
        rcases List.mem_cons.mp hx with z | z
        · exact ⟨_, z ▸ ew8⟩
        · exact ⟨_, (List.mem_singleton.mp z) ▸ eq8⟩
      -- the left part waits
      obtain ⟨tups, exb, pt⟩ := hpa.stay k8 nb hX
      have ltp := Paired.length pt
      refine ⟨_, rfl, .inl ⟨rfl, _, .of ew8⟩, x1, rfl, _, rfl, _, rfl, _, rfl, (by show 2 ≤ sizeLine; decide), fun t1 ht1 => ⟨(by show 1 ≤ sizeLine; decide), fun l1 hl1 => ?_⟩⟩
      have a1 := Same.new (o := .tup [V.int ((xf : Int) + (l.size : Int)), .str "left"]) ht1
      have a2 := Same.new (o := .lst [V.ref t1]) hl1
      refine ⟨xb, l1, _, _, rfl, rfl, a2 _ _ (a1 _ _ exb), upd_same, ?_, fun c1 hc1 => ⟨(by show 3 ≤ sizeLine; decide), fun T1 hT1 => ?_⟩⟩
      · rw [List.length_map]
        show tups.length + 1 ≤ sizeLine
        exact Nat.le_of_lt (small1000 (by omega))
      have a3 := Same.new (o := .lst (tups.map V.ref ++ [V.ref t1])) hc1
      have a4 := Same.new (o := .tup [x1, natV xf, .ref c1]) hT1
      have aS := a1.trans (a2.trans (a3.trans a4))
      have pm1 := (path_more (z := (xf + l.size, false)) en rfl pt ht1 hl1 hc1).same a4
      have nc1w : c1 ≠ wl := (ne_of_none (a2 _ _ (a1 _ _ ew8)) hc1).symm
      have nc1q : c1 ≠ q0 := (ne_of_none (a2 _ _ (a1 _ _ eq8)) hc1).symm
      refine ⟨wl, _, _, rfl, rfl, aS _ _ ew8, ?_, ?_⟩
      · rw [List.length_append, List.length_reverse, List.length_map, List.length_singleton]
        exact small1000 (by omega)
      have kC : Stay [wl, q0] H8 (upd (upd (upd (upd (upd H8 t1 (.tup [V.int ((xf : Int) + (l.size : Int)), .str "left"])) l1 (.lst [V.ref t1])) c1 (.lst (tups.map V.ref ++ [V.ref t1]))) T1 (.tup [x1, natV xf, .ref c1])) wl (.lst ((ts2.map V.ref).reverse ++ [V.ref T2] ++ [V.ref T1]))) := ((Stay.of aS).put in2l)
      have k9 := k8.trans kC
      have kD := kB.trans kC
      have w29 := w28.stay kC hX9
      have hXA : ∀ x, x ∈ [wl, q0] → ∃ ys, (upd (upd (upd (upd H8 t1 (.tup [V.int ((xf : Int) + (l.size : Int)), .str "left"])) l1 (.lst [V.ref t1])) c1 (.lst (tups.map V.ref ++ [V.ref t1]))) T1 (.tup [x1, natV xf, .ref c1])) x = some (.lst ys) := fun x hx => by
        rcases List.mem_cons.mp hx with z | z
        · exact ⟨_, z ▸ aS _ _ ew8⟩
        · exact ⟨_, (List.mem_singleton.mp z) ▸ aS _ _ eq8⟩
      have w1 : WtOk H (upd (upd (upd (upd H8 t1 (.tup [V.int ((xf : Int) + (l.size : Int)), .str "left"])) l1 (.lst [V.ref t1])) c1 (.lst (tups.map V.ref ++ [V.ref t1]))) T1 (.tup [x1, natV xf, .ref c1])) [wl, q0] T1 ⟨x1, l, xf, c1, xp ++ [(xf + l.size, false)]⟩ := ⟨upd_same, hl, pm1, no2 nc1w nc1q, ((k8.same s4 fr).trans (a1.trans a2)).free hc1⟩
      have w19 := w1.stay (.at (p := wl) (o := .lst ((ts2.map V.ref).reverse ++ [V.ref T2] ++ [V.ref T1])) in2l) hXA
      have eq9 : (upd (upd (upd (upd (upd H8 t1 (.tup [V.int ((xf : Int) + (l.size : Int)), .str "left"])) l1 (.lst [V.ref t1])) c1 (.lst (tups.map V.ref ++ [V.ref t1]))) T1 (.tup [x1, natV xf, .ref c1])) wl (.lst ((ts2.map V.ref).reverse ++ [V.ref T2] ++ [V.ref T1]))) q0 = some (.lst ((rows ++ [R]).map V.ref)) := by
        rw [upd_ne nqw]
        exact aS _ _ eq8
      have ew9 : (upd (upd (upd (upd (upd H8 t1 (.tup [V.int ((xf : Int) + (l.size : Int)), .str "left"])) l1 (.lst [V.ref t1])) c1 (.lst (tups.map V.ref ++ [V.ref t1]))) T1 (.tup [x1, natV xf, .ref c1])) wl (.lst ((ts2.map V.ref).reverse ++ [V.ref T2] ++ [V.ref T1]))) wl = some (.lst ((T1 :: T2 :: ts2).map V.ref).reverse) := by
        rw [upd_same, List.map_cons, List.map_cons, List.reverse_cons, List.reverse_cons]
      generalize upd (upd (upd (upd (upd H8 t1 (.tup [V.int ((xf : Int) + (l.size : Int)), .str "left"])) l1 (.lst [V.ref t1])) c1 (.lst (tups.map V.ref ++ [V.ref t1]))) T1 (.tup [x1, natV xf, .ref c1])) wl (.lst ((ts2.map V.ref).reverse ++ [V.ref T2] ++ [V.ref T1])) = H9 at kC k9 kD w29 w19 eq9 ew9 ⊢
      have eR9 := kD _ _ (no2 nRw nRq) eR7
      refine ⟨wtTurns (⟨x1, l, xf, c1, xp ++ [(xf + l.size, false)]⟩ :: ⟨x2, r, xf + l.size + 1, c2, xp ++ [(xf + l.size, true)]⟩ :: ws2), ?_, T1 :: T2 :: ts2, ⟨x1, l, xf, c1, xp ++ [(xf + l.size, false)]⟩ :: ⟨x2, r, xf + l.size + 1, c2, xp ++ [(xf + l.size, true)]⟩ :: ws2, rows ++ [R], dn ++ [(xf + l.size, xp)], _, _, _, _, _, _, rfl, k9.same s4 fr, ew9, .cons w19 (.cons w29 (Paired.mapP hxs fun a z h => h.stay k9 hX)), eq9, Paired.app (Paired.mapP pd fun a z h => h.stay k9 hX) (.cons ⟨xb, eR9, hpa.stay k9 nb hX, nb, fb⟩ .nil), ?_, fun x hx => ?_, ?_, ?_, rfl⟩
      · show 2 * l.size + 1 + (2 * r.size + 1 + wtTurns ws2) < 2 * (l.size + 1 + r.size) + 1 + wtTurns ws2
        omega
      · rw [hpre]
        show dn ++ (((xf + l.size, xp) :: (pre l xf (xp ++ [(xf + l.size, false)]) ++ pre r (xf + l.size + 1) (xp ++ [(xf + l.size, true)]))) ++ wtPre ws2) = dn ++ [(xf + l.size, xp)] ++ (pre l xf (xp ++ [(xf + l.size, false)]) ++ (pre r (xf + l.size + 1) (xp ++ [(xf + l.size, true)]) ++ wtPre ws2))
        simp only [List.append_assoc, List.cons_append, List.nil_append]
      · rcases List.mem_cons.mp hx with z | z
        · rw [z]
          show (xp ++ [(xf + l.size, false)]).length + l.size ≤ t.size
          rw [List.length_append, List.length_singleton]
          omega
        · rcases List.mem_cons.mp z with z | z
          · rw [z]
            show (xp ++ [(xf + l.size, true)]).length + r.size ≤ t.size
            rw [List.length_append, List.length_singleton]
            omega
          · exact hin2 x z
      · rw [List.length_append, List.length_singleton]
        show dn.length + 1 + (l.size + (r.size + wtSizes ws2)) ≤ t.size
        omega
      · show ts2.length + 1 + 1 + (l.size + (r.size + wtSizes ws2)) ≤ t.size + 1
        omega
/-! ### paths_of -/
theorem sc_paths : FnScope n_paths_of ["tree"] (defScope s_paths_of) := ⟨rfl, rfl, rfl, by decide +kernel, rfl, by decide +kernel, by decide +kernel⟩
def spPaths : Sp := fun vs H Q _ => ∃ (v : V) (t : Tr), vs = [v] ∧ TrAt H v t ∧ t.size ≤ 300 ∧ ∀ (H' : Hp) (q : Addr), Same H H' → H q = none → WaysAt H' q t → Q (.ref q) H'
theorem ok_paths (B : Bl mg) (C : Df P w K mg base "count_nodes" 1 ["tree"] spCount) (W : Df P w K mg base "walk" 2 ["tree"] spWalk) (a : At K mg "paths_of" s_paths_of) : Df P w K mg base "paths_of" 3 ["tree"] spPaths := by
  refine Df.mk' a sc_paths (fun vs H Q E h => ?_) (fun _ _ _ _ _ _ us hl => match us, hl with | [_], _ => rfl) (fun f cdv A outer s H vs Q E hr h => ?_)
  · obtain ⟨v, t, rfl, _⟩ := h
    rfl
  obtain ⟨v, t, rfl, ht, hz, q⟩ := h
  refine ⟨_, (pss_cons (ps_setLc (i := 1) (own := [("_", 4)]) (g := (gName 4)) (tt := tYes) (by rfl) sc_paths.nd rfl rfl (sw_true rfl rfl rfl (by decide +kernel)) (pi_range1 (by rfl) B.range (pa_cons (pe_df C (hr.mono (by decide)) (pa_cons (pv 0) pa_nil)) pa_nil)) (blkOk_by (N := n_paths_of) (sc := defScope s_paths_of) (by decide +kernel)) (fun _ _ _ _ _ => (pg_name (i := 4) sc_paths.nd rfl (.inl rfl))) (fun _ _ _ _ _ => pts_nil) (fun _ _ _ _ _ => (pe_lst pa_nil)))
 (pss_cons (ps_for PassesOwn.never rfl (pi_list (pe_df W hr (pa_cons (pv 0) pa_nil))) (pg_tup rfl (pgs_cons (pg_name (i := 2) sc_paths.nd rfl (.inl rfl)) (pgs_cons (pg_name (i := 3) sc_paths.nd rfl (.inl rfl)) pgs_nil))) (pss_one (ps_asg (pv 3) (pg_sub (pv 1) (pv 2) set_list))))
 (pss_one (ps_ret (pv 1))))), ?_⟩
  -- an empty list for each node
  refine ⟨v, rfl, v, t, rfl, ht, by omega, fun H1 s1 => ⟨_, rfl, by omega, by omega, fun q0 hq0 => ?_⟩⟩
  refine lc_range (lo := 0) (n := t.size) (fun i H' => ∃ rows : List Addr, Same H H' ∧ H' q0 = some (.lst (rows.map V.ref)) ∧ rows.length = i ∧ (∀ r, r ∈ rows → r ≠ q0)) ⟨[], s1.trans (Same.new hq0), upd_same, rfl, fun r hr => by cases hr⟩ (fun i H2 hi h2 => ?_) (fun H2 h2 => ?_)
  · obtain ⟨rows, s2, e2, l2, n2⟩ := h2
    refine ⟨rfl, ?_⟩
    refine ⟨Nat.zero_le _, fun r hr2 => ⟨_, (Same.new hr2) _ _ e2, ?_, ?_⟩⟩
    · rw [List.length_map]
      exact small1000 (by omega)
    · have nr : q0 ≠ r := ne_of_none e2 hr2
      have hq : H q0 = none := s1.free hq0
      refine ⟨rows ++ [r], fun b o e => ?_, ?_, ?_, fun x hx => ?_⟩
      · rw [upd_ne (ne_of_none e hq)]
        exact (Same.new hr2) _ _ (s2 _ _ e)
      · rw [upd_same, List.map_append]
        rfl
      · rw [List.length_append, List.length_singleton, l2]
      · rcases List.mem_append.mp hx with z | z
        · exact n2 x z
        · rw [List.mem_singleton.mp z]
          exact nr.symm
  · obtain ⟨rows, s2, e2, l2, n2⟩ := h2
    have hq : H q0 = none := s1.free hq0
    refine ⟨v, rfl, v, t, rfl, ht.same s2, hz, fun H3 u rs s3 nu eu pr => ?_⟩
    have nuq : u ≠ q0 := (ne_of_none e2 nu).symm
    have lrs : rs.length = t.size := by rw [Paired.length pr, pre_len]
    refine ⟨u, rfl, ⟨_, .of eu⟩, for_list (xs := rs.map V.ref) (fun k σ H' => ∃ (y2 y3 : Option V) (rows : List Addr), σ = [some v, some (.ref q0), y2, y3, none] ∧ Stay [q0] H3 H' ∧ H' q0 = some (.lst (rows.map V.ref)) ∧ rows.length = t.size ∧ ∀ n s, (n, s) ∈ (pre t 0 []).take k → ∃ r, rows[n]? = some r ∧ PathAt H' r s ∧ r ≠ q0)
      ⟨_, _, rows, rfl, .refl _ _, s3 _ _ e2, l2, fun n s h => by cases h⟩ (fun k σ H4 _ h4 => ?_) (fun k x σ H4 hx h4 => ?_) (fun σ H4 h4 => ?_)⟩
    · obtain ⟨_, _, _, _, k4, _⟩ := h4
      exact .of (k4 _ _ (no1 nuq) eu)
    · obtain ⟨y2, y3, rows, rfl, k4, e4, l4, h4⟩ := h4
      rw [List.getElem?_map] at hx
      obtain ⟨R, hR, rfl⟩ := Option.map_eq_some_iff.mp hx
      obtain ⟨⟨n, p⟩, hz2, b, eR, pb, nb, fb⟩ := Paired.getL pr hR
      have hX : ∀ x, x ∈ [q0] → ∃ ys, H3 x = some (.lst ys) := fun x hx => ⟨_, (List.mem_singleton.mp hx) ▸ s3 _ _ e2⟩
      have nRq : R ≠ q0 := tup_ne eR (s3 _ _ e2)
      have hn := pre_in t 0 [] n p (List.mem_of_getElem? hz2)
      have nbq : b ≠ q0 := (ne_of_none e2 fb).symm
      refine ⟨R, _, rfl, .of (k4 _ _ (no1 nRq) eR), rfl, _, _, rfl, _, [], rfl, rfl, ?_⟩
      refine ⟨_, rfl, _, rfl, _, rfl, q0, _, _, n, rfl, rfl, e4, ?_, ?_⟩
      · rw [List.length_map, l4]
        exact ixN_in (n := t.size) (i := (n : Int)) (by omega) (by omega)
      refine ⟨_, _, rows.set n b, rfl, k4.put in1, ?_, ?_, fun m s h => ?_⟩
      · rw [upd_same, List.map_set]
      · rw [List.length_set, l4]
      have pb4 : PathAt (upd H4 q0 (.lst ((rows.map V.ref).set n (.ref b)))) b p := pb.stay (k4.put in1) (no1 nbq) hX
      rw [List.take_add_one, hz2] at h
      have key : ∀ s, s = pOf t 0 n → ∃ r, (rows.set n b)[n]? = some r ∧ PathAt (upd H4 q0 (.lst ((rows.map V.ref).set n (.ref b)))) r s ∧ r ≠ q0 := fun s es => by
        refine ⟨b, List.getElem?_set_self (by omega), ?_, nbq⟩
        rw [es, ← hn.2.2.trans (List.nil_append _)]
        exact pb4
      rcases List.mem_append.mp h with h | h
      · have e0 := (pre_in t 0 [] m s (List.mem_of_mem_take h)).2.2.trans (List.nil_append _)
        by_cases c : m = n
        · rw [c] at e0 ⊢
          exact key s e0
        · obtain ⟨r, g1, g2, g3⟩ := h4 m s h
          exact ⟨r, by rw [List.getElem?_set_ne (Ne.symm c)]; exact g1, g2.put g3 e4, g3⟩
      · obtain ⟨rfl, rfl⟩ := Prod.mk.inj (List.mem_singleton.mp h)
        exact key _ (hn.2.2.trans (List.nil_append _))
    · obtain ⟨y2, y3, rows, rfl, k4, e4, l4, h4⟩ := h4
      refine ⟨_, rfl, q H4 q0 (Stay.same (X := [q0]) (s2.trans s3) (fun x hx => (List.mem_singleton.mp hx) ▸ hq) k4) hq ⟨rows, e4, l4, fun i r hr2 => ?_⟩⟩
      have hi : i < t.size := by rw [← l4]; exact (List.getElem?_eq_some_iff.mp hr2).1
      have hm := pre_mem t 0 [] i (Nat.zero_le _) (by omega)
      rw [List.nil_append] at hm
      obtain ⟨r', g1, g2, _⟩ := h4 i (pOf t 0 i) (by
        rw [List.length_map, lrs, ← pre_len t 0 [], List.take_length]
        exact hm)
      cases hr2.symm.trans g1
      exact g2
end
end HSP
namespace HSP
open PySem PySem.Spec PyProof.Rows L2
section
variable {P : Program} {w : World} {K : PySem.W.Frag} {mg : Str → Option Value} {base : Heap}
/-! ### check_row -/
theorem sc_chkR : FnScope n_check_row ["row"] (defScope s_check_row) := ⟨rfl, rfl, rfl, by decide +kernel, rfl, by decide +kernel, by decide +kernel⟩
def spChkR : Sp := fun vs H Q _ => ∃ (a : Addr) (ns : List Int), vs = [.ref a] ∧ H a = some (.lst (ns.map V.int)) ∧ ∀ H', Same H H' → Q .non H'
theorem ok_chkR (B : Bl mg) (W1 : Df P w K mg base "is_whole" 1 ["thing"] spWhole) (a : At K mg "check_row" s_check_row) : Df P w K mg base "check_row" 2 ["row"] spChkR := by
  refine Df.mk' a sc_chkR (fun vs H Q E h => ?_) (fun _ _ _ _ _ _ us hl => match us, hl with | [_], _ => rfl) (fun f cdv A outer s H vs Q E hr h => ?_)
  · obtain ⟨a, ns, rfl, _⟩ := h
    rfl
  obtain ⟨a, ns, rfl, ha, q⟩ := h
  refine ⟨_, (pss_cons (ps_if (pt_not (pt_val (pe_callB call_isi (by rfl) B.isinstance (by decide +kernel) (pa_cons (pv 0) (pa_cons (pe_bltn (v := .ty "list") (by rfl) B.list (by decide +kernel) rfl) pa_nil))))) (pss_one ps_never) pss_nil)
 (pss_one (ps_for PassesOwn.never rfl (pi_enum (by rfl) B.enumerate (pa_cons (pv 0) pa_nil)) (pg_tup rfl (pgs_cons (pg_name (i := 1) sc_chkR.nd rfl (.inl rfl)) (pgs_cons (pg_name (i := 2) sc_chkR.nd rfl (.inl rfl)) pgs_nil))) (pss_one (ps_if (pt_not (pt_val (pe_df W1 hr (pa_cons (pv 2) pa_nil)))) (pss_one ps_never) pss_nil))))), ?_⟩
  refine ⟨_, rfl, _, _, _, _, true, rfl, .ty "list", .base (.lst ha), rfl, true, rfl, iteF ?_⟩
  refine ⟨.ref a, rfl, a, ns.map V.int, rfl, .of ha, ?_⟩
  refine for_it (walk_enum (K := K) (a := a) (xs := ns.map V.int)) (fun _ σ H3 => Same H H3 ∧ ∃ y2 y3, σ = [some (.ref a), y2, y3]) ⟨Same.refl _, none, none, rfl⟩ (fun i σ H3 _ h3 => .of (h3.1 _ _ ha)) (fun i x σ H3 H4 hi h3 hy => ?_) (fun σ H3 h3 => q _ h3.1)
  obtain ⟨s3, y2, y3, rfl⟩ := h3
  obtain ⟨p, x1, x2, rfl, np, rfl, ex1, ex2⟩ := hy
  rw [List.length_map] at hi
  have g1 : (ns.map V.int)[i]? = some (.int ns[i]) := by
    rw [List.getElem?_map, List.getElem?_eq_getElem hi]
    rfl
  cases g1.symm.trans ex2
  refine ⟨p, [x1, .int ns[i]], rfl, .of upd_same, rfl, x1, _, rfl, _, [], rfl, rfl, ?_⟩
  refine ⟨_, rfl, _, rfl, true, rfl, iteF ?_⟩
  exact ⟨s3.trans (Same.new np), _, _, rfl⟩
end
end HSP
namespace HSP
open PySem PySem.Spec PyProof.Rows L2
section
variable {P : Program} {w : World} {K : PySem.W.Frag} {mg : Str → Option Value} {base : Heap}
/-! ### check_values -/
theorem sc_chkV : FnScope n_check_values ["tree", "values"] (defScope s_check_values) := ⟨rfl, rfl, rfl, by decide +kernel, rfl, by decide +kernel, by decide +kernel⟩
def spChkV : Sp := fun vs H Q _ => ∃ (v : V) (t : Tr) (a : Addr) (ns : List Int), vs = [v, .ref a] ∧ TrAt H v t ∧ t.size ≤ 1000 ∧ H a = some (.lst (ns.map V.int)) ∧ ns.length = t.size ∧ ∀ H', Same H H' → Q .non H'
theorem ok_chkV (B : Bl mg) (R : Df P w K mg base "check_row" 2 ["row"] spChkR) (C : Df P w K mg base "count_nodes" 1 ["tree"] spCount) (T : Df P w K mg base "check_tree" 2 ["tree"] spChkT)
    (a : At K mg "check_values" s_check_values) : Df P w K mg base "check_values" 3 ["tree", "values"] spChkV := by
  refine Df.mk' a sc_chkV (fun vs H Q E h => ?_) (fun _ _ _ _ _ _ us hl => match us, hl with | [_, _], _ => rfl) (fun f cdv A outer s H vs Q E hr h => ?_)
  · obtain ⟨v, t, a, ns, rfl, _⟩ := h
    rfl
  obtain ⟨v, t, a, ns, rfl, ht, hz, ha, hn, q⟩ := h
  refine ⟨_, (pss_cons (ps_expr (pe_df T hr (pa_cons (pv 0) pa_nil)))
 (pss_cons (ps_if (PW.pt (pw_and (pt_val (pe_callB call_isi (by rfl) B.isinstance (by decide +kernel) (pa_cons (pv 1) (pa_cons (pe_bltn (v := .ty "list") (by rfl) B.list (by decide +kernel) rfl) pa_nil)))) (pw_and1 (pt_cmpR op_ne (pe_callB call_len_seq (by rfl) B.len PySem.boot_len (pa_cons (pv 1) pa_nil)) (pe_df C (hr.mono (by decide)) (pa_cons (pv 0) pa_nil)) (nomark _))))) (pss_one ps_never) pss_nil)
 (pss_one (ps_expr (pe_df R hr (pa_cons (pv 1) pa_nil)))))), ?_⟩
  refine ⟨v, rfl, v, t, rfl, ht, hz, fun H1 s1 => ?_⟩
  refine ⟨_, rfl, _, _, _, _, true, rfl, .ty "list", .base (.lst (s1 _ _ ha)), rfl, true, rfl, iteT ?_⟩
  refine ⟨_, rfl, a, _, rfl, .inl (.of (s1 _ _ ha)), v, rfl, v, t, rfl, ht.same s1, hz, fun H2 s2 => ?_⟩
  have e1 : V.int (((ns.map V.int).length : Nat) : Int) = V.int ((t.size : Nat) : Int) := by rw [List.length_map, hn]
  refine ⟨rfl, _, rfl, ?_⟩
  rw [e1, decide_eq_true rfl]
  refine iteF ?_
  exact ⟨.ref a, rfl, a, ns, rfl, s2 _ _ (s1 _ _ ha), fun H3 s3 => q _ ((s1.trans s2).trans s3)⟩
end
end HSP
namespace HSP
open PySem PySem.Spec PyProof.Rows L2
/-! ### intervals and labels -/
/-- the bounds that a path gives -/
def lowOf (g : Nat → Int) : List (Nat × Bool) → Option Int
  | [] => none
  | (n, true) :: r => match lowOf g r with
    | none => some (g n)
    | some m => some (max (g n) m)
  | (_, false) :: r => lowOf g r
def highOf (g : Nat → Int) : List (Nat × Bool) → Option Int
  | [] => none
  | (n, false) :: r => match highOf g r with
    | none => some (g n)
    | some m => some (min (g n) m)
  | (_, true) :: r => highOf g r
/-- the values above on one side -/
def above (g : Nat → Int) (b : Bool) (p : List (Nat × Bool)) : List Int := (p.filter fun z => z.2 == b).map fun z => g z.1
def optV : Option Int → V
  | none => .non
  | some i => .int i
theorem low_spec (g : Nat → Int) : ∀ p : List (Nat × Bool), (above g true p = [] → lowOf g p = none) ∧ ∀ m, m ∈ above g true p → (∀ y, y ∈ above g true p → y ≤ m) → lowOf g p = some m
  | [] => ⟨fun _ => rfl, fun m hm => by cases hm⟩
  | (n, false) :: r => low_spec g r
  | (n, true) :: r => by
    obtain ⟨h1, h2⟩ := low_spec g r
    have e : above g true ((n, true) :: r) = g n :: above g true r := rfl
    have el : lowOf g ((n, true) :: r) = match lowOf g r with | none => some (g n) | some m => some (max (g n) m) := rfl
    rw [e]
    refine ⟨fun z => absurd z (List.cons_ne_nil _ _), fun m hm hle => ?_⟩
    by_cases c : above g true r = []
    · rw [el, h1 c]
      rw [c] at hm
      exact congrArg some (List.mem_singleton.mp hm).symm
    · obtain ⟨x, hx, hxm⟩ : ∃ x, x ∈ above g true r ∧ ∀ y, y ∈ above g true r → y ≤ x := by
        cases q : above g true r with
        | nil => exact absurd q c
        | cons y ys => exact ⟨_, (maxOf_spec ys y).1, (maxOf_spec ys y).2⟩
      rw [el, h2 x hx hxm]
      have a1 := hle (g n) List.mem_cons_self
      have a2 := hle x (List.mem_cons_of_mem _ hx)
      rcases List.mem_cons.mp hm with z | z
      · exact congrArg some (by omega)
      · have a3 := hxm m z
        exact congrArg some (by omega)
theorem high_spec (g : Nat → Int) : ∀ p : List (Nat × Bool), (above g false p = [] → highOf g p = none) ∧ ∀ m, m ∈ above g false p → (∀ y, y ∈ above g false p → m ≤ y) → highOf g p = some m
  | [] => ⟨fun _ => rfl, fun m hm => by cases hm⟩
  | (n, true) :: r => high_spec g r
  | (n, false) :: r => by
    obtain ⟨h1, h2⟩ := high_spec g r
    have e : above g false ((n, false) :: r) = g n :: above g false r := rfl
    have el : highOf g ((n, false) :: r) = match highOf g r with | none => some (g n) | some m => some (min (g n) m) := rfl
    rw [e]
    refine ⟨fun z => absurd z (List.cons_ne_nil _ _), fun m hm hle => ?_⟩
    by_cases c : above g false r = []
    · rw [el, h1 c]
      rw [c] at hm
      exact congrArg some (List.mem_singleton.mp hm).symm
    · obtain ⟨x, hx, hxm⟩ : ∃ x, x ∈ above g false r ∧ ∀ y, y ∈ above g false r → x ≤ y := by
        cases q : above g false r with
        | nil => exact absurd q c
        | cons y ys => exact ⟨_, (minOf_spec ys y).1, (minOf_spec ys y).2⟩
      rw [el, h2 x hx hxm]
      have a1 := hle (g n) List.mem_cons_self
      have a2 := hle x (List.mem_cons_of_mem _ hx)
      rcases List.mem_cons.mp hm with z | z
      · exact congrArg some (by omega)
      · have a3 := hxm m z
        exact congrArg some (by omega)
/-- the interval, none if it is empty -/
def bndOf (g : Nat → Int) (p : List (Nat × Bool)) : Option (Option Int × Option Int) :=
  match lowOf g p, highOf g p with
  | some a, some b => if a ≥ b then none else some (some a, some b)
  | a, b => some (a, b)
def BndAt (H : Hp) (v : V) (b : Option (Option Int × Option Int)) : Prop := match b with
  | none => v = .non
  | some (x, y) => ∃ e, v = .ref e ∧ H e = some (.tup [optV x, optV y])
inductive Lb where
  | dead | found | low | high
  deriving DecidableEq
def Lb.str : Lb → Str
  | .dead => "dead"
  | .found => "found"
  | .low => "low"
  | .high => "high"
def lbOf (b : Option (Option Int × Option Int)) (x : Int) : Lb := match b with
  | none => .dead
  | some (lo, hi) => match lo with
    | some l => if x ≤ l then .low else match hi with
      | some h => if x ≥ h then .high else .found
      | none => .found
    | none => match hi with
      | some h => if x ≥ h then .high else .found
      | none => .found
section
variable {P : Program} {w : World} {K : PySem.W.Frag} {mg : Str → Option Value} {base : Heap}
theorem sc_label : FnScope n_label_of ["bounds", "value"] (defScope s_label_of) := ⟨rfl, rfl, rfl, by decide +kernel, rfl, by decide +kernel, by decide +kernel⟩
def spLabel : Sp := fun vs H Q _ => ∃ (v : V) (b : Option (Option Int × Option Int)) (x : Int), vs = [v, .int x] ∧ BndAt H v b ∧ Q (.str (lbOf b x).str) H
theorem ok_label (a : At K mg "label_of" s_label_of) : Df P w K mg base "label_of" 1 ["bounds", "value"] spLabel := by
  refine Df.mk' a sc_label (fun vs H Q E h => ?_) (fun _ _ _ _ _ _ us hl => match us, hl with | [_, _], _ => rfl) (fun f cdv A outer s H vs Q E hr h => ?_)
  · obtain ⟨v, b, x, rfl, _⟩ := h
    rfl
  obtain ⟨v, b, x, rfl, hb, q⟩ := h
  refine ⟨_, (pss_cons (ps_if (pt_cmpR op_isN (pv 0) pe_non (nomark _)) (pss_one (ps_ret pe_str)) pss_nil)
 (pss_cons (ps_asg (pv 0) (pg_tup rfl (pgs_cons (pg_name (i := 2) sc_label.nd rfl (.inl rfl)) (pgs_cons (pg_name (i := 3) sc_label.nd rfl (.inl rfl)) pgs_nil))))
 (pss_cons (ps_if (PW.pt (pw_and (pt_cmpR op_notN (pv 2) pe_non (nomark _)) (pw_and1 (pt_cmpR op_le (pv 1) (pv 2) (nomark _))))) (pss_one (ps_ret pe_str)) pss_nil)
 (pss_cons (ps_if (PW.pt (pw_and (pt_cmpR op_notN (pv 3) pe_non (nomark _)) (pw_and1 (pt_cmpR op_ge (pv 1) (pv 3) (nomark _))))) (pss_one (ps_ret pe_str)) pss_nil)
 (pss_one (ps_ret pe_str)))))), ?_⟩
  refine ⟨v, rfl, rfl, _, rfl, ?_⟩
  match b, hb, q with
  | none, hb, q =>
    have e : v = .non := hb
    rw [e]
    exact iteT q
  | some (lo, hi), ⟨e, e1, e2⟩, q =>
    subst e1
    refine iteF ?_
    refine ⟨_, rfl, e, _, rfl, .of e2, rfl, _, _, rfl, _, [], rfl, rfl, ?_⟩
    refine ⟨_, rfl, rfl, _, rfl, ?_⟩
    cases lo with
    | none =>
      refine iteF (iteF ?_)
      refine ⟨_, rfl, rfl, _, rfl, ?_⟩
      cases hi with
      | none => exact iteF (iteF q)
      | some h =>
        have e0 : lbOf (some (none, some h)) x = if x ≥ h then .high else .found := rfl
        rw [e0] at q
        refine iteT ⟨_, rfl, _, rfl, _, _, rfl, rfl, _, rfl, ite2 (fun c => ?_) (fun c => ?_)⟩
        · rw [if_pos (of_decide_eq_true c)] at q
          exact q
        · rw [if_neg (fun z => c (decide_eq_true z))] at q
          exact q
    | some l =>
      have e0 : lbOf (some (some l, hi)) x = if x ≤ l then .low else lbOf (some (none, hi)) x := rfl
      rw [e0] at q
      refine iteT ⟨_, rfl, _, rfl, _, _, rfl, rfl, _, rfl, ite2 (fun c => ?_) (fun c => ?_)⟩
      · rw [if_pos (of_decide_eq_true c)] at q
        exact q
      · rw [if_neg (fun z => c (decide_eq_true z))] at q
        refine ⟨_, rfl, rfl, _, rfl, ?_⟩
        cases hi with
        | none => exact iteF (iteF q)
        | some h =>
          have e1 : lbOf (some (none, some h)) x = if x ≥ h then .high else .found := rfl
          rw [e1] at q
          refine iteT ⟨_, rfl, _, rfl, _, _, rfl, rfl, _, rfl, ite2 (fun c => ?_) (fun c => ?_)⟩
          · rw [if_pos (of_decide_eq_true c)] at q
            exact q
          · rw [if_neg (fun z => c (decide_eq_true z))] at q
            exact q
/-! ### bounds_below -/
theorem above_snoc (g : Nat → Int) (b : Bool) {p : List (Nat × Bool)} {i : Nat} {z : Nat × Bool} (h : p[i]? = some z) : above g b (p.take (i + 1)) = above g b (p.take i) ++ if z.2 == b then [g z.1] else [] := by
  unfold above
  rw [List.take_add_one, h]
  show List.map _ (List.filter _ (p.take i ++ [z])) = _
  rw [List.filter_append, List.map_append]
  congr 1
  unfold List.filter
  cases z.2 == b <;> rfl
theorem above_len (g : Nat → Int) (b : Bool) (p : List (Nat × Bool)) : (above g b p).length ≤ p.length := by
  unfold above
  rw [List.length_map]
  exact List.length_filter_le _ _
theorem sc_bounds : FnScope n_bounds_below ["values", "above"] (defScope s_bounds_below) := ⟨rfl, rfl, rfl, by decide +kernel, rfl, by decide +kernel, by decide +kernel⟩
def spBounds : Sp := fun vs H Q _ => ∃ (a r : Addr) (ns : List Int) (p : List (Nat × Bool)), vs = [.ref a, .ref r] ∧ H a = some (.lst (ns.map V.int)) ∧ PathAt H r p ∧ p.length ≤ 900 ∧ (∀ z, z ∈ p → z.1 < ns.length) ∧ ∀ (H' : Hp) (v : V), Same H H' → BndAt H' v (bndOf (valAt ns) p) → Q v H'
theorem ok_bounds (B : Bl mg) (a : At K mg "bounds_below" s_bounds_below) : Df P w K mg base "bounds_below" 1 ["values", "above"] spBounds := by
  refine Df.mk' a sc_bounds (fun vs H Q E h => ?_) (fun _ _ _ _ _ _ us hl => match us, hl with | [_, _], _ => rfl) (fun f cdv A outer s H vs Q E hr h => ?_)
  · obtain ⟨a, r, ns, p, rfl, _⟩ := h
    rfl
  obtain ⟨a, r, ns, p, rfl, ha, ⟨tups, er, pt⟩, hl, hn, q⟩ := h
  refine ⟨_, (C8.pss_cut (ps_set (i := 2) sc_bounds.nd rfl (.inl rfl) (pe_callBK (crk_maxN rfl hr.units) (by rfl) B.max (by decide +kernel) (pa_cons (pe_lc (own := [("node", 4), ("side", 5)]) (g := (gTup K 2 (gCons (gName 4) (gCons (gName 5) gNil)))) (by rfl) sc_bounds.nd (pi_list (pv 1)) (blkOk_by (N := n_bounds_below) (sc := defScope s_bounds_below) (by decide +kernel)) (fun _ _ _ _ _ => (pg_tup rfl (pgs_cons (pg_name (i := 4) sc_bounds.nd rfl (.inl rfl)) (pgs_cons (pg_name (i := 5) sc_bounds.nd rfl (.inl rfl)) pgs_nil)))) (fun _ _ _ _ _ => (pts_one (pt_cmpR op_eq (pv 5) pe_str (nomark _)))) (fun _ _ _ _ _ => (pe_ix (show IxR _ (rIxL K) from ix_list) (pv 0) (pv 4) (fun _ _ => rfl)))) pa_nil) (pk_cons pe_non pk_nil)))
 (C8.pss_cut (ps_set (i := 3) sc_bounds.nd rfl (.inl rfl) (pe_callBK (crk_minN rfl hr.units) (by rfl) B.min (by decide +kernel) (pa_cons (pe_lc (own := [("node", 4), ("side", 5)]) (g := (gTup K 2 (gCons (gName 4) (gCons (gName 5) gNil)))) (by rfl) sc_bounds.nd (pi_list (pv 1)) (blkOk_by (N := n_bounds_below) (sc := defScope s_bounds_below) (by decide +kernel)) (fun _ _ _ _ _ => (pg_tup rfl (pgs_cons (pg_name (i := 4) sc_bounds.nd rfl (.inl rfl)) (pgs_cons (pg_name (i := 5) sc_bounds.nd rfl (.inl rfl)) pgs_nil)))) (fun _ _ _ _ _ => (pts_one (pt_cmpR op_eq (pv 5) pe_str (nomark _)))) (fun _ _ _ _ _ => (pe_ix (show IxR _ (rIxL K) from ix_list) (pv 0) (pv 4) (fun _ _ => rfl)))) pa_nil) (pk_cons pe_non pk_nil)))
 (pss_cons (ps_if (PW.pt (pw_and (pt_cmpR op_notN (pv 2) pe_non (nomark _)) (pw_and (pt_cmpR op_notN (pv 3) pe_non (nomark _)) (pw_and1 (pt_cmpR op_ge (pv 2) (pv 3) (nomark _)))))) (pss_one (ps_ret pe_non)) pss_nil)
 (pss_one (ps_ret (pe_tup (pa_cons (pv 2) (pa_cons (pv 3) pa_nil)))))))), ?_⟩
  have lt := Paired.length pt
  refine ⟨fun σ' H' => σ' = [some (.ref a), some (.ref r), some (optV (lowOf (valAt ns) p)), none, none, none] ∧ Same H H', ?_, ?_⟩
  · have s0 := Same.refl H
    refine ⟨_, rfl, r, rfl, ⟨_, .of (s0 _ _ er)⟩, fun D hD => ?_⟩
    refine lc_list (xs := tups.map V.ref) (fun i H' => Same H H' ∧ H' D = some (.lst ((above (valAt ns) true (p.take i)).map V.int))) ⟨Same.new hD, upd_same⟩ (fun i H2 _ h2 => .of (h2.1 _ _ (s0 _ _ er))) (fun i x H2 hx h2 => ?_) (fun H2 h2 => ?_)
    · obtain ⟨s2, e2⟩ := h2
      rw [List.getElem?_map] at hx
      obtain ⟨T, hT, rfl⟩ := Option.map_eq_some_iff.mp hx
      obtain ⟨z, hz, eT⟩ := Paired.getL pt hT
      have hnz := hn z (List.mem_of_getElem? hz)
      refine ⟨T, _, rfl, .of (s2 _ _ (s0 _ _ eT)), rfl, _, _, rfl, _, [], rfl, rfl, rfl, ?_⟩
      rw [above_snoc _ _ hz]
      obtain ⟨n, b⟩ := z
      cases b with
      | false =>
        refine ⟨_, rfl, rfl, _, rfl, ite_no (show ¬ (V.str "left" = V.str "right") by decide +kernel) ⟨s2, ?_⟩⟩
        show H2 D = some (.lst (((above (valAt ns) true (p.take i)) ++ []).map V.int))
        rw [List.append_nil]
        exact e2
      | true =>
        refine ⟨_, rfl, rfl, _, rfl, ite_yes rfl ?_⟩
        refine ⟨_, rfl, _, rfl, a, _, _, _, rfl, rfl, .of (s2 _ _ (s0 _ _ ha)), at_of (j := n) rfl (valAt_get hnz), _, e2, ?_, fun c o e => ?_, ?_⟩
        · rw [List.length_map]
          have q1 := above_len (valAt ns) true (p.take i)
          rw [List.length_take] at q1
          exact small1000 (by omega)
        · rw [upd_ne (ne_of_none e hD)]
          exact s2 _ _ e
        · rw [upd_same, List.map_append]
          rfl
    · obtain ⟨s2, e2⟩ := h2
      rw [List.length_map, lt, List.take_length] at e2
      obtain ⟨lo1, lo2⟩ := low_spec (valAt ns) p
      refine ⟨D, _, rfl, rfl, e2, fun e0 => ?_, fun m hm hle => ?_⟩
      · exact ⟨by rw [lo1 e0]; rfl, s0.trans s2⟩
      · exact ⟨by rw [lo2 m hm hle]; rfl, s0.trans s2⟩
  rintro σ' H0 ⟨rfl, s0⟩
  refine ⟨fun σ' H' => σ' = [some (.ref a), some (.ref r), some (optV (lowOf (valAt ns) p)), some (optV (highOf (valAt ns) p)), none, none] ∧ Same H H', ?_, ?_⟩
  · refine ⟨_, rfl, r, rfl, ⟨_, .of (s0 _ _ er)⟩, fun D hD => ?_⟩
    refine lc_list (xs := tups.map V.ref) (fun i H' => Same H0 H' ∧ H' D = some (.lst ((above (valAt ns) false (p.take i)).map V.int))) ⟨Same.new hD, upd_same⟩ (fun i H2 _ h2 => .of (h2.1 _ _ (s0 _ _ er))) (fun i x H2 hx h2 => ?_) (fun H2 h2 => ?_)
    · obtain ⟨s2, e2⟩ := h2
      rw [List.getElem?_map] at hx
      obtain ⟨T, hT, rfl⟩ := Option.map_eq_some_iff.mp hx
      obtain ⟨z, hz, eT⟩ := Paired.getL pt hT
      have hnz := hn z (List.mem_of_getElem? hz)
      refine ⟨T, _, rfl, .of (s2 _ _ (s0 _ _ eT)), rfl, _, _, rfl, _, [], rfl, rfl, rfl, ?_⟩
      rw [above_snoc _ _ hz]
      obtain ⟨n, b⟩ := z
      cases b with
      | true =>
        refine ⟨_, rfl, rfl, _, rfl, ite_no (show ¬ (V.str "right" = V.str "left") by decide +kernel) ⟨s2, ?_⟩⟩
        show H2 D = some (.lst (((above (valAt ns) false (p.take i)) ++ []).map V.int))
        rw [List.append_nil]
        exact e2
      | false =>
        refine ⟨_, rfl, rfl, _, rfl, ite_yes rfl ?_⟩
        refine ⟨_, rfl, _, rfl, a, _, _, _, rfl, rfl, .of (s2 _ _ (s0 _ _ ha)), at_of (j := n) rfl (valAt_get hnz), _, e2, ?_, fun c o e => ?_, ?_⟩
        · rw [List.length_map]
          have q1 := above_len (valAt ns) false (p.take i)
          rw [List.length_take] at q1
          exact small1000 (by omega)
        · rw [upd_ne (ne_of_none e hD)]
          exact s2 _ _ e
        · rw [upd_same, List.map_append]
          rfl
    · obtain ⟨s2, e2⟩ := h2
      rw [List.length_map, lt, List.take_length] at e2
      obtain ⟨lo1, lo2⟩ := high_spec (valAt ns) p
      refine ⟨D, _, rfl, rfl, e2, fun e0 => ?_, fun m hm hle => ?_⟩
      · exact ⟨by rw [lo1 e0]; rfl, s0.trans s2⟩
      · exact ⟨by rw [lo2 m hm hle]; rfl, s0.trans s2⟩
  rintro σ' H1 ⟨rfl, s1⟩
  have pair : ∀ x y : Option Int, bndOf (valAt ns) p = some (x, y) → ∀ T, H1 T = none → Q (.ref T) (upd H1 T (.tup [optV x, optV y])) := fun x y e T hT => by
    refine q _ _ (s1.trans (Same.new hT)) ?_
    rw [e]
    exact ⟨T, rfl, upd_same⟩
  cases e1 : lowOf (valAt ns) p with
  | none =>
    refine ⟨_, rfl, rfl, _, rfl, iteF (iteF ?_)⟩
    have eb : bndOf (valAt ns) p = some (none, highOf (valAt ns) p) := by unfold bndOf; rw [e1]
    exact ⟨_, rfl, _, rfl, (by show 2 ≤ sizeLine; decide), pair _ _ eb⟩
  | some lo =>
    refine ⟨_, rfl, rfl, _, rfl, iteT ?_⟩
    cases e2 : highOf (valAt ns) p with
    | none =>
      refine ⟨_, rfl, rfl, _, rfl, iteF (iteF ?_)⟩
      have eb : bndOf (valAt ns) p = some (some lo, none) := by unfold bndOf; rw [e1, e2]
      exact ⟨_, rfl, _, rfl, (by show 2 ≤ sizeLine; decide), pair _ _ eb⟩
    | some hi =>
      have eb : bndOf (valAt ns) p = if lo ≥ hi then none else some (some lo, some hi) := by unfold bndOf; rw [e1, e2]
      refine ⟨_, rfl, rfl, _, rfl, iteT ⟨_, rfl, _, rfl, _, _, rfl, rfl, _, rfl, ite2 (fun c => ?_) (fun c => ?_)⟩⟩
      · rw [if_pos (of_decide_eq_true c)] at eb
        exact q _ .non s1 (by rw [eb]; rfl)
      · rw [if_neg (fun z => c (decide_eq_true z))] at eb
        exact ⟨_, rfl, _, rfl, (by show 2 ≤ sizeLine; decide), pair _ _ eb⟩
end
end HSP
namespace HSP
open PySem PySem.Spec PyProof.Rows L2
/-- the label of a node -/
def labAt (g : Nat → Int) (t : Tr) (i : Nat) : Lb := lbOf (bndOf g (pOf t 0 i)) (g i)
def labsV (g : Nat → Int) (t : Tr) (n : Nat) : List V := (List.range n).map fun i => V.str (labAt g t i).str
theorem labsV_len (g : Nat → Int) (t : Tr) (n : Nat) : (labsV g t n).length = n := by
  unfold labsV
  rw [List.length_map, List.length_range]
theorem labsV_more (g : Nat → Int) (t : Tr) (n : Nat) : labsV g t (n + 1) = labsV g t n ++ [V.str (labAt g t n).str] := by
  unfold labsV
  rw [List.range_succ, List.map_append]
  rfl
/-- the nodes that are found -/
def foundOf (g : Nat → Int) (t : Tr) (n : Nat) : List Nat := (List.range n).filter fun i => labAt g t i == .found
theorem foundOf_more (g : Nat → Int) (t : Tr) (n : Nat) : foundOf g t (n + 1) = foundOf g t n ++ if labAt g t n == .found then [n] else [] := by
  unfold foundOf
  rw [List.range_succ, List.filter_append]
  congr 1
  unfold List.filter
  cases labAt g t n == .found <;> rfl
theorem foundOf_len (g : Nat → Int) (t : Tr) (n : Nat) : (foundOf g t n).length ≤ n := by
  have h := List.length_filter_le (fun i => labAt g t i == .found) (List.range n)
  rw [List.length_range] at h
  exact h
section
variable {P : Program} {w : World} {K : PySem.W.Frag} {mg : Str → Option Value} {base : Heap}
/-! ### labels_of -/
theorem sc_labelsOf : FnScope n_labels_of ["tree", "values"] (defScope s_labels_of) := ⟨rfl, rfl, rfl, by decide +kernel, rfl, by decide +kernel, by decide +kernel⟩
def spLabels : Sp := fun vs H Q _ => ∃ (v : V) (t : Tr) (a : Addr) (ns : List Int), vs = [v, .ref a] ∧ TrAt H v t ∧ t.size ≤ 300 ∧ H a = some (.lst (ns.map V.int)) ∧ ns.length = t.size ∧ ∀ (H' : Hp) (q : Addr), Same H H' → H q = none → H' q = some (.lst (labsV (valAt ns) t t.size)) → Q (.ref q) H'
theorem ok_labelsOf (B : Bl mg) (Pa : Df P w K mg base "paths_of" 3 ["tree"] spPaths) (Bo : Df P w K mg base "bounds_below" 1 ["values", "above"] spBounds) (La : Df P w K mg base "label_of" 1 ["bounds", "value"] spLabel) (a : At K mg "labels_of" s_labels_of) :
    Df P w K mg base "labels_of" 4 ["tree", "values"] spLabels := by
  refine Df.mk' a sc_labelsOf (fun vs H Q E h => ?_) (fun _ _ _ _ _ _ us hl => match us, hl with | [_, _], _ => rfl) (fun f cdv A outer s H vs Q E hr h => ?_)
  · obtain ⟨v, t, a, ns, rfl, _⟩ := h
    rfl
  obtain ⟨v, t, a, ns, rfl, ht, hz, ha, hn, q⟩ := h
  refine ⟨_, (pss_cons (ps_set (i := 2) sc_labelsOf.nd rfl (.inl rfl) (pe_df Pa hr (pa_cons (pv 0) pa_nil)))
 (pss_one (ps_ret (pe_lc (own := [("way", 3), ("value", 4)]) (g := (gTup K 2 (gCons (gName 3) (gCons (gName 4) gNil)))) (tt := tYes) (by rfl) sc_labelsOf.nd (pi_zip (by rfl) B.zip (pa_cons (pv 2) (pa_cons (pv 1) pa_nil))) (blkOk_by (N := n_labels_of) (sc := defScope s_labels_of) (by decide +kernel)) (fun _ _ _ _ _ => (pg_tup rfl (pgs_cons (pg_name (i := 3) sc_labelsOf.nd rfl (.inl rfl)) (pgs_cons (pg_name (i := 4) sc_labelsOf.nd rfl (.inl rfl)) pgs_nil)))) (fun _ _ _ _ _ => pts_nil) (fun _ _ _ _ _ => (pe_df La (hr.mono (by decide)) (pa_cons (pe_df Bo (hr.mono (by decide)) (pa_cons (pv 1) (pa_cons (pv 3) pa_nil))) (pa_cons (pv 4) pa_nil)))))))), ?_⟩
  refine ⟨v, rfl, v, t, rfl, ht, hz, fun H1 q0 s1 _ ⟨rows, er, lr, hp⟩ => ?_⟩
  refine ⟨_, rfl, _, rfl, q0, a, _, _, rfl, .of er, .of (s1 _ _ ha), fun D hD => ?_⟩
  have many : t.size = min (rows.map V.ref).length (ns.map V.int).length := by
    rw [List.length_map, List.length_map]
    omega
  refine lc_it (walk_zip (K := K) (a := q0) (b := a) (xs := rows.map V.ref) (ys := ns.map V.int) many) (fun i H' => Same H1 H' ∧ H' D = some (.lst (labsV (valAt ns) t i))) ⟨Same.new hD, upd_same⟩ (fun i H3 _ h3 => ⟨.of (h3.1 _ _ er), .of (h3.1 _ _ (s1 _ _ ha))⟩) (fun i x H3 H4 hi h3 hy => ?_) (fun H3 h3 => ?_)
  · obtain ⟨s3, e3⟩ := h3
    obtain ⟨T, x1, x2, rfl, nT, rfl, g1, g2⟩ := hy
    have i1 : i < rows.length := by omega
    have i2 : i < ns.length := by omega
    have w1 : (rows.map V.ref)[i]? = some (.ref rows[i]) := by rw [List.getElem?_map, List.getElem?_eq_getElem i1]; rfl
    cases w1.symm.trans g1
    cases (valAt_get i2).symm.trans g2
    have sT := Same.new (o := .tup [V.ref rows[i], V.int (valAt ns i)]) nT
    have pa := hp i rows[i] (List.getElem?_eq_getElem i1)
    refine ⟨T, _, rfl, .of upd_same, rfl, _, _, rfl, _, [], rfl, rfl, rfl, ?_⟩
    refine ⟨_, rfl, _, rfl, a, rows[i], ns, pOf t 0 i, rfl, sT _ _ (s3 _ _ (s1 _ _ ha)), (pa.same s3).same sT, ?_, fun z hz2 => ?_, fun H5 vb s5 hb => ?_⟩
    · have := pOf_len t 0 i
      omega
    · have := pOf_in t 0 i z hz2
      omega
    · refine ⟨_, rfl, vb, _, _, rfl, hb, _, s5 _ _ (sT _ _ e3), ?_, fun b o e => ?_, ?_⟩
      · rw [labsV_len]
        exact small1000 (by omega)
      · rw [upd_ne (ne_of_none e hD)]
        exact s5 _ _ (sT _ _ (s3 _ _ e))
      · rw [upd_same, labsV_more]
        rfl
  · obtain ⟨s3, e3⟩ := h3
    exact q H3 D (s1.trans s3) (s1.free hD) e3
end
end HSP
namespace HSP
open PySem PySem.Spec PyProof.Rows L2
/-! ## defs that may show an object: nothing is being shown around them -/
structure FnG (P : Program) (w : World) (K : PySem.W.Frag) (mg : Str → Option Value) (base : Heap) (CX : CXT) (k : Nat) (f : Addr) (fd : FuncData) (ps : List Str) (sp : Sp) : Prop where
  len : ∀ vs H Q E, sp vs H Q E → vs.length = ps.length
  run : ∀ (A : Around) (outer : List Env) (s : Shared) (H : Hp) (args : Args) (us : List Value) (vs : List V) (Q : VK) (E : XK), A.guards = some [] → Room k A → Env0 P w K mg base A outer s H → BindsTo s fd args (ps.zip us) → Vals vs us → sp vs H Q E →
    codeAny (model P w) A (.call (.ref f) args) (CR CX outer P w H s Q E) s
section
variable {P : Program} {w : World} {K : PySem.W.Frag} {mg : Str → Option Value} {base : Heap}
theorem FnG.of {CX : CXT} {k : Nat} {f : Addr} {fd : FuncData} {ps : List Str} {sp : Sp} (F : FnOk P w K mg base CX k f fd ps sp) : FnG P w K mg base CX k f fd ps sp :=
  ⟨F.len, fun A outer s H args us vs Q E _ hr e hb hv hs => F.run A outer s H args us vs Q E hr e hb hv hs⟩
theorem FnG.mk' {CX : CXT} {x qual : Str} {st : Stmt} {f : Addr} {fd : FuncData} {N ps : List Str} {k : Nat} {sp : Sp} (F : Fun K x qual st f fd) (S : FnScope N ps (defScope st)) (len : ∀ vs H Q E, sp vs H Q E → vs.length = ps.length)
    (body : ∀ (cdv : Value) (A : Around) (outer : List Env) (s : Shared) (H : Hp) (vs : List V) (Q : VK) (E : XK), A.guards = some [] → Room k (A.deeper (envOfC qual (defScope st) s.heap.objs.size f cdv)) → sp vs H Q E →
      ∃ t, PSs (cxOf CX P w K mg base N qual (defScope st) f cdv A outer s H E) (defBody st) t ∧ t { nx := fun _ H' => Q .non H', rt := Q } (start N vs) H) : FnG P w K mg base CX (k + 1) f fd ps sp := by
  obtain ⟨oc, od, kV, doc, pm, an, cdv, ct, osl, e1, lk, hcd⟩ := F.ex
  subst e1
  refine ⟨len, fun A outer s H args us vs Q E hg hr e0 hb rv hs => ?_⟩
  have kin : K.In s.heap := e0.mod.kin.keeps fun b o e => (e0.bs b o e).1
  have nol : s.heap.NoLimit := e0.mod.nolimit.keeps fun b o e => (e0.bs b o e).1
  have kinds : ∀ y ∈ ps.zip us, (defScope st).names.lookup y.1 = some .local ∨ ((defScope st).names.lookup y.1 = some .cell ∧ ((cellsFrom (s.heap.objs.size + 1) (defScope st).names []).lookup y.1).isSome = true) := by
    intro y hy
    refine (S.par y.1 (List.of_mem_zip (a := y.1) (b := y.2) hy).1).imp id fun c => ⟨c, PySem.W.cellsFrom_some _ _ _ (.inl c)⟩
  refine codeAny_call_function hr.depth (kin _ _ lk) rfl S.co S.gen rfl (PySem.W.codeRec_of kin hcd) (hb _ _ _ _ (wpAny_newFunctionEnv_cells S.kind kinds fun env he s1 x => ?_))
  subst he
  obtain ⟨t, ht, hq⟩ := body cdv A outer s H vs Q E hg (hr.deeper _) hs
  have I := inv_start (CX := CX) (E := E) S hr.hd e0 (len _ _ _ _ hs) rv x
  refine ⟨nol.keeps x.toInCall.keep, codeAny_func (wpAny_mono (ht.run [] s1 (start N vs) H _ I hq) (fun fl s' q => ?_) fun _ _ q => q)⟩
  match fl, q with
  | .ret u, ⟨v, σ', H', J, r, q⟩ => exact ⟨v, H', J.os, J.bare, J.base, J.hok, r, q⟩
  | .next, ⟨σ', H', J, q⟩ => exact ⟨.non, H', J.os, J.bare, J.base, J.hok, rfl, q⟩
  | .brk, ⟨_, _, _, q⟩ => exact q.elim
  | .cont, ⟨_, _, _, q⟩ => exact q.elim
end
end HSP
namespace HSP
open PySem PySem.Spec PyProof.Rows L2
theorem deeper_guards (A : Around) (env : Env) : (A.deeper env).guards = A.guards := rfl
/-! ### calls of such defs -/
structure DfG (P : Program) (w : World) (K : PySem.W.Frag) (mg : Str → Option Value) (base : Heap) (x : Str) (n : Nat) (ps : List Str) (sp : Sp) : Prop where
  ex : ∃ (f : Addr) (fd : FuncData), mg x = some (.ref f) ∧ PySem.W.keepIn K (.ref f) = true ∧ Binds K fd ps [] ∧ FnG P w K mg base CX0 n f fd ps sp
section
variable {P : Program} {w : World} {K : PySem.W.Frag} {mg : Str → Option Value} {base : Heap}
theorem DfG.mk' {x : Str} {st : Stmt} {N ps : List Str} {k : Nat} {sp : Sp} (a : At K mg x st) (S : FnScope N ps (defScope st)) (len : ∀ vs H Q E, sp vs H Q E → vs.length = ps.length)
    (hb : ∀ (kV doc pm : Value) (an : Option Addr) (cdv ct : Value) (us : List Value), us.length = ps.length → bindArgs (PySem.W.fnOf x x (defArgs st) (defBody st) (defScope st) .none kV doc pm an cdv ct) ⟨us, []⟩ = pure (ps.zip us))
    (body : ∀ (f : Addr) (cdv : Value) (A : Around) (outer : List Env) (s : Shared) (H : Hp) (vs : List V) (Q : VK) (E : XK), A.guards = some [] → Room k (A.deeper (envOfC x (defScope st) s.heap.objs.size f cdv)) → sp vs H Q E →
      ∃ t, PSs (cxOf CX0 P w K mg base N x (defScope st) f cdv A outer s H E).nox (defBody st) t ∧ t { nx := fun _ H' => Q .non H', rt := Q } (start N vs) H) : DfG P w K mg base x (k + 1) ps sp := by
  obtain ⟨f, fd, hm, F⟩ := a
  refine ⟨f, fd, hm, F.kp, F.binds hb, FnG.mk' F S len fun cdv A outer s H vs Q E hg hr hs => ?_⟩
  obtain ⟨t, h1, h2⟩ := body f cdv A outer s H vs Q E hg hr hs
  exact ⟨t, h1.nox, h2⟩
end
section
variable {X : Cx} {k n : Nat} {ps ks : List Str} {sp : Sp} {x : Str} {p pos : Pos} {e : Expr} {es : List Expr} {kws : List Keyword} {t tk : TA} {f : Addr} {fd : FuncData} {ds : List Value} {dvs : List V} {g : List Value → List Value → List Value} {gV : List V → List V → List V}
theorem pe_dfG (D : DfG X.prog X.w X.K X.mg X.base x k ps sp) (hgd : X.A.guards = some []) (hr : Room k X.A) (ha : PA X (e :: es) t) (hg : Gl X x := by rfl) (hdb : (x == ("__debug__" : Str)) = false := by decide)
    (he : starEach (e :: es) X.env = (false, eval e X.env) :: starEach es X.env := by rfl) (hpl : (backTo pos (starEach es X.env)).any (·.1) = false := by rfl) : PE X (.Call (.Name x p) (e :: es) [] pos) (tCall sp [] E0 t) := by
  obtain ⟨f, fd, hm, hk, hb, F⟩ := D.ex
  refine ⟨fun pins s σ H Q I h => wpAny_Call_Name_kw (ld_glob I hg hm ?_ hdb)⟩
  refine PySem.W.callWith_K (h₀ := X.base) I.ok.mod.kin hk (thn (ha.run pos pins s σ H _ I h) fun us s1 z => ?_) he hpl
  obtain ⟨vs, H1, I1, r, q⟩ := z
  refine ⟨I1.kIn, ?_⟩
  have q' : sp vs H1 Q E0 := by
    have z : sp (vs ++ []) H1 Q E0 := q
    rw [List.append_nil] at z
    exact z
  have l1 : (us ++ []).length = ps.length := by rw [List.append_nil, ← r.length]; exact F.len _ _ _ _ q'
  have hb' := hb s1 us I1.kIn l1
  rw [List.append_nil] at hb'
  refine wpAny_call (codeAny_mono (F.run X.A X.stack s1 H1 ⟨us, []⟩ us vs Q E0 hgd hr I1.env0 hb' r q') fun res s' hq => ?_)
  match res, hq with
  | .error _, hq => exact (show False from hq).elim
  | .ok (.ret u), hq => exact I1.after hq
/-- f(k = v, ..): keywords alone -/
theorem pe_callK0 {CX : CXT} {E : XK} (F : FnOk X.prog X.w X.K X.mg X.base CX k f fd ps sp) (hr : Room k X.A) (hg : Gl X x) (hm : X.mg x = some (.ref f)) (hk : PySem.W.keepIn X.K (.ref f) = true) (hb : KBn X.K fd ps 0 ks g gV) (hx : Passes CX X E) (hkw : PK X kws tk)
    (hall : (backToKw pos (keywordEach kws X.env)).all (·.1.isSome) = true := by rfl) (hks : (backToKw pos (keywordEach kws X.env)).filterMap (·.1) = ks := by rfl) (hdb : (x == ("__debug__" : Str)) = false := by decide)
    (hpl : (backToKw pos (keywordEach kws X.env)).any (·.1.isNone) = false := by rfl) : PE X (.Call (.Name x p) [] kws pos) (tCallN 0 ks.length sp gV E tNil tk) := by
  refine ⟨fun pins s σ H Q I h => wpAny_Call_Name_kw (ld_glob I hg hm ?_ hdb)⟩
  refine PySem.W.callWith_KW0 (h₀ := X.base) I.ok.mod.kin hk hall (thn (hkw.run pos pins s σ H _ I h) fun ws s1 z => ?_) hpl
  obtain ⟨zs, H1, I1, rz, l1, l2, q⟩ := z
  rw [hks]
  exact ⟨I1.kIn, run_fnN (us := []) F hr hb hx I1 .nil rz l1 l2 q⟩
/-! ### repr of data -/
def rReprD (K : PySem.W.Frag) : List V → Hp → VK → Prop := fun vs H Q => ∃ (a : Addr) (d : PyData), vs = [.ref a] ∧ Dp K H (.ref a) d ∧ d.showable = true ∧ d.hasDict = false ∧ d.depth ≤ 60 ∧ d.shown.length ≤ sizeLine ∧ Q (.str d.shown) H
theorem cr_reprD (hgd : X.A.guards = some []) (hu : X.A.units + 64 < cLine) : CallR X (.builtin "repr") (rReprD X.K) := by
  intro pins s σ H vs us Q I r h
  obtain ⟨a, d, rfl, hd, hs, hn, h60, hz, q⟩ := h
  rw [Vals.ref1 r]
  obtain ⟨as, rd⟩ := Dp.reads I d (.ref a) (.ref a) hd rfl
  exact repr_of_reads' rd hs (fun z => by rw [hn] at z; cases z) hgd (by omega) (fun _ _ e => e) (fun h' u tk kp => ⟨.str _, H, I.kept kp, ⟨u, rfl⟩, q⟩) hz
end
end HSP
namespace HSP
open PySem PySem.Spec PyProof.Rows L2
/-! ## the law's call, where nothing is being shown -/
section
variable {P : Program} {w : World} {K : PySem.W.Frag} {mg mb : Str → Option Value} {k : Nat} {fa a : Addr} {fd : FuncData} {x : Str} {sp : Sp} {s1 : Shared} {vs : List Value} {ns : List Int}
/-- from an abstract heap that tracks nothing but, perhaps, the script -/
theorem callG_core (kin : K.In s1.heap) (hns : s1.heap.Ns mainGlobals mg) (hb : s1.heap.Ns builtinsNs mb) (hbb : ∀ x : Str, x ≠ "__name__" → mb x = bootBuiltins x) (hlim : s1.heap.NoLimit) (hg : s1.gens = #[])
    (ha : s1.heap.get? a = some { cls := .type "list", data := .seq vs.toArray }) (hr : Room k callerA) (F : ∀ base : Heap, K.In base → base.Ns mainGlobals mg → FnG P w K mg base CX0 k fa fd [x] sp)
    (hbind : ∀ (s : Shared) (u : Value), BindsTo s fd ⟨[u], []⟩ [(x, u)]) (H : Hp) (hO : Only H) (hsp : sp [.ref a] H (fun v _ => v = .bl true) fun _ _ _ => False) (hok : HOk P w H s1.heap) (hA : ∀ b o, H b = some o → b = a) (hK : ∀ o, H a = some o → K.lookup a = none) :
    codeAny (model P w) callerA (.call (.ref fa) ⟨[.ref a], []⟩) (fun r s' => r = .ok (.ret (.bool true)) ∧ OldK s1.heap s'.heap ∧ s'.os = s1.os ∧ AllBare s'.gens) s1 := by
  -- no dict is tracked
  have free : ∀ {b : Addr} {o : Obj} {es : Array DictEntry} {ep : Nat}, s1.heap.get? b = some o → o.data = .dict es ep → H b = none := by
    intro b o es ep e d
    match q : H b with
    | none => rfl
    | some u =>
      rw [hA b u q, ha] at e
      cases e
      cases d
  have nsB : ∀ {b : Addr} {m : Str → Option Value}, s1.heap.Ns b m → (hidT s1.heap H).Ns b m := by
    intro b m h
    obtain ⟨o, es, ep, e, d, r⟩ := h
    exact ⟨o, es, ep, hidT_get e (free e d), d, r⟩
  have kinB : K.In (hidT s1.heap H) := by
    intro b o e
    refine hidT_get (kin b o e) ?_
    match q : H b with
    | none => rfl
    | some u =>
      have eb := hA b u q
      rw [eb] at e q
      rw [hK u q] at e
      cases e
  have md : Mod K mg (hidT s1.heap H) := by
    obtain ⟨mc, c1, c2⟩ := hlim
    exact ⟨kinB, nsB hns, ⟨mb, nsB hb, hbb⟩, mc, nsB c1, c2⟩
  have env : Env0 P w K mg (hidT s1.heap H) callerA [] s1 H := ⟨rfl, md, fun b o e => of_hidT e, Nat.le_of_eq (hidT_size _ _), trivial, (fun b z => by cases z), hok, .of_eq hg⟩
  refine codeAny_mono ((F _ kinB (nsB hns)).run callerA [] s1 H ⟨[.ref a], []⟩ [.ref a] [.ref a] _ _ rfl hr env (hbind s1 (.ref a)) (.cons rfl .nil) hsp) fun r s' h => ?_
  match r, h with
  | .error _, h => exact (show False from h).elim
  | .ok (.ret u), h =>
    obtain ⟨v, H', os, bare, un, hok', rv, q⟩ := h
    have q' : v = .bl true := q
    rw [q'] at rv
    have eu : u = Value.bool true := rv
    rw [eu]
    refine ⟨rfl, OldK.of_keep fun b o e => ?_, os, bare⟩
    match q : H b with
    | none => exact un.keep b o e q (fun z => by cases z) (fun z => by cases z)
    | some u =>
      rcases hO b with z | ⟨ob, xs, z⟩
      · rw [q] at z
        cases z
      · have b1 := (hok b _ z).1
        have b2 := (hok' b _ (un.frzs b ob _ z)).1
        rw [e] at b1
        cases b1
        exact b2
theorem law_callG (kin : K.In s1.heap) (hns : s1.heap.Ns mainGlobals mg) (hb : s1.heap.Ns builtinsNs mb) (hbb : ∀ x : Str, x ≠ "__name__" → mb x = bootBuiltins x) (hlim : s1.heap.NoLimit) (hg : s1.gens = #[])
    (ha : s1.heap.get? a = some { cls := .type "list", data := .seq vs.toArray }) (hi : IntsAre vs ns) (hl : ns.length ≤ sizeLine) (hr : Room k callerA) (F : ∀ base : Heap, K.In base → base.Ns mainGlobals mg → FnG P w K mg base CX0 k fa fd [x] sp)
    (hbind : ∀ (s : Shared) (u : Value), BindsTo s fd ⟨[u], []⟩ [(x, u)]) (hsp : ∀ H : Hp, Only H → SqL K H a (ns.map V.int) → sp [.ref a] H (fun v _ => v = .bl true) fun _ _ _ => False) :
    codeAny (model P w) callerA (.call (.ref fa) ⟨[.ref a], []⟩) (fun r s' => r = .ok (.ret (.bool true)) ∧ OldK s1.heap s'.heap ∧ s'.os = s1.os ∧ AllBare s'.gens) s1 := by
  have rv := vals_ints hi
  have le : vs.length = ns.length := hi.length
  match hk : K.lookup a with
  | some o =>
    have e := kin a o hk
    rw [ha] at e
    cases e
    refine callG_core kin hns hb hbb hlim hg ha hr F hbind (fun _ => none) (fun _ => .inl rfl) (hsp _ (fun _ => .inl rfl) ?_) (fun b u z => by cases z) (fun b o z => by cases z) (fun o z => by cases z)
    exact .inr ⟨_, vs.toArray, _, hk, rfl, rfl, rfl, by rw [List.size_toArray, le]; exact hl, by rw [List.toList_toArray]; exact rv⟩
  | none =>
    let H : Hp := fun b => if b = a then some (.frz { cls := .type "list", data := .seq vs.toArray } (.lst (ns.map V.int))) else none
    have at_a : H a = some (.frz { cls := .type "list", data := .seq vs.toArray } (.lst (ns.map V.int))) := if_pos rfl
    have off : ∀ b, b ≠ a → H b = none := fun b n => if_neg n
    have only : Only H := fun b => by
      by_cases c : b = a
      · rw [c]; exact .inr ⟨_, _, at_a⟩
      · exact .inl (off b c)
    refine callG_core kin hns hb hbb hlim hg ha hr F hbind H only (hsp H only (.inl (.inr ⟨_, at_a⟩))) (fun b u z => ?_) (fun b o z => ?_) (fun _ _ => hk)
    · by_cases c : b = a
      · rw [c] at z ⊢
        rw [at_a] at z
        cases z
        exact ⟨ha, by rw [List.length_map]; exact hl, vs, _, rv, ha⟩
      · rw [off b c] at z
        cases z
    · by_cases c : b = a
      · exact c
      · rw [off b c] at z
        cases z
end
/-- what the head leaves, from the law's promise -/
theorem walk_ofG {l : PySem.W.OpenLaw} {n k : Nat} {q : Program} {loose : List Str} {XP : (Str → Option Value) → Heap → Prop} {YP : World → Heap → Prop} {d : DefRec} {K : Params → PySem.W.Frag} {sp : World → Sp} {x : Str} (hn : l.most = some n) (hn2 : n ≤ sizeLine) (hdf : d.params.defaults = []) (hr : Room k callerA)
    (hY : ∀ (w : World) (h : Heap), YP w h → (K w.params).In h)
    (F : ∀ (w : World) (mg : Str → Option Value) (fa : Addr) (h : Heap), (K w.params).In h → h.Ns mainGlobals mg → mg d.name = some (.ref fa) → ∃ fd : FuncData, (∀ (s : Shared) (u : Value), BindsTo s fd ⟨[u], []⟩ [(x, u)]) ∧
        ∀ base : Heap, (K w.params).In base → base.Ns mainGlobals mg → FnG l.prog w (K w.params) mg base CX0 k fa fd [x] (sp w))
    (hsp : ∀ (w : World) (H : Hp) (a : Addr) (ns : List Int), ns.length ≤ n → Only H → SqL (K w.params) H a (ns.map V.int) → sp w [.ref a] H (fun v _ => v = .bl true) fun _ _ _ => False) : PySem.W.WalkO q loose XP YP l.row.toRowW d [] (fun f vs => PySem.call f vs) := by
  refine Att.attach_call hn hdf fun w s0 s1 mg mb fa o pm cd doc a vs ns G Y ho hd hcd hmg hobj hints hlen hg => ?_
  obtain ⟨fd, hbd, hF⟩ := F w mg fa _ (hY w _ Y) G.T.g hmg
  exact law_callG (hY w _ Y) G.T.g G.T.b G.T.builtins G.T.nolimit hg hobj hints (Nat.le_trans hlen hn2) hr hF hbd fun H hO hS => hsp w H a ns hlen hO hS
end HSP
namespace HSP
open PySem PySem.Spec PyProof.Rows L2
/-! ## sum(rows, start): lists put behind one another -/
/-- a list object with these items -/
def LO (its : List Value) (n : Nat) : Obj := { cls := .type "list", data := .seq its.toArray n }
section
variable {prog : Program} {w : World} {A : Around}
theorem sumL_loop {I S : Addr} {fp wr : List Addr} {n : Nat} {Pv : Nat → Value → Prop} {St : Nat → Heap → Prop} (W : Walks prog w A.in1 I fp wr n Pv St) (hS : S ∉ fp) (row : Nat → Addr) (part : Nat → List Value) (hv : ∀ i v, Pv i v → v = .ref (row i)) (R : Result → Shared → Prop)
    (most : Nat) (hmost : most ≤ sizeLine) (hfp : ∀ i h, St i h → ∀ b ∈ fp, b < h.objs.size) :
    ∀ (k i : Nat) (s : Shared) (T : Addr) (acc : List Value) (c cT : Nat), n - i = k → i ≤ n → St i s.heap → s.heap.get? S = some (LO [.ref T] c) → s.heap.get? T = some (LO acc cT) → T ≠ S → T ∉ wr →
      (∀ j, j < n → row j ≠ S ∧ row j ∉ wr ∧ ∃ m, s.heap.get? (row j) = some (LO (part j) m)) → acc.length + (((List.range n).drop i).map fun j => (part j).length).sum ≤ most →
      (∀ (s' : Shared) (T' : Addr) (c' : Nat), (∀ b o, b ∉ wr → b ≠ S → s.heap.get? b = some o → s'.heap.get? b = some o) → s'.gens = s.gens → s'.drawn = s.drawn → s'.os = s.os →
        s'.heap.get? T' = some (LO (acc ++ (((List.range n).drop i).map part).flatten) c') → T' ≠ S → T' ∉ wr → (i = n ∧ T' = T ∨ s.heap.get? T' = none) → R (.ok (.ret (.ref T'))) s') →
      codeAny (model prog w) A (.builtin "sum.loop" ⟨[.ref I, .ref S, rawInt 2, rawInt 0], []⟩) R s := by
  have hSw : S ∉ wr := fun h => hS (W.sub _ h)
  intro k
  induction k with
  | zero =>
    intro i s T acc c cT hk hi hst eS eT nTS nTw rows hz hR
    obtain rfl : i = n := by omega
    refine codeAny_builtin F.entry_sum_loop ?_
    rw [Around.under_plainId F.plain_sum_loop _]
    show wpAny _ A.in1 (seqItems? (.ref S) >>= _) _ _ s
    refine wpAny_bind (wpAny_seqItems eS rfl (wpAny_bind (wpAny_tryCatch (W.done s _ _ hst fun h' tk kp => ?_))))
    have e0 : ((List.range i).drop i) = [] := List.drop_eq_nil_of_le (by rw [List.length_range]; exact Nat.le_refl _)
    refine wpAny_pure (hR { s with heap := h', toks := tk } T cT (fun b o n1 _ e => kp b o n1 e) rfl rfl rfl ?_ nTS nTw (.inl ⟨rfl, rfl⟩))
    rw [e0, List.map_nil, List.flatten_nil, List.append_nil]
    exact kp T _ nTw eT
  | succ k ih =>
    intro i s T acc c cT hk hi hst eS eT nTS nTw rows hz hR
    have hlt : i < n := by omega
    have ed : (List.range n).drop i = i :: (List.range n).drop (i + 1) := by
      have q := List.drop_eq_getElem_cons (l := List.range n) (i := i) (by rw [List.length_range]; exact hlt)
      rw [List.getElem_range] at q
      exact q
    rw [ed, List.map_cons, List.sum_cons] at hz
    refine codeAny_builtin F.entry_sum_loop ?_
    rw [Around.under_plainId F.plain_sum_loop _]
    show wpAny _ A.in1 (seqItems? (.ref S) >>= _) _ _ s
    refine wpAny_bind (wpAny_seqItems eS rfl (wpAny_bind (wpAny_tryCatch (W.item i s _ _ hlt hst fun v h1 tk hp hst1 kp => ?_))))
    obtain rfl := hv i v hp
    obtain ⟨nrS, nrw, m, er⟩ := rows i hlt
    have eS1 := kp S _ hSw eS
    have eT1 := kp T _ nTw eT
    have er1 := kp (row i) _ nrw er
    show wpAny _ A.in1 ((holding [Value.ref (row i)] (binaryOp .Add (.ref T) (.ref (row i)))).attempt >>= _) _ _ _
    refine wpAny_bind (wpAny_attempt (wpAny_holding (PySem.P.add_list eT1 er1 ?_ (by rw [List.size_toArray, List.size_toArray]; omega))))
    dsimp only
    have z1 : h1.objs.size ≠ S := fun z => by
      have q : S < h1.objs.size := Heap.lt_size eS1
      rw [z] at q
      exact Nat.lt_irrefl _ q
    have eS2 := Heap.get?_push_of_some ({ cls := .type "list", data := .seq (acc.toArray ++ (part i).toArray) } : Obj) eS1
    refine wpAny_bind (wpAny_updateSeq eS2 rfl ?_)
    have eS3 := Heap.get?_update_self (Obj.mapSeq fun _ => #[Value.ref h1.objs.size]) eS2 rfl
    refine wpAny_bind (wpAny_letGo (wpAny_bind (wpAny_updateSeq eS3 rfl ?_)))
    have eS4 := Heap.get?_update_self (Obj.mapSeq fun _ => #[Value.ref h1.objs.size]) eS3 rfl
    have kk : ∀ b o, b ≠ S → h1.get? b = some o → (((h1.push ({ cls := .type "list", data := .seq (acc.toArray ++ (part i).toArray) } : Obj)).update S (Obj.mapSeq fun _ => #[Value.ref h1.objs.size])).update S (Obj.mapSeq fun _ => #[Value.ref h1.objs.size])).get? b = some o := fun b o nb e =>
      (Heap.get?_update_other _ _ (Ne.symm nb)).trans ((Heap.get?_update_other _ _ (Ne.symm nb)).trans (Heap.get?_push_of_some _ e))
    have eN : (((h1.push ({ cls := .type "list", data := .seq (acc.toArray ++ (part i).toArray) } : Obj)).update S (Obj.mapSeq fun _ => #[Value.ref h1.objs.size])).update S (Obj.mapSeq fun _ => #[Value.ref h1.objs.size])).get? h1.objs.size = some (LO (acc ++ part i) 0) := by
      rw [Heap.get?_update_other _ _ (Ne.symm z1), Heap.get?_update_other _ _ (Ne.symm z1), Heap.get?_push_size _ rfl]
      unfold LO
      rw [List.append_toArray]
    refine wpAny_pure ⟨plainId_quiet F.plain_sum_loop _, ih (i + 1) _ h1.objs.size (acc ++ part i) _ 0 (by omega) hlt (W.frame _ _ _ hst1 fun b hb o e => kk b o (fun z => hS (z ▸ hb)) e) eS4 eN z1 (fun z => Nat.lt_irrefl _ (hfp _ _ hst1 _ (W.sub _ z))) (fun j hj => ?_) ?_ fun s' T' c' kp' g' d' o' e' m1 m2 m3 => ?_⟩
    · obtain ⟨n1, n2, m', e1⟩ := rows j hj
      exact ⟨n1, n2, m', kk _ _ n1 (kp _ _ n2 e1)⟩
    · rw [List.length_append]
      omega
    · refine hR s' T' c' (fun b o n1 n2 e => kp' b o n1 n2 (kk b o n2 (kp b o n1 e))) g' d' o' ?_ m1 m2 (.inr ?_)
      · rw [e', ed, List.map_cons, List.flatten_cons, List.append_assoc]
      · cases eo : s.heap.get? T' with
        | none => rfl
        | some o =>
          have e1 := kp T' o m2 eo
          rcases m3 with ⟨_, z⟩ | z
          · rw [z] at e1
            exact absurd (Heap.lt_size e1) (Nat.lt_irrefl _)
          · rw [kk T' o m1 e1] at z
            cases z
end
section
variable {prog : Program} {w : World} {A : Around} {E : Value → Shared → Prop} {s : Shared}
theorem args_sum2 (a b : Value) : argsOk "sum" ⟨[a, b], []⟩ := by
  unfold argsOk
  kernel_rfl
theorem sumL_call {l s0 : Addr} {rows : List Addr} {lits : List Value} {nl n0 : Nat} {parts : Nat → List Value} {acc : List Value} {Q : Value → Shared → Prop} (hh : A.handled = none)
    (el : s.heap.get? l = some (LO lits nl)) (hl : lits = rows.map Value.ref) (e0 : s.heap.get? s0 = some (LO acc n0)) (hr : ∀ j (h : j < rows.length), ∃ m, s.heap.get? rows[j] = some (LO (parts j) m))
    (hz : acc.length + ((List.range rows.length).map fun j => (parts j).length).sum ≤ sizeLine)
    (h : ∀ (s' : Shared) (T : Addr) (c : Nat), (∀ b o, s.heap.get? b = some o → s'.heap.get? b = some o) → s'.gens = s.gens → s'.os = s.os → s'.heap.get? T = some (LO (acc ++ ((List.range rows.length).map parts).flatten) c) → (rows = [] ∧ T = s0 ∨ s.heap.get? T = none) → Q (.ref T) s') :
    wpAny (model prog w) A (call (.builtin "sum") [.ref l, .ref s0]) Q E s := by
  have hlen : lits.toArray.size = rows.length := by rw [hl, List.size_toArray, List.length_map]
  refine call_function_tree F.kind_sum F.plain_sum F.entry_sum (args_sum2 _ _) ?_
  unfold Builtin.«sum»
  simp only [List.length_cons, List.length_nil]
  rw [if_neg (by decide)]
  refine wpAny_bind (wpAny_of_eq (show Builtin.Builtins.bindParams "sum" ["start"] 0 ⟨[.ref s0], []⟩ = pure [some (.ref s0)] from rfl) ?_)
  have hL : s.heap.IsList l lits.toArray := ⟨_, el, rfl, nl, rfl⟩
  refine wpAny_bind (wpAny_pyIter_list hL ?_)
  have lt1 : l < s.heap.objs.size := Heap.lt_size el
  have lt0 : s0 < s.heap.objs.size := Heap.lt_size e0
  have e1 := Heap.get?_push_of_some ({ cls := .type "list_iterator", data := .fields #[.ref l, .int 0 0] } : Obj) e0
  have tL : Shared.TypeIs { s with heap := s.heap.push { cls := .type "list_iterator", data := .fields #[.ref l, .int 0 0] } } (.ref s0) "list" := ⟨_, e1, rfl⟩
  refine wpAny_bind (wpAny_pure ?_)
  simp only [List.forIn_cons, List.forIn_nil]
  refine wpAny_bind (wpAny_bind (wpAny_bind (wpAny_isInstance (T := "list") (b := false) tL PySem.F.sub_list_str ?_)))
  simp only [Bool.false_eq_true, if_false]
  refine wpAny_pure (wpAny_bind (wpAny_bind (wpAny_isInstance (T := "list") (b := false) tL PySem.F.sub_list_bytes ?_)))
  simp only [Bool.false_eq_true, if_false]
  refine wpAny_pure (wpAny_bind (wpAny_bind (wpAny_isInstance (T := "list") (b := false) tL PySem.F.sub_list_bytearray ?_)))
  simp only [Bool.false_eq_true, if_false]
  refine wpAny_pure (wpAny_pure (wpAny_bind (wpAny_newObj_type ?_)))
  have sz1 : (s.heap.push ({ cls := .type "list_iterator", data := .fields #[.ref l, .int 0 0] } : Obj)).objs.size = s.heap.objs.size + 1 := Heap.size_push ..
  have nlI : l ≠ s.heap.objs.size := Nat.ne_of_lt lt1
  have kp : ∀ b o, s.heap.get? b = some o → ((s.heap.push ({ cls := .type "list_iterator", data := .fields #[.ref l, .int 0 0] } : Obj)).push (LO [.ref s0] 0)).get? b = some o := fun b o e => Heap.get?_push_of_some _ (Heap.get?_push_of_some _ e)
  refine wpAny_pure ⟨plainId_quiet F.plain_sum_loop _, sumL_loop (Walks.list (A := A.in1) (by simp [hh]) s.heap.objs.size l nlI lits.toArray) (S := (s.heap.push ({ cls := .type "list_iterator", data := .fields #[.ref l, .int 0 0] } : Obj)).objs.size) ?_ (fun j => rows.getD j 0) parts ?_ _ sizeLine (Nat.le_refl _) ?_
    (rows.length - 0) 0 _ s0 acc 0 n0 (by rw [hlen]) (Nat.zero_le _) ⟨⟨_, Heap.get?_push_of_some _ (Heap.get?_push_size _ rfl), rfl, rfl⟩, (hL.push _).push _⟩ ?_ (kp _ _ e0) (by rw [sz1]; exact Nat.ne_of_lt (Nat.lt_succ_of_lt lt0)) ?_ ?_ ?_ ?_⟩
  · rw [sz1]
    intro z
    rcases List.mem_cons.mp z with z | z
    · exact absurd z (Nat.ne_of_gt (Nat.lt_succ_self _))
    · exact absurd (List.mem_singleton.mp z) (Nat.ne_of_gt (Nat.lt_succ_of_lt lt1))
  · intro i v hv
    rw [List.getElem?_toArray, hl, List.getElem?_map] at hv
    cases hr2 : rows[i]? with
    | none => rw [hr2] at hv; cases hv
    | some b =>
      rw [hr2] at hv
      cases hv
      rw [List.getD_eq_getElem?_getD, hr2]
      rfl
  · intro i h st b hb
    rcases List.mem_cons.mp hb with z | z
    · obtain ⟨⟨o, ho, _⟩, _⟩ := st
      rw [z]
      exact Heap.lt_size ho
    · obtain ⟨_, ⟨o, ho, _⟩⟩ := st
      rw [List.mem_singleton.mp z]
      exact Heap.lt_size ho
  · exact Heap.get?_push_size _ rfl
  · intro z
    exact absurd (List.mem_singleton.mp z) (Nat.ne_of_lt lt0)
  · intro j hj
    rw [hlen] at hj
    obtain ⟨m, e⟩ := hr j hj
    have eg : rows.getD j 0 = rows[j] := by
      rw [List.getD_eq_getElem?_getD, List.getElem?_eq_getElem hj]
      rfl
    have lt2 : rows[j] < s.heap.objs.size := Heap.lt_size e
    refine ⟨?_, ?_, m, ?_⟩
    · rw [eg, sz1]; exact Nat.ne_of_lt (Nat.lt_succ_of_lt lt2)
    · rw [eg]; exact fun z => absurd (List.mem_singleton.mp z) (Nat.ne_of_lt lt2)
    · rw [eg]; exact kp _ _ e
  · rw [hlen, List.drop_zero]
    exact hz
  · intro s' T' c' k1 g1 d1 o1 e' m1 m2 m3
    rw [hlen, List.drop_zero] at e'
    refine h s' T' c' (fun b o e => ?_) g1 o1 e' (m3.imp (fun z => ⟨List.eq_nil_of_length_eq_zero (by rw [← hlen]; exact z.1.symm), z.2⟩) fun z => ?_)
    rotate_left
    · cases eo : s.heap.get? T' with
      | none => rfl
      | some o =>
        cases (kp _ _ eo).symm.trans z
    have lt3 : b < s.heap.objs.size := Heap.lt_size e
    exact k1 b o (fun z => absurd (List.mem_singleton.mp z) (Nat.ne_of_lt lt3)) (by rw [sz1]; exact Nat.ne_of_lt (Nat.lt_succ_of_lt lt3)) (kp _ _ e)
end
section
variable {X : Cx}
/-- sum(a list of lists of ints, a list of ints) -/
def rSumL (K : PySem.W.Frag) : List V → Hp → VK → Prop := fun vs H Q => ∃ (a b : Addr) (rows : List Addr) (parts : List (List Int)) (ms : List Int), vs = [V.ref a, V.ref b] ∧ H a = some (.lst (rows.map V.ref)) ∧ H b = some (.lst (ms.map V.int)) ∧
  Paired (fun r ns => H r = some (.lst (ns.map V.int))) rows parts ∧ ms.length + parts.flatten.length ≤ sizeLine ∧ ∀ (H' : Hp) (p : Addr), Same H H' → H' p = some (.lst ((ms ++ parts.flatten).map V.int)) → Q (.ref p) H'
theorem refs_of : ∀ {rows : List Addr} {its : List Value}, Vals (rows.map V.ref) its → its = rows.map Value.ref
  | [], _, .nil => rfl
  | a :: r, _, .cons q t => by rw [List.map_cons, ← refs_of t, (show _ = Value.ref a from q)]
theorem Paired.at' {α β : Type} {R : α → β → Prop} : ∀ {l : List α} {m : List β}, Paired R l m → ∀ j (h : j < l.length) (h' : j < m.length), R l[j] m[j]
  | _, _, .cons q _, 0, _, _ => q
  | _, _, .cons _ t, j + 1, h, h' => Paired.at' t j (Nat.lt_of_succ_lt_succ h) (Nat.lt_of_succ_lt_succ h')
theorem range_map {α β : Type} (f : α → β) (d : α) : ∀ l : List α, (List.range l.length).map (fun j => f (l.getD j d)) = l.map f := by
  intro l
  apply List.ext_getElem
  · rw [List.length_map, List.length_map, List.length_range]
  · intro i h1 h2
    rw [List.length_map] at h2
    rw [List.getElem_map, List.getElem_map, List.getElem_range, List.getD_eq_getElem?_getD, List.getElem?_eq_getElem h2]
    rfl
theorem rows_of {P : Program} {w : World} {H : Hp} {h : Heap} (ok : HOk P w H h) : ∀ {rows : List Addr} {parts : List (List Int)}, Paired (fun r ns => H r = some (.lst (ns.map V.int))) rows parts →
    ∃ pits : List (List Value), pits.length = rows.length ∧ (∀ j (hj : j < rows.length), ∃ m, h.get? rows[j] = some (LO (pits.getD j []) m)) ∧ Vals (parts.flatten.map V.int) pits.flatten ∧ (pits.map List.length).sum = parts.flatten.length
  | [], [], .nil => ⟨[], rfl, fun j hj => absurd hj (Nat.not_lt_zero j), .nil, rfl⟩
  | r :: rows, ns :: parts, .cons e t => by
    obtain ⟨pits, h1, h2, h3, h4⟩ := rows_of ok t
    obtain ⟨z, its, n, v, g⟩ : ObjOk P w H h r (.lst (ns.map V.int)) := ok r _ e
    refine ⟨its :: pits, by rw [List.length_cons, h1, List.length_cons], fun j hj => ?_, ?_, ?_⟩
    · cases j with
      | zero => exact ⟨n, g⟩
      | succ j => exact h2 j (Nat.lt_of_succ_lt_succ hj)
    · rw [List.flatten_cons, List.map_append, List.flatten_cons]
      exact v.append h3
    · rw [List.map_cons, List.sum_cons, h4, List.flatten_cons, List.length_append, ← v.length, List.length_map]
theorem cr_sumL (hc : X.calm = true) : CallR X (.builtin "sum") (rSumL X.K) := by
  intro pins s σ H vs us Q I r h
  obtain ⟨a, b, rows, parts, ms, rfl, ha, hb, hp, hz, q⟩ := h
  cases r with
  | cons r1 t1 =>
    cases t1 with
    | cons r2 t2 =>
      cases t2
      cases r1
      cases r2
      obtain ⟨za, its, n, va, ea⟩ : ObjOk X.prog X.w H s.heap a (.lst (rows.map V.ref)) := I.hok a _ ha
      obtain ⟨zb, it0, n0, vb, eb⟩ : ObjOk X.prog X.w H s.heap b (.lst (ms.map V.int)) := I.hok b _ hb
      obtain ⟨pits, hl2, hg2, hv2, hn2⟩ := rows_of I.hok hp
      have e1 : (List.range rows.length).map (fun j => pits.getD j []) = pits := by
        have q := range_map (fun x : List Value => x) [] pits
        rw [List.map_id', hl2] at q
        exact q
      have e2 : ((List.range rows.length).map fun j => (pits.getD j []).length).sum = parts.flatten.length := by
        have q := range_map (fun x : List Value => x.length) [] pits
        rw [hl2] at q
        rw [q, hn2]
      refine sumL_call (I.ok.hd hc) (lits := its) (acc := it0) (parts := fun j => pits.getD j []) ea (refs_of va) eb hg2 (by rw [e2, ← vb.length, List.length_map]; exact hz) fun s' T c kp hg ho hT hw => ?_
      rw [e1] at hT
      have hvals : Vals ((ms ++ parts.flatten).map V.int) (it0 ++ pits.flatten) := by
        rw [List.map_append]
        exact vb.append hv2
      rcases hw with ⟨z1, z2⟩ | hnew
      · subst z1
        cases hp
        refine ⟨.ref T, H, I.call' (ch := []) ho (Un.kept kp) (I.hok.kept kp) (by rw [hg]; exact I.bare) (fun _ z => nomatch z), rfl, q H T (Same.refl H) ?_⟩
        rw [z2, hb, List.flatten_nil, List.append_nil]
      · have hn : H T = none := by
          cases eo : H T with
          | none => rfl
          | some o =>
            obtain ⟨u, hu⟩ := objOk_get (I.hok T o eo)
            rw [hnew] at hu
            cases hu
        refine ⟨.ref T, upd H T (.lst ((ms ++ parts.flatten).map V.int)), I.call' (ch := []) ho (Un.laidN kp hnew hn) (I.hok.laidN kp hn ⟨?_, _, c, hvals, hT⟩) (by rw [hg]; exact I.bare) (fun _ z => nomatch z), rfl, q _ T (Same.new hn) upd_same⟩
        rw [List.length_map, List.length_append]
        exact hz
end
end HSP
namespace HSP
open PySem PySem.Spec PyProof.Rows L2
theorem cut_last (xs : List V) (y : V) : cutV (xs ++ [y]) none (some (-1)) = xs := by
  unfold cutV
  have e : HT.sIx (xs ++ [y]).length (xs ++ [y]).length (some (-1)) = xs.length := by
    show (if (-1 : Int) < 0 then ((-1 : Int) + ((xs ++ [y]).length : Int)).toNat else min (-1 : Int).toNat (xs ++ [y]).length) = xs.length
    rw [if_pos (by decide), List.length_append, List.length_singleton]
    omega
  rw [e, HT.sIx_none, List.drop_zero, Nat.sub_zero, List.take_left]
theorem inV_nat (i : Nat) : ∀ xs : List Nat, inV (natV i) (xs.map natV) = decide (i ∈ xs)
  | [] => rfl
  | x :: r => by
    have ih := inV_nat i r
    have e : inV (natV i) ((x :: r).map natV) = (eqV (natV x) (natV i) || inV (natV i) (r.map natV)) := rfl
    rw [e, ih]
    have e2 : eqV (natV x) (natV i) = decide ((x : Int) = (i : Int)) := rfl
    rw [e2]
    by_cases c : i = x
    · rw [decide_eq_true (show (x : Int) = (i : Int) by omega), Bool.true_or, decide_eq_true (List.mem_cons.mpr (.inl c))]
    · rw [decide_eq_false (show ¬ (x : Int) = (i : Int) by omega), Bool.false_or]
      by_cases d : i ∈ r
      · rw [decide_eq_true d, decide_eq_true (List.mem_cons_of_mem _ d)]
      · rw [decide_eq_false d, decide_eq_false (fun z => (List.mem_cons.mp z).elim c d)]
theorem inV_int (i : Int) : ∀ xs : List Int, inV (.int i) (xs.map V.int) = decide (i ∈ xs)
  | [] => rfl
  | x :: r => by
    have ih := inV_int i r
    have e : inV (.int i) ((x :: r).map V.int) = (eqV (.int x) (.int i) || inV (.int i) (r.map V.int)) := rfl
    rw [e, ih]
    have e2 : eqV (.int x) (.int i) = decide (x = i) := rfl
    rw [e2]
    by_cases c : i = x
    · rw [decide_eq_true c.symm, Bool.true_or, decide_eq_true (List.mem_cons.mpr (.inl c))]
    · rw [decide_eq_false (show ¬ x = i by omega), Bool.false_or]
      by_cases d : i ∈ r
      · rw [decide_eq_true d, decide_eq_true (List.mem_cons_of_mem _ d)]
      · rw [decide_eq_false d, decide_eq_false (fun z => (List.mem_cons.mp z).elim c d)]
theorem flat_nats : ∀ xs : List Nat, (xs.map natV).all flatV = true
  | [] => rfl
  | x :: r => by
    rw [List.map_cons, List.all_cons, flat_nats r]
    rfl
theorem flat_ints : ∀ xs : List Int, (xs.map V.int).all flatV = true
  | [] => rfl
  | x :: r => by
    rw [List.map_cons, List.all_cons, flat_ints r]
    rfl
/-! ### lists of ints as data -/
def intsD (l : List Int) : PyData := .list (l.map PyData.int)
theorem ints_can : ∀ l : List Int, PyData.canLayAll0 (l.map PyData.int) = true
  | [] => by simp [PyData.canLayAll0]
  | z :: r => by
    have ih := ints_can r
    simp only [List.map_cons, PyData.canLayAll0, PyData.canLay0, ih, Bool.and_self]
theorem ints_deep : ∀ l : List Int, PyData.depthAll (l.map PyData.int) ≤ 1
  | [] => by simp [PyData.depthAll]
  | z :: r => by
    have ih := ints_deep r
    simp only [List.map_cons, PyData.depthAll, PyData.depth]
    omega
theorem ints_shaped (l : List Int) : SeqAt.shaped (intsD l) = true := by
  unfold SeqAt.shaped intsD
  have h1 := ints_can l
  have h2 := ints_deep l
  rw [Bool.and_eq_true]
  refine ⟨by simp only [PyData.canLay0]; exact h1, decide_eq_true ?_⟩
  simp only [PyData.depth]
  omega
theorem ints_dpAll {K : PySem.W.Frag} {H : Hp} : ∀ l : List Int, DpAll K H (l.map V.int) (l.map PyData.int)
  | [] => .nil
  | z :: r => .cons (.int z) (ints_dpAll r)
theorem ints_none (l : List Int) : PyData.eqv (intsD l) (intsD []) = decide (l = []) := by
  cases l with
  | nil => rw [decide_eq_true rfl]; exact SeqAt.eqv_refl _ (by unfold intsD; simp only [PyData.canLay0]; exact ints_can [])
  | cons x r =>
    rw [decide_eq_false (List.cons_ne_nil _ _)]
    unfold intsD
    simp [PyData.eqv, PyData.eqvAll]
end HSP
namespace HSP
open PySem PySem.Spec PyProof.Rows L2
/-! ## how data are shown: lengths -/
theorem piled_le (c : Nat) : ∀ ds : List PyData, (∀ d, d ∈ ds → d.shown.length ≤ c) → piled (PyData.shownAll ds) ≤ ds.length * (c + 2)
  | [], _ => by simp [PyData.shownAll, piled_nil]
  | d :: ds, h => by
    have ih := piled_le c ds fun e he => h e (List.mem_cons_of_mem _ he)
    have h1 := h d List.mem_cons_self
    have e : PyData.shownAll (d :: ds) = d.shown :: PyData.shownAll ds := by simp [PyData.shownAll]
    rw [e, piled_cons, List.length_cons, Nat.add_mul]
    omega
theorem listText_le : ∀ ts : List Str, (listText ts).length ≤ piled ts + 2
  | [] => by decide +kernel
  | t :: r => by
    have e : listText (t :: r) = textFrom 1 (("[" : Str) ++ (if 0 > 0 then ", " else "" : String) ++ t) r ++ "]" := rfl
    rw [e, strLen_append, textFrom_length_pos _ _ _ (by decide), strLen_append, strLen_append, piled_cons]
    have e1 : (("[" : String) : Str).length = 1 := rfl
    have e2 : (("]" : String) : Str).length = 1 := rfl
    have e3 : ((if 0 > 0 then ", " else "" : String) : Str).length = 0 := rfl
    omega
theorem tupleText_le (ts : List Str) : (tupleText ts).length ≤ piled ts + 3 := by
  unfold tupleText
  rw [strLen_append, strLen_append]
  have e1 : (("(" : String) : Str).length = 1 := rfl
  have e2 : ((if ts.length == 1 then ",)" else ")" : String) : Str).length ≤ 2 := by
    split <;> decide +kernel
  have e3 : (Str.join ", " ts).length ≤ piled ts := by
    by_cases c : ts = []
    · rw [c]
      decide +kernel
    · have := join_length_add ts c
      omega
  omega
theorem shown_list_le (c : Nat) (ds : List PyData) (h : ∀ d, d ∈ ds → d.shown.length ≤ c) : (PyData.list ds).shown.length ≤ ds.length * (c + 2) + 2 := by
  have e : (PyData.list ds).shown = listText (PyData.shownAll ds) := by simp only [PyData.shown]
  rw [e]
  have h1 := listText_le (PyData.shownAll ds)
  have h2 := piled_le c ds h
  omega
/-! ### trees as data -/
def treeD : Tr → PyData
  | .nil => .none
  | .nod l r => .tuple [treeD l, treeD r]
theorem treeD_len : ∀ t : Tr, (treeD t).shown.length ≤ 11 * t.size + 4
  | .nil => by
    show (PyData.none).shown.length ≤ _
    simp only [PyData.shown]
    decide +kernel
  | .nod l r => by
    have h1 := treeD_len l
    have h2 := treeD_len r
    have e : (treeD (.nod l r)).shown = tupleText [(treeD l).shown, (treeD r).shown] := by
      show (PyData.tuple [treeD l, treeD r]).shown = _
      simp only [PyData.shown, PyData.shownAll]
    have z : (Tr.nod l r).size = l.size + 1 + r.size := rfl
    have h3 := tupleText_le [(treeD l).shown, (treeD r).shown]
    rw [piled_cons, piled_cons, piled_nil] at h3
    rw [e, z]
    omega
theorem treeD_show : ∀ t : Tr, (treeD t).showable = true
  | .nil => by simp only [treeD, PyData.showable]
  | .nod l r => by simp only [treeD, PyData.showable, PyData.showableAll, treeD_show l, treeD_show r, Bool.and_self]
theorem treeD_dict : ∀ t : Tr, (treeD t).hasDict = false
  | .nil => by simp only [treeD, PyData.hasDict]
  | .nod l r => by simp only [treeD, PyData.hasDict, PyData.hasDictAll, treeD_dict l, treeD_dict r, Bool.or_self]
theorem treeD_deep : ∀ t : Tr, (treeD t).depth ≤ t.ht
  | .nil => by simp only [treeD, PyData.depth]; exact Nat.zero_le _
  | .nod l r => by
    have h1 := treeD_deep l
    have h2 := treeD_deep r
    have e : (Tr.nod l r).ht = max l.ht r.ht + 1 := rfl
    simp only [treeD, PyData.depth, PyData.depthAll]
    omega
theorem TrAt.dp {K : PySem.W.Frag} {H : Hp} {v : V} {t : Tr} (h : TrAt H v t) : Dp K H v (treeD t) := by
  induction h with
  | nil => exact .non
  | nod eb _ _ ih1 ih2 => exact .tup (.of eb) (.cons ih1 (.cons ih2 .nil))
/-! ### lists of numbers -/
theorem ints_show : ∀ l : List Int, (∀ v, v ∈ l → v.natAbs.log2 < 1920) → PyData.showableAll (l.map PyData.int) = true
  | [], _ => by simp [PyData.showableAll]
  | z :: r, h => by
    have ih := ints_show r fun v hv => h v (List.mem_cons_of_mem _ hv)
    have h1 := h z List.mem_cons_self
    simp only [List.map_cons, PyData.showableAll, PyData.showable, ih, decide_eq_true h1, Bool.and_self]
theorem ints_dict : ∀ l : List Int, PyData.hasDictAll (l.map PyData.int) = false
  | [] => by simp [PyData.hasDictAll]
  | z :: r => by simp only [List.map_cons, PyData.hasDictAll, PyData.hasDict, ints_dict r, Bool.or_self]
theorem int_len {z : Int} (h : z.natAbs < 10 ^ 30) : (PyData.int z).shown.length ≤ 31 := by
  simp only [PyData.shown]
  rw [show (Str.ofString (toString z)).length = (toString z).length from PySem.ofString_length _]
  exact int_text_length_le10 (k := 30) (by decide) h
theorem int_log {z : Int} (h : z.natAbs < 10 ^ 30) : z.natAbs.log2 < 1920 := by
  by_cases c : z.natAbs = 0
  · rw [c]
    decide
  · exact (Nat.log2_lt c).mpr (Nat.lt_of_lt_of_le h (by decide +kernel))
/-- what repr and == ask of data -/
structure Fine (d : PyData) : Prop where
  show_ : d.showable = true
  dict : d.hasDict = false
  deep : d.depth ≤ 60
  len : d.shown.length ≤ sizeLine
/-- numbers that are not too great -/
def Tame (l : List Int) : Prop := ∀ v, v ∈ l → v.natAbs < 10 ^ 30
theorem intsD_len {l : List Int} (h : Tame l) : (intsD l).shown.length ≤ l.length * 33 + 2 := by
  have := shown_list_le 31 (l.map PyData.int) fun d hd => by
    obtain ⟨v, hv, rfl⟩ := List.mem_map.mp hd
    exact int_len (h v hv)
  rw [List.length_map] at this
  exact this
theorem ints_fine {l : List Int} (h : Tame l) (n : l.length ≤ 1000) : Fine (intsD l) := by
  have h1 := intsD_len h
  have h2 := ints_deep l
  refine ⟨?_, ?_, ?_, ?_⟩
  · unfold intsD
    simp only [PyData.showable]
    exact ints_show l fun v hv => int_log (h v hv)
  · unfold intsD
    simp only [PyData.hasDict]
    exact ints_dict l
  · unfold intsD
    simp only [PyData.depth]
    omega
  · have : sizeLine = 16777216 := rfl
    omega
/-- [d, e] -/
theorem pair_fine {d e : PyData} (hd : Fine d) (he : Fine e) (h1 : d.depth ≤ 59) (h2 : e.depth ≤ 59) (c : Nat) (l1 : d.shown.length ≤ c) (l2 : e.shown.length ≤ c) (hc : c ≤ 100000) : Fine (.list [d, e]) := by
  refine ⟨?_, ?_, ?_, ?_⟩
  · simp only [PyData.showable, PyData.showableAll, hd.show_, he.show_, Bool.and_self]
  · simp only [PyData.hasDict, PyData.hasDictAll, hd.dict, he.dict, Bool.or_self]
  · simp only [PyData.depth, PyData.depthAll]
    omega
  · have := shown_list_le c [d, e] fun x hx => by
      rcases List.mem_cons.mp hx with z | z
      · rw [z]; exact l1
      · rw [List.mem_singleton.mp z]; exact l2
    have e1 : [d, e].length = 2 := rfl
    rw [e1] at this
    have : sizeLine = 16777216 := rfl
    omega
theorem tree_fine {t : Tr} (h : t.size ≤ 100) (d : t.ht ≤ 40) : Fine (treeD t) := by
  have h1 := treeD_len t
  have h2 := treeD_deep t
  have : sizeLine = 16777216 := rfl
  exact ⟨treeD_show t, treeD_dict t, by omega, by omega⟩
/-- [tree, values] -/
def argsD (t : Tr) (ns : List Int) : PyData := .list [treeD t, intsD ns]
theorem args_fine {t : Tr} {ns : List Int} (h : t.size ≤ 20) (n : ns.length ≤ 20) (hn : Tame ns) : Fine (argsD t ns) := by
  have h1 := treeD_len t
  have h2 := treeD_deep t
  have h3 := t.ht_le
  have h4 := intsD_len hn
  have h5 : (intsD ns).depth ≤ 2 := by
    have := ints_deep ns
    unfold intsD
    simp only [PyData.depth]
    omega
  exact pair_fine (tree_fine (by omega) (by omega)) (ints_fine hn (by omega)) (by omega) (by omega) 1000 (by omega) (by omega) (by decide)
/-- numbers that the law may make of those drawn -/
def Mid (ns : List Int) : Prop := ∀ v, v ∈ ns → -10000000000000000000000 < v ∧ v < 10000000000000000000000
theorem Mid.tame {ns : List Int} (h : Mid ns) : Tame ns := fun v hv => by
  have := h v hv
  have e : (10 : Nat) ^ 30 = 1000000000000000000000000000000 := by decide +kernel
  rw [e]
  omega
theorem Mid.nil : Mid [] := fun _ h => by cases h
theorem Mid.snoc {ns : List Int} {v : Int} (h : Mid ns) (h1 : -10000000000000000000000 < v ∧ v < 10000000000000000000000) : Mid (ns ++ [v]) := fun x hx => by
  rcases List.mem_append.mp hx with z | z
  · exact h x z
  · rw [List.mem_singleton.mp z]
    exact h1
theorem Mid.set {ns : List Int} {v : Int} {i : Nat} (h : Mid ns) (h1 : -10000000000000000000000 < v ∧ v < 10000000000000000000000) : Mid (ns.set i v) := fun x hx => by
  rcases List.mem_or_eq_of_mem_set hx with z | z
  · exact h x z
  · rw [z]
    exact h1
theorem ints_can0 (l : List Int) : PyData.canLay0 (intsD l) = true := by
  unfold intsD
  simp only [PyData.canLay0]
  exact ints_can l
theorem args_dp {K : PySem.W.Frag} {H : Hp} {a b : Addr} {v : V} {t : Tr} {ns : List Int} (ha : H a = some (.lst [v, .ref b])) (hv : TrAt H v t) (hb : H b = some (.lst (ns.map V.int))) : Dp K H (.ref a) (argsD t ns) :=
  .lst (.of ha) (.cons hv.dp (.cons (.lst (.of hb) (ints_dpAll ns)) .nil))
end HSP
namespace HSP
open PySem PySem.Spec PyProof.Rows L2
/-! ### tuples of None, numbers and short texts as data -/
def vD : V → PyData
  | .bl b => .bool b
  | .int i => .int i
  | .str x => .str x
  | _ => .none
/-- what may stand in such a tuple -/
def Plain : V → Prop
  | .non => True
  | .int i => i.natAbs < 10 ^ 30
  | .str x => PyData.strOk x = true ∧ (reprText x).length ≤ 31
  | _ => False
theorem Plain.dp {K : PySem.W.Frag} {H : Hp} {v : V} (h : Plain v) : Dp K H v (vD v) := by
  cases v with
  | non => exact .non
  | int i => exact .int i
  | str x => exact .str x
  | _ => exact h.elim
theorem Plain.len {v : V} (h : Plain v) : (vD v).shown.length ≤ 31 := by
  cases v with
  | non => simp only [vD, PyData.shown]; decide +kernel
  | int i => exact int_len h
  | str x => simp only [vD, PyData.shown]; exact h.2
  | _ => exact h.elim
theorem Plain.can {v : V} (h : Plain v) : PyData.canLay0 (vD v) = true := by
  cases v with
  | non => simp only [vD, PyData.canLay0]
  | int i => simp only [vD, PyData.canLay0]
  | str x => simp only [vD, PyData.canLay0]; exact h.1
  | _ => exact h.elim
theorem Plain.show_ {v : V} (h : Plain v) : (vD v).showable = true := by
  cases v with
  | non => simp only [vD, PyData.showable]
  | int i => simp only [vD, PyData.showable]; exact decide_eq_true (int_log h)
  | str x => simp only [vD, PyData.showable]
  | _ => exact h.elim
theorem vD_dict (v : V) : (vD v).hasDict = false := by
  cases v <;> simp only [vD, PyData.hasDict]
theorem vD_deep (v : V) : (vD v).depth = 0 := by
  cases v <;> simp only [vD, PyData.depth]
def Plains (xs : List V) : Prop := ∀ v, v ∈ xs → Plain v
theorem plains_dp {K : PySem.W.Frag} {H : Hp} : ∀ xs : List V, Plains xs → DpAll K H xs (xs.map vD)
  | [], _ => .nil
  | x :: r, h => .cons (h x List.mem_cons_self).dp (plains_dp r fun v hv => h v (List.mem_cons_of_mem _ hv))
theorem plains_can : ∀ xs : List V, Plains xs → PyData.canLayAll0 (xs.map vD) = true
  | [], _ => by simp [PyData.canLayAll0]
  | x :: r, h => by
    have ih := plains_can r fun v hv => h v (List.mem_cons_of_mem _ hv)
    have h1 := (h x List.mem_cons_self).can
    simp only [List.map_cons, PyData.canLayAll0, h1, ih, Bool.and_self]
theorem plains_show : ∀ xs : List V, Plains xs → PyData.showableAll (xs.map vD) = true
  | [], _ => by simp [PyData.showableAll]
  | x :: r, h => by
    have ih := plains_show r fun v hv => h v (List.mem_cons_of_mem _ hv)
    have h1 := (h x List.mem_cons_self).show_
    simp only [List.map_cons, PyData.showableAll, h1, ih, Bool.and_self]
theorem plains_dict : ∀ xs : List V, PyData.hasDictAll (xs.map vD) = false
  | [] => by simp [PyData.hasDictAll]
  | x :: r => by simp only [List.map_cons, PyData.hasDictAll, vD_dict, plains_dict r, Bool.or_self]
theorem plains_deep : ∀ xs : List V, PyData.depthAll (xs.map vD) ≤ 1
  | [] => by simp [PyData.depthAll]
  | x :: r => by
    have ih := plains_deep r
    have h1 := vD_deep x
    simp only [List.map_cons, PyData.depthAll]
    omega
/-- a tuple of such -/
def rowD (xs : List V) : PyData := .tuple (xs.map vD)
theorem shown_tuple_le (c : Nat) (ds : List PyData) (h : ∀ d, d ∈ ds → d.shown.length ≤ c) : (PyData.tuple ds).shown.length ≤ ds.length * (c + 2) + 3 := by
  have e : (PyData.tuple ds).shown = tupleText (PyData.shownAll ds) := by simp only [PyData.shown]
  rw [e]
  have h1 := tupleText_le (PyData.shownAll ds)
  have h2 := piled_le c ds h
  omega
theorem row_len {xs : List V} (h : Plains xs) (n : xs.length ≤ 5) : (rowD xs).shown.length ≤ 168 := by
  have := shown_tuple_le 31 (xs.map vD) fun d hd => by
    obtain ⟨v, hv, rfl⟩ := List.mem_map.mp hd
    exact (h v hv).len
  rw [List.length_map] at this
  show (PyData.tuple (xs.map vD)).shown.length ≤ 168
  omega
theorem row_can {xs : List V} (h : Plains xs) : PyData.canLay0 (rowD xs) = true := by
  unfold rowD
  simp only [PyData.canLay0]
  exact plains_can xs h
theorem row_show {xs : List V} (h : Plains xs) : (rowD xs).showable = true := by
  unfold rowD
  simp only [PyData.showable]
  exact plains_show xs h
theorem row_dict (xs : List V) : (rowD xs).hasDict = false := by
  unfold rowD
  simp only [PyData.hasDict]
  exact plains_dict xs
theorem row_deep (xs : List V) : (rowD xs).depth ≤ 2 := by
  have := plains_deep xs
  unfold rowD
  simp only [PyData.depth]
  omega
theorem row_dp {K : PySem.W.Frag} {H : Hp} {a : Addr} {xs : List V} (e : H a = some (.tup xs)) (h : Plains xs) : Dp K H (.ref a) (rowD xs) := .tup (.of e) (plains_dp xs h)
theorem row_fine {xs : List V} (h : Plains xs) (n : xs.length ≤ 5) : Fine (rowD xs) := by
  have h1 := row_len h n
  have h2 := row_deep xs
  have : sizeLine = 16777216 := rfl
  exact ⟨row_show h, row_dict xs, by omega, by omega⟩
theorem row_shaped {xs : List V} (h : Plains xs) : SeqAt.shaped (rowD xs) = true := by
  unfold SeqAt.shaped
  rw [Bool.and_eq_true]
  have := row_deep xs
  exact ⟨row_can h, decide_eq_true (by omega)⟩
theorem row_same {xs : List V} (h : Plains xs) : PyData.eqv (rowD xs) (rowD xs) = true := SeqAt.eqv_refl _ (row_can h)
/-- a list of such tuples -/
def rowsD (l : List (List V)) : PyData := .list (l.map rowD)
theorem rows_can : ∀ l : List (List V), (∀ xs, xs ∈ l → Plains xs) → PyData.canLayAll0 (l.map rowD) = true
  | [], _ => by simp [PyData.canLayAll0]
  | x :: r, h => by
    have ih := rows_can r fun v hv => h v (List.mem_cons_of_mem _ hv)
    have h1 := row_can (h x List.mem_cons_self)
    simp only [List.map_cons, PyData.canLayAll0, h1, ih, Bool.and_self]
theorem rows_show : ∀ l : List (List V), (∀ xs, xs ∈ l → Plains xs) → PyData.showableAll (l.map rowD) = true
  | [], _ => by simp [PyData.showableAll]
  | x :: r, h => by
    have ih := rows_show r fun v hv => h v (List.mem_cons_of_mem _ hv)
    have h1 := row_show (h x List.mem_cons_self)
    simp only [List.map_cons, PyData.showableAll, h1, ih, Bool.and_self]
theorem rows_dict : ∀ l : List (List V), PyData.hasDictAll (l.map rowD) = false
  | [] => by simp [PyData.hasDictAll]
  | x :: r => by simp only [List.map_cons, PyData.hasDictAll, row_dict, rows_dict r, Bool.or_self]
theorem rows_deep : ∀ l : List (List V), PyData.depthAll (l.map rowD) ≤ 3
  | [] => by simp [PyData.depthAll]
  | x :: r => by
    have ih := rows_deep r
    have h1 := row_deep x
    simp only [List.map_cons, PyData.depthAll]
    omega
theorem rows_dp {K : PySem.W.Frag} {H : Hp} {rs : List Addr} {l : List (List V)} (p : Paired (fun r xs => H r = some (.tup xs)) rs l) (h : ∀ xs, xs ∈ l → Plains xs) : DpAll K H (rs.map V.ref) (l.map rowD) := by
  induction p with
  | nil => exact .nil
  | cons e _ ih => exact .cons (row_dp e (h _ List.mem_cons_self)) (ih fun v hv => h v (List.mem_cons_of_mem _ hv))
theorem rowsD_dp {K : PySem.W.Frag} {H : Hp} {a : Addr} {rs : List Addr} {l : List (List V)} (e : H a = some (.lst (rs.map V.ref))) (p : Paired (fun r xs => H r = some (.tup xs)) rs l) (h : ∀ xs, xs ∈ l → Plains xs) : Dp K H (.ref a) (rowsD l) := .lst (.of e) (rows_dp p h)
theorem rows_fine {l : List (List V)} (h : ∀ xs, xs ∈ l → Plains xs) (n : ∀ xs, xs ∈ l → xs.length ≤ 5) (m : l.length ≤ 1000) : Fine (rowsD l) := by
  have h1 := shown_list_le 168 (l.map rowD) fun d hd => by
    obtain ⟨x, hx, rfl⟩ := List.mem_map.mp hd
    exact row_len (h x hx) (n x hx)
  rw [List.length_map] at h1
  have h2 := rows_deep l
  have : sizeLine = 16777216 := rfl
  refine ⟨?_, ?_, ?_, ?_⟩
  · unfold rowsD
    simp only [PyData.showable]
    exact rows_show l h
  · unfold rowsD
    simp only [PyData.hasDict]
    exact rows_dict l
  · unfold rowsD
    simp only [PyData.depth]
    omega
  · show (PyData.list (l.map rowD)).shown.length ≤ sizeLine
    omega
theorem rowsD_can {l : List (List V)} (h : ∀ xs, xs ∈ l → Plains xs) : PyData.canLay0 (rowsD l) = true := by
  unfold rowsD
  simp only [PyData.canLay0]
  exact rows_can l h
theorem rowsD_shaped {l : List (List V)} (h : ∀ xs, xs ∈ l → Plains xs) : SeqAt.shaped (rowsD l) = true := by
  unfold SeqAt.shaped
  rw [Bool.and_eq_true]
  refine ⟨rowsD_can h, decide_eq_true ?_⟩
  have := rows_deep l
  unfold rowsD
  simp only [PyData.depth]
  omega
theorem rowsD_same {l : List (List V)} (h : ∀ xs, xs ∈ l → Plains xs) : PyData.eqv (rowsD l) (rowsD l) = true := SeqAt.eqv_refl _ (rowsD_can h)
theorem plain_nat {i : Nat} (h : i < 1000000) : Plain (natV i) := by
  show ((i : Int)).natAbs < 10 ^ 30
  have e : (10 : Nat) ^ 30 = 1000000000000000000000000000000 := by decide +kernel
  rw [e]
  omega
theorem nats_ints (l : List Nat) : l.map natV = (l.map Int.ofNat).map V.int := by
  rw [List.map_map]
  rfl
theorem nats_tame {l : List Nat} (h : ∀ i, i ∈ l → i < 1000000) : Tame (l.map Int.ofNat) := fun z hz => by
  obtain ⟨i, hi, rfl⟩ := List.mem_map.mp hz
  have := h i hi
  have e : (10 : Nat) ^ 30 = 1000000000000000000000000000000 := by decide +kernel
  rw [e]
  show i < _
  omega
end HSP
namespace HSP
open PySem PySem.Spec PyProof.Rows L2
/-! ## x in (d1, d2, ..), data of any depth -/
section
variable {X : Cx}
def rInTD (K : PySem.W.Frag) : R2 := fun x y H Q => ∃ d ds, Dp K H x d ∧ Dp K H y (.tuple ds) ∧ SeqAt.shaped d = true ∧ SeqAt.shaped (.tuple ds) = true ∧ Q (.bl (ds.any fun z => PyData.eqv z d)) H
theorem op_inTD (hu : X.A.units + 65 < cLine) : OpR X (compareOp .In) (rInTD X.K) := by
  intro pins s σ H x y v u Q I rx ry h
  obtain ⟨d, ds, hd, he, sd, se, q⟩ := h
  obtain ⟨as, r1⟩ := Dp.reads I d x v hd rx
  obtain ⟨bs, r2⟩ := Dp.reads I (.tuple ds) y u he ry
  exact SeqAt.in_tuple_reads r2 r1 (SeqAt.canLay_of_shaped se) (SeqAt.canLay_of_shaped sd) (room_in_shaped sd hu) ⟨.bl _, H, I, rfl, q⟩
end
/-- (label, side) is a pair that kills -/
def kills (l : Str) (b : Bool) : Bool := if b = true then decide (l = ("high" : Str)) else decide (l = ("low" : Str))
def sideS (b : Bool) : Str := if b = true then "right" else "left"
def pairD (l : Str) (b : Bool) : PyData := .tuple [.str l, .str (sideS b)]
def killsD : PyData := .tuple [.tuple [.str "low", .str "left"], .tuple [.str "high", .str "right"]]
theorem kill_any (l : Str) (b : Bool) : ([PyData.tuple [.str "low", .str "left"], .tuple [.str "high", .str "right"]].any fun z => PyData.eqv z (pairD l b)) = kills l b := by
  unfold pairD
  simp only [List.any_cons, List.any_nil, PyData.eqv, PyData.eqvAll, Bool.or_false, Bool.and_true]
  cases b
  · have e1 : (("left" : Str) == sideS false) = true := by decide +kernel
    have e2 : (("right" : Str) == sideS false) = false := by decide +kernel
    rw [e1, e2]
    unfold kills
    rw [if_neg Bool.false_ne_true]
    by_cases c : l = ("low" : Str)
    · rw [c]; decide +kernel
    · rw [decide_eq_false c]
      have : (("low" : Str) == l) = false := beq_eq_false_iff_ne.mpr (Ne.symm c)
      rw [this]
      simp
  · have e1 : (("left" : Str) == sideS true) = false := by decide +kernel
    have e2 : (("right" : Str) == sideS true) = true := by decide +kernel
    rw [e1, e2]
    unfold kills
    rw [if_pos rfl]
    by_cases c : l = ("high" : Str)
    · rw [c]; decide +kernel
    · rw [decide_eq_false c]
      have : (("high" : Str) == l) = false := beq_eq_false_iff_ne.mpr (Ne.symm c)
      rw [this]
      simp
theorem pair_shaped {l : Str} (b : Bool) (h : PyData.strOk l = true) : SeqAt.shaped (pairD l b) = true := by
  unfold SeqAt.shaped pairD
  rw [Bool.and_eq_true]
  have hb : PyData.strOk (sideS b) = true := by cases b <;> decide +kernel
  refine ⟨by simp only [PyData.canLay0, PyData.canLayAll0, h, hb, Bool.and_self], decide_eq_true ?_⟩
  simp only [PyData.depth, PyData.depthAll]
  omega
theorem kills_shaped : SeqAt.shaped killsD = true := by decide +kernel
end HSP
namespace HSP
open PySem PySem.Spec PyProof.Rows L2
/-! ## the representative -/
/-- the value nearest to v between two bounds -/
def clamp (lo hi : Option Int) (v : Int) : Int := match lo with
  | some l => if v ≤ l then l else match hi with
    | some h => if v ≥ h then h else v
    | none => v
  | none => match hi with
    | some h => if v ≥ h then h else v
    | none => v
/-- the values of the representative, in the order of the nodes -/
def repOf (g : Nat → Int) : Tr → Nat → Option Int → Option Int → List Int
  | .nil, _, _, _ => []
  | .nod l r, f, lo, hi => repOf g l f lo (some (clamp lo hi (g (f + l.size)))) ++ clamp lo hi (g (f + l.size)) :: repOf g r (f + l.size + 1) (some (clamp lo hi (g (f + l.size)))) hi
theorem repOf_nod (g : Nat → Int) (l r : Tr) (f : Nat) (lo hi : Option Int) : repOf g (.nod l r) f lo hi = repOf g l f lo (some (clamp lo hi (g (f + l.size)))) ++ clamp lo hi (g (f + l.size)) :: repOf g r (f + l.size + 1) (some (clamp lo hi (g (f + l.size)))) hi := rfl
theorem repOf_len (g : Nat → Int) : ∀ (t : Tr) (f : Nat) (lo hi : Option Int), (repOf g t f lo hi).length = t.size
  | .nil, _, _, _ => rfl
  | .nod l r, f, lo, hi => by
    rw [repOf_nod, List.length_append, List.length_cons, repOf_len g l, repOf_len g r]
    show _ = l.size + 1 + r.size
    omega
/-- bounds that do not cross -/
def Straight (lo hi : Option Int) : Prop := ∀ l h, lo = some l → hi = some h → l ≤ h
theorem straight_none : Straight none none := fun l h e => by cases e
theorem clamp_in {lo hi : Option Int} (s : Straight lo hi) (v : Int) : Straight lo (some (clamp lo hi v)) ∧ Straight (some (clamp lo hi v)) hi := by
  constructor
  · intro l h e1 e2
    subst e1
    cases e2
    cases hi with
    | none => show l ≤ if v ≤ l then l else v; split <;> omega
    | some d =>
      have := s l d rfl rfl
      show l ≤ if v ≤ l then l else if v ≥ d then d else v
      split <;> (try split) <;> omega
  · intro l h e1 e2
    subst e2
    cases e1
    cases lo with
    | none => show (if v ≥ h then h else v) ≤ h; split <;> omega
    | some d =>
      have := s d h rfl rfl
      show (if v ≤ d then d else if v ≥ h then h else v) ≤ h
      split <;> (try split) <;> omega
def upTo (hi : Option Int) (x : Int) : Prop := ∀ h, hi = some h → x ≤ h
def downTo (lo : Option Int) (x : Int) : Prop := ∀ l, lo = some l → l ≤ x
theorem rep_in {g : Nat → Int} : ∀ (t : Tr) (f : Nat) (lo hi : Option Int), Straight lo hi → (repOf g t f lo hi).Pairwise (· ≤ ·) ∧ ∀ x, x ∈ repOf g t f lo hi → downTo lo x ∧ upTo hi x
  | .nil, _, _, _, _ => ⟨.nil, fun x h => by cases h⟩
  | .nod l r, f, lo, hi, s => by
    rw [repOf_nod]
    obtain ⟨s1, s2⟩ := clamp_in s (g (f + l.size))
    obtain ⟨a1, a2⟩ := rep_in l f lo (some (clamp lo hi (g (f + l.size)))) s1
    obtain ⟨b1, b2⟩ := rep_in r (f + l.size + 1) (some (clamp lo hi (g (f + l.size)))) hi s2
    refine ⟨List.pairwise_append.mpr ⟨a1, List.pairwise_cons.mpr ⟨fun x hx => (b2 x hx).1 _ rfl, b1⟩, fun x hx y hy => ?_⟩, fun x hx => ?_⟩
    · have h1 := (a2 x hx).2 _ rfl
      rcases List.mem_cons.mp hy with z | z
      · rw [z]; exact h1
      · exact Int.le_trans h1 ((b2 y z).1 _ rfl)
    · rcases List.mem_append.mp hx with z | z
      · exact ⟨(a2 x z).1, fun h e => Int.le_trans ((a2 x z).2 _ rfl) (s2 _ _ rfl e)⟩
      · rcases List.mem_cons.mp z with z | z
        · rw [z]
          exact ⟨fun l e => s1 _ _ e rfl, fun h e => s2 _ _ rfl e⟩
        · exact ⟨fun l e => Int.le_trans (s1 _ _ e rfl) ((b2 x z).1 _ rfl), (b2 x z).2⟩
theorem clamp_id {lo hi : Option Int} {v : Int} (h1 : downTo lo v) (h2 : upTo hi v) : clamp lo hi v = v := by
  cases lo with
  | none => cases hi with
    | none => rfl
    | some h => have := h2 h rfl; show (if v ≥ h then h else v) = v; split <;> omega
  | some l => have := h1 l rfl; cases hi with
    | none => show (if v ≤ l then l else v) = v; split <;> omega
    | some h => have := h2 h rfl; show (if v ≤ l then l else if v ≥ h then h else v) = v; split <;> (try split) <;> omega
end HSP
namespace HSP
open PySem PySem.Spec PyProof.Rows L2
/-! ## the representative: the mathematics -/
/-- the bounds along a path -/
def stOf (g : Nat → Int) : Option Int → Option Int → List (Nat × Bool) → Option Int × Option Int
  | lo, hi, [] => (lo, hi)
  | lo, hi, (n, true) :: r => stOf g (some (clamp lo hi (g n))) hi r
  | lo, hi, (n, false) :: r => stOf g lo (some (clamp lo hi (g n))) r
theorem stOf_snoc (g : Nat → Int) : ∀ (p : List (Nat × Bool)) (lo hi : Option Int) (n : Nat) (b : Bool), stOf g lo hi (p ++ [(n, b)]) =
    if b = true then (some (clamp (stOf g lo hi p).1 (stOf g lo hi p).2 (g n)), (stOf g lo hi p).2) else ((stOf g lo hi p).1, some (clamp (stOf g lo hi p).1 (stOf g lo hi p).2 (g n)))
  | [], lo, hi, n, true => rfl
  | [], lo, hi, n, false => rfl
  | (m, true) :: r, lo, hi, n, b => stOf_snoc g r _ _ n b
  | (m, false) :: r, lo, hi, n, b => stOf_snoc g r _ _ n b
/-- the value at a node -/
def repAt (g : Nat → Int) (p : List (Nat × Bool)) (i : Nat) : Int := clamp (stOf g none none p).1 (stOf g none none p).2 (g i)
theorem repOf_at (g : Nat → Int) : ∀ (t : Tr) (f : Nat) (lo hi : Option Int) (i : Nat), f ≤ i → i < f + t.size → (repOf g t f lo hi)[i - f]? = some (clamp (stOf g lo hi (pOf t f i)).1 (stOf g lo hi (pOf t f i)).2 (g i))
  | .nil, f, _, _, i, h1, h2 => by
    have : Tr.nil.size = 0 := rfl
    omega
  | .nod l r, f, lo, hi, i, h1, h2 => by
    rw [size_nod] at h2
    rw [repOf_nod, pOf_nod]
    have ll := repOf_len g l f lo (some (clamp lo hi (g (f + l.size))))
    by_cases c : i = f + l.size
    · rw [if_pos c, List.getElem?_append_right (by omega), ll, c, show f + l.size - f - l.size = 0 by omega]
      rfl
    · rw [if_neg c]
      by_cases d : i < f + l.size
      · rw [if_pos d, List.getElem?_append_left (by omega)]
        exact repOf_at g l f lo _ i h1 d
      · rw [if_neg d, List.getElem?_append_right (by omega), ll, show i - f - l.size = (i - (f + l.size + 1)) + 1 by omega, List.getElem?_cons_succ]
        exact repOf_at g r (f + l.size + 1) _ hi i (by omega) (by omega)
theorem rep_get (g : Nat → Int) (t : Tr) {i : Nat} (h : i < t.size) : (repOf g t 0 none none)[i]? = some (repAt g (pOf t 0 i) i) := by
  have := repOf_at g t 0 none none i (Nat.zero_le _) (by omega)
  rw [Nat.sub_zero] at this
  exact this
/-! ### greater values -/
def optLe : Option Int → Option Int → Prop
  | some a, some b => a ≤ b
  | none, none => True
  | _, _ => False
theorem clamp_mono {lo hi lo' hi' : Option Int} {v v' : Int} (h1 : optLe lo lo') (h2 : optLe hi hi') (h3 : v ≤ v') (k : ∀ l h, lo' = some l → hi' = some h → l ≤ h) : clamp lo hi v ≤ clamp lo' hi' v' := by
  cases lo with
  | none => cases lo' with
    | some _ => exact h1.elim
    | none => cases hi with
      | none => cases hi' with
        | some _ => exact h2.elim
        | none => exact h3
      | some a => cases hi' with
        | none => exact h2.elim
        | some b =>
          have h2 : a ≤ b := h2
          show (if v ≥ a then a else v) ≤ if v' ≥ b then b else v'
          split <;> split <;> omega
  | some a => cases lo' with
    | none => exact h1.elim
    | some b =>
      have h1 : a ≤ b := h1
      cases hi with
      | none => cases hi' with
        | some _ => exact h2.elim
        | none =>
          show (if v ≤ a then a else v) ≤ if v' ≤ b then b else v'
          split <;> split <;> omega
      | some c => cases hi' with
        | none => exact h2.elim
        | some d =>
          have h2 : c ≤ d := h2
          have k := k b d rfl rfl
          show (if v ≤ a then a else if v ≥ c then c else v) ≤ if v' ≤ b then b else if v' ≥ d then d else v'
          split <;> split <;> (try split) <;> (try split) <;> omega
theorem rep_mono {g g' : Nat → Int} (n : Nat) (hg : ∀ i, i < n → g i ≤ g' i) : ∀ (t : Tr) (f : Nat) (lo hi lo' hi' : Option Int), f + t.size ≤ n → optLe lo lo' → optLe hi hi' → Straight lo' hi' → ∀ (i : Nat) (x y : Int), (repOf g t f lo hi)[i]? = some x → (repOf g' t f lo' hi')[i]? = some y → x ≤ y
  | .nil, _, _, _, _, _, _, _, _, _, i, x, y, h, _ => by cases h
  | .nod l r, f, lo, hi, lo', hi', hn, h1, h2, s, i, x, y, hx, hy => by
    rw [size_nod] at hn
    have hc := clamp_mono h1 h2 (hg (f + l.size) (by omega)) s
    obtain ⟨s1, s2⟩ := clamp_in s (g' (f + l.size))
    rw [repOf_nod] at hx hy
    have l1 := repOf_len g l f lo (some (clamp lo hi (g (f + l.size))))
    have l2 := repOf_len g' l f lo' (some (clamp lo' hi' (g' (f + l.size))))
    by_cases c : i < l.size
    · rw [List.getElem?_append_left (by omega)] at hx hy
      exact rep_mono n hg l f lo _ lo' _ (by omega) h1 (show optLe (some _) (some _) from hc) s1 i x y hx hy
    · rw [List.getElem?_append_right (by omega), l1] at hx
      rw [List.getElem?_append_right (by omega), l2] at hy
      cases e : i - l.size with
      | zero =>
        rw [e] at hx hy
        cases hx
        cases hy
        exact hc
      | succ j =>
        rw [e] at hx hy
        exact rep_mono n hg r (f + l.size + 1) _ hi _ hi' (by omega) (show optLe (some _) (some _) from hc) h2 s2 j x y hx hy
theorem clamp_add (lo hi : Option Int) (v d : Int) : clamp (lo.map (· + d)) (hi.map (· + d)) (v + d) = clamp lo hi v + d := by
  cases lo with
  | none => cases hi with
    | none => rfl
    | some h => show (if v + d ≥ h + d then h + d else v + d) = (if v ≥ h then h else v) + d; split <;> split <;> omega
  | some l => cases hi with
    | none => show (if v + d ≤ l + d then l + d else v + d) = (if v ≤ l then l else v) + d; split <;> split <;> omega
    | some h =>
      show (if v + d ≤ l + d then l + d else if v + d ≥ h + d then h + d else v + d) = (if v ≤ l then l else if v ≥ h then h else v) + d
      split <;> split <;> (try split) <;> (try split) <;> omega
theorem rep_add {g g' : Nat → Int} (d : Int) (n : Nat) (hg : ∀ i, i < n → g' i = g i + d) : ∀ (t : Tr) (f : Nat) (lo hi : Option Int), f + t.size ≤ n → repOf g' t f (lo.map (· + d)) (hi.map (· + d)) = (repOf g t f lo hi).map (· + d)
  | .nil, _, _, _, _ => rfl
  | .nod l r, f, lo, hi, hn => by
    rw [size_nod] at hn
    rw [repOf_nod, repOf_nod, hg _ (by omega), clamp_add, List.map_append, List.map_cons]
    rw [← rep_add d n hg l f lo (some (clamp lo hi (g (f + l.size)))) (by omega), ← rep_add d n hg r (f + l.size + 1) (some (clamp lo hi (g (f + l.size)))) hi (by omega)]
    rfl
/-! ### the labels along a path -/
theorem low_snoc (g : Nat → Int) : ∀ (p : List (Nat × Bool)) (n : Nat) (b : Bool), lowOf g (p ++ [(n, b)]) = if b = true then (match lowOf g p with | none => some (g n) | some m => some (max m (g n))) else lowOf g p
  | [], n, true => rfl
  | [], n, false => rfl
  | (k, false) :: r, n, b => low_snoc g r n b
  | (k, true) :: r, n, b => by
    have e : ∀ q, lowOf g ((k, true) :: q) = match lowOf g q with | none => some (g k) | some m => some (max (g k) m) := fun q => rfl
    rw [List.cons_append, e, e, low_snoc g r n b]
    cases b with
    | false => rfl
    | true =>
      rw [if_pos rfl, if_pos rfl]
      cases lowOf g r with
      | none => rfl
      | some m => exact congrArg some (by omega)
theorem high_snoc (g : Nat → Int) : ∀ (p : List (Nat × Bool)) (n : Nat) (b : Bool), highOf g (p ++ [(n, b)]) = if b = true then highOf g p else (match highOf g p with | none => some (g n) | some m => some (min m (g n)))
  | [], n, true => rfl
  | [], n, false => rfl
  | (k, true) :: r, n, b => high_snoc g r n b
  | (k, false) :: r, n, b => by
    have e : ∀ q, highOf g ((k, false) :: q) = match highOf g q with | none => some (g k) | some m => some (min (g k) m) := fun q => rfl
    rw [List.cons_append, e, e, high_snoc g r n b]
    cases b with
    | true => rfl
    | false =>
      rw [if_neg Bool.false_ne_true, if_neg Bool.false_ne_true]
      cases highOf g r with
      | none => rfl
      | some m => exact congrArg some (by omega)
/-- the first one above that kills -/
def killerOf (lab : Nat → Str) : List (Nat × Bool) → Option Nat
  | [] => none
  | (n, b) :: r => if kills (lab n) b = true then some n else killerOf lab r
/-- the nearest one above, found, on this side -/
def boundOf (lab : Nat → Str) (c : Bool) : List (Nat × Bool) → Option Nat → Option Nat
  | [], z => z
  | (n, b) :: r, z => boundOf lab c r (if b = c ∧ lab n = ("found" : Str) then some n else z)
theorem killerOf_snoc (lab : Nat → Str) : ∀ (p : List (Nat × Bool)) (n : Nat) (b : Bool), killerOf lab (p ++ [(n, b)]) = match killerOf lab p with | some k => some k | none => if kills (lab n) b = true then some n else none
  | [], n, b => rfl
  | (m, c) :: r, n, b => by
    show (if kills (lab m) c = true then some m else killerOf lab (r ++ [(n, b)])) = match (if kills (lab m) c = true then some m else killerOf lab r) with | some k => some k | none => _
    by_cases h : kills (lab m) c = true
    · rw [if_pos h, if_pos h]
    · rw [if_neg h, if_neg h]
      exact killerOf_snoc lab r n b
theorem boundOf_snoc (lab : Nat → Str) (c : Bool) : ∀ (p : List (Nat × Bool)) (z : Option Nat) (n : Nat) (b : Bool), boundOf lab c (p ++ [(n, b)]) z = if b = c ∧ lab n = ("found" : Str) then some n else boundOf lab c p z
  | [], _, _, _ => rfl
  | (_, _) :: r, _, n, b => boundOf_snoc lab c r _ n b
theorem killerOf_mem {lab : Nat → Str} : ∀ {p : List (Nat × Bool)} {k : Nat}, killerOf lab p = some k → ∃ b, (k, b) ∈ p
  | [], _, h => by cases h
  | (n, b) :: r, k, h => by
    have h : (if kills (lab n) b = true then some n else killerOf lab r) = some k := h
    by_cases c : kills (lab n) b = true
    · rw [if_pos c] at h
      cases h
      exact ⟨b, List.mem_cons_self⟩
    · rw [if_neg c] at h
      obtain ⟨b', hb⟩ := killerOf_mem h
      exact ⟨b', List.mem_cons_of_mem _ hb⟩
theorem str_low : ∀ l : Lb, (l.str = ("low" : Str)) ↔ l = .low := fun l => by cases l <;> exact ⟨fun h => by first | rfl | exact absurd h (by decide +kernel), fun h => by first | rfl | exact absurd h (by decide)⟩
theorem str_high : ∀ l : Lb, (l.str = ("high" : Str)) ↔ l = .high := fun l => by cases l <;> exact ⟨fun h => by first | rfl | exact absurd h (by decide +kernel), fun h => by first | rfl | exact absurd h (by decide)⟩
theorem str_found : ∀ l : Lb, (l.str = ("found" : Str)) ↔ l = .found := fun l => by cases l <;> exact ⟨fun h => by first | rfl | exact absurd h (by decide +kernel), fun h => by first | rfl | exact absurd h (by decide)⟩
theorem str_dead : ∀ l : Lb, (l.str = ("dead" : Str)) ↔ l = .dead := fun l => by cases l <;> exact ⟨fun h => by first | rfl | exact absurd h (by decide +kernel), fun h => by first | rfl | exact absurd h (by decide)⟩
theorem kills_lb (l : Lb) (b : Bool) : kills l.str b = if b = true then decide (l = .high) else decide (l = .low) := by
  cases b
  · show decide (l.str = ("low" : Str)) = decide (l = .low)
    exact decide_eq_decide.mpr (str_low l)
  · show decide (l.str = ("high" : Str)) = decide (l = .high)
    exact decide_eq_decide.mpr (str_high l)
/-- the labels of the ancestors on a path -/
def Told (g : Nat → Int) (lab : Nat → Lb) (p : List (Nat × Bool)) : Prop := ∀ q n b r, p = q ++ (n, b) :: r → lab n = lbOf (bndOf g q) (g n)
theorem Told.init {g : Nat → Int} {lab : Nat → Lb} {p : List (Nat × Bool)} {z : Nat × Bool} (h : Told g lab (p ++ [z])) : Told g lab p := fun q n b r e => h q n b (r ++ [z]) (by rw [e, List.append_assoc]; rfl)
theorem Told.last {g : Nat → Int} {lab : Nat → Lb} {p : List (Nat × Bool)} {n : Nat} {b : Bool} (h : Told g lab (p ++ [(n, b)])) : lab n = lbOf (bndOf g p) (g n) := h p n b [] rfl
/-- what is true along a path -/
def AliveAt (g : Nat → Int) (lab : Nat → Lb) (p : List (Nat × Bool)) : Prop := bndOf g p = some (stOf g none none p) ∧ killerOf (fun n => (lab n).str) p = none ∧
    (∀ l h, (stOf g none none p).1 = some l → (stOf g none none p).2 = some h → l < h) ∧
    (∀ l, (stOf g none none p).1 = some l → ∃ n b, boundOf (fun n => (lab n).str) true p none = some n ∧ (n, b) ∈ p ∧ lab n = .found ∧ g n = l) ∧
    (∀ h, (stOf g none none p).2 = some h → ∃ n b, boundOf (fun n => (lab n).str) false p none = some n ∧ (n, b) ∈ p ∧ lab n = .found ∧ g n = h)
def DeadAt (g : Nat → Int) (lab : Nat → Lb) (p : List (Nat × Bool)) : Prop := bndOf g p = none ∧ ∃ x k q b r, stOf g none none p = (some x, some x) ∧ killerOf (fun n => (lab n).str) p = some k ∧ p = q ++ (k, b) :: r ∧ bndOf g q ≠ none ∧ repAt g q k = x
def Crossed (lo hi : Option Int) : Prop := ∃ a b, lo = some a ∧ hi = some b ∧ b ≤ a
theorem bnd_dead {g : Nat → Int} {p : List (Nat × Bool)} (h : Crossed (lowOf g p) (highOf g p)) : bndOf g p = none := by
  obtain ⟨a, b, e1, e2, le⟩ := h
  unfold bndOf
  rw [e1, e2]
  exact if_pos le
theorem bnd_alive {g : Nat → Int} {p : List (Nat × Bool)} (h : ¬ Crossed (lowOf g p) (highOf g p)) : bndOf g p = some (lowOf g p, highOf g p) := by
  unfold bndOf
  cases e1 : lowOf g p with
  | none => rfl
  | some a => cases e2 : highOf g p with
    | none => rfl
    | some b =>
      show (if a ≥ b then none else some (some a, some b)) = _
      exact if_neg fun c => h ⟨a, b, e1, e2, c⟩
theorem bndOf_some {g : Nat → Int} {p : List (Nat × Bool)} {lo hi : Option Int} (h : bndOf g p = some (lo, hi)) : lowOf g p = lo ∧ highOf g p = hi := by
  by_cases c : Crossed (lowOf g p) (highOf g p)
  · rw [bnd_dead c] at h
    cases h
  · rw [bnd_alive c] at h
    cases h
    exact ⟨rfl, rfl⟩
theorem bndOf_none {g : Nat → Int} {p : List (Nat × Bool)} (h : bndOf g p = none) : Crossed (lowOf g p) (highOf g p) := by
  by_cases c : Crossed (lowOf g p) (highOf g p)
  · exact c
  · rw [bnd_alive c] at h
    cases h
/-- a label, where the interval is not empty -/
theorem lb_cases (lo hi : Option Int) (v : Int) (s : ∀ l h, lo = some l → hi = some h → l < h) : (lbOf (some (lo, hi)) v = .found ∧ clamp lo hi v = v ∧ (∀ l, lo = some l → l < v) ∧ ∀ b, hi = some b → v < b) ∨
    (lbOf (some (lo, hi)) v = .low ∧ ∃ l, lo = some l ∧ v ≤ l ∧ clamp lo hi v = l) ∨ (lbOf (some (lo, hi)) v = .high ∧ ∃ b, hi = some b ∧ b ≤ v ∧ clamp lo hi v = b) := by
  cases lo with
  | none => cases hi with
    | none => exact .inl ⟨rfl, rfl, fun _ e => (by cases e), fun _ e => (by cases e)⟩
    | some b =>
      by_cases c : v ≥ b
      · exact .inr (.inr ⟨(if_pos c : (if v ≥ b then Lb.high else .found) = .high), b, rfl, c, (if_pos c : (if v ≥ b then b else v) = b)⟩)
      · exact .inl ⟨(if_neg c : (if v ≥ b then Lb.high else .found) = .found), (if_neg c : (if v ≥ b then b else v) = v), fun _ e => (by cases e), fun _ e => (by cases e; omega)⟩
  | some l =>
    by_cases c : v ≤ l
    · exact .inr (.inl ⟨by unfold lbOf; exact if_pos c, l, rfl, c, by unfold clamp; exact if_pos c⟩)
    · cases hi with
      | none => exact .inl ⟨(if_neg c : (if v ≤ l then Lb.low else .found) = .found), (if_neg c : (if v ≤ l then l else v) = v), fun _ e => (by cases e; omega), fun _ e => (by cases e)⟩
      | some b =>
        have lt := s l b rfl rfl
        have e1 : lbOf (some (some l, some b)) v = if v ≤ l then .low else if v ≥ b then .high else .found := rfl
        have e2 : clamp (some l) (some b) v = if v ≤ l then l else if v ≥ b then b else v := rfl
        rw [e1, e2, if_neg c, if_neg c]
        by_cases d : v ≥ b
        · rw [if_pos d, if_pos d]
          exact .inr (.inr ⟨rfl, b, rfl, d, rfl⟩)
        · rw [if_neg d, if_neg d]
          exact .inl ⟨rfl, rfl, fun _ e => (by cases e; omega), fun _ e => (by cases e; omega)⟩
theorem clamp_same (x v : Int) : clamp (some x) (some x) v = x := by
  show (if v ≤ x then x else if v ≥ x then x else v) = x
  split
  · rfl
  · rw [if_pos (by omega)]
end HSP
namespace HSP
open PySem PySem.Spec PyProof.Rows L2
/-! ## one value changed: the representative stays just if the value is held at the same bound -/
theorem rep_change {g g' : Nat → Int} {i : Nat} (other : ∀ j, j ≠ i → g' j = g j) : ∀ (t : Tr) (f : Nat) (lo hi : Option Int), (f ≤ i → i < f + t.size → clamp (stOf g lo hi (pOf t f i)).1 (stOf g lo hi (pOf t f i)).2 (g' i) = clamp (stOf g lo hi (pOf t f i)).1 (stOf g lo hi (pOf t f i)).2 (g i)) → repOf g' t f lo hi = repOf g t f lo hi
  | .nil, _, _, _, _ => rfl
  | .nod l r, f, lo, hi, h => by
    rw [size_nod, pOf_nod] at h
    rw [repOf_nod, repOf_nod]
    by_cases c : i = f + l.size
    · rw [if_pos c] at h
      have e : clamp lo hi (g' i) = clamp lo hi (g i) := h (by omega) (by omega)
      rw [← c, e, rep_change other l f lo _ (fun h1 h2 => by omega), rep_change other r (i + 1) _ hi (fun h1 h2 => by omega)]
    · rw [if_neg c] at h
      rw [other (f + l.size) (fun z => c z.symm)]
      by_cases d : i < f + l.size
      · rw [if_pos d] at h
        rw [rep_change other l f lo _ (fun h1 h2 => h h1 (by omega)), rep_change other r (f + l.size + 1) _ hi (fun h1 h2 => by omega)]
      · rw [if_neg d] at h
        rw [rep_change other l f lo _ (fun h1 h2 => by omega), rep_change other r (f + l.size + 1) _ hi (fun h1 h2 => h (by omega) (by omega))]
theorem st_congr {g g' : Nat → Int} : ∀ (p : List (Nat × Bool)) (lo hi : Option Int), (∀ z, z ∈ p → g' z.1 = g z.1) → stOf g' lo hi p = stOf g lo hi p
  | [], _, _, _ => rfl
  | (n, true) :: r, lo, hi, h => by
    show stOf g' (some (clamp lo hi (g' n))) hi r = stOf g (some (clamp lo hi (g n))) hi r
    rw [h (n, true) List.mem_cons_self, st_congr r _ _ fun z hz => h z (List.mem_cons_of_mem _ hz)]
  | (n, false) :: r, lo, hi, h => by
    show stOf g' lo (some (clamp lo hi (g' n))) r = stOf g lo (some (clamp lo hi (g n))) r
    rw [h (n, false) List.mem_cons_self, st_congr r _ _ fun z hz => h z (List.mem_cons_of_mem _ hz)]
theorem path_not : ∀ (t : Tr) (f i : Nat) (z : Nat × Bool), z ∈ pOf t f i → z.1 ≠ i
  | .nil, f, i, z, h => by
    cases h
  | .nod l r, f, i, z, h => by
    rw [pOf_nod] at h
    by_cases c : i = f + l.size
    · rw [if_pos c] at h
      cases h
    · rw [if_neg c] at h
      by_cases d : i < f + l.size
      · rw [if_pos d] at h
        rcases List.mem_cons.mp h with q | q
        · rw [q]
          exact fun e => c e.symm
        · exact path_not l f i z q
      · rw [if_neg d] at h
        rcases List.mem_cons.mp h with q | q
        · rw [q]
          exact fun e => c e.symm
        · exact path_not r (f + l.size + 1) i z q
/-- the other way: equal representatives hold the value at the same bound -/
theorem rep_changed {g g' : Nat → Int} {i : Nat} {t : Tr} (hi : i < t.size) (other : ∀ j, j ≠ i → g' j = g j) : repOf g' t 0 none none = repOf g t 0 none none ↔ clamp (stOf g none none (pOf t 0 i)).1 (stOf g none none (pOf t 0 i)).2 (g' i) = clamp (stOf g none none (pOf t 0 i)).1 (stOf g none none (pOf t 0 i)).2 (g i) := by
  constructor
  · intro h
    have h1 := repOf_at g t 0 none none i (Nat.zero_le _) (by omega)
    have h2 := repOf_at g' t 0 none none i (Nat.zero_le _) (by omega)
    rw [h, h1, st_congr (g := g) (g' := g') (pOf t 0 i) none none fun z hz => other _ (path_not t 0 i z hz)] at h2
    exact (Option.some.inj h2).symm
  · exact fun h => rep_change other t 0 none none fun _ _ => h
end HSP
namespace HSP
open PySem PySem.Spec PyProof.Rows L2
/-! ### what a node may have in lists that act alike -/
def alw (b : Option (Option Int × Option Int)) (x : Int) : Option Int × Option Int := match lbOf b x with
  | .dead => (none, none)
  | .found => (some x, some x)
  | .low => (none, b.bind (·.1))
  | .high => (b.bind (·.2), none)
def alwAt (g : Nat → Int) (t : Tr) (i : Nat) : Option Int × Option Int := alw (bndOf g (pOf t 0 i)) (g i)
end HSP
namespace HSP
open PySem PySem.Spec PyProof.Rows L2
/-! ## which numbers a node is met by -/
theorem way_lft {tw v : Int} (h : wayOf tw v .fin = .lft) : tw < 2 * v := by
  by_cases c : tw = 2 * v
  · unfold wayOf at h
    rw [if_pos c] at h
    cases h
  · by_cases d : tw < 2 * v
    · exact d
    · unfold wayOf at h
      rw [if_neg c, if_neg d] at h
      cases h
theorem way_rgt {tw v : Int} (h : wayOf tw v .fin = .rgt) : 2 * v < tw := by
  by_cases c : tw = 2 * v
  · unfold wayOf at h
    rw [if_pos c] at h
    cases h
  · by_cases d : tw < 2 * v
    · unfold wayOf at h
      rw [if_neg c, if_pos d] at h
      cases h
    · omega
/-- on the right side of a value above -/
def Past (g : Nat → Int) (tw : Int) (z : Nat × Bool) : Prop := if z.2 = true then 2 * g z.1 < tw else tw < 2 * g z.1
theorem met (g : Nat → Int) (tw : Int) : ∀ (t : Tr) (f i : Nat), f ≤ i → i < f + t.size → (i ∈ sPath g tw .fin t f ↔ ∀ z, z ∈ pOf t f i → Past g tw z)
  | .nil, f, i, h1, h2 => by
    have : Tr.nil.size = 0 := rfl
    omega
  | .nod l r, f, i, h1, h2 => by
    have e : sPath g tw .fin (.nod l r) f = (f + l.size) :: match wayOf tw (g (f + l.size)) .fin with | .fin => [] | .lft => sPath g tw .fin l f | .rgt => sPath g tw .fin r (f + l.size + 1) := rfl
    have ep : pOf (.nod l r) f i = if i = f + l.size then [] else if i < f + l.size then (f + l.size, false) :: pOf l f i else (f + l.size, true) :: pOf r (f + l.size + 1) i := rfl
    have z : (Tr.nod l r).size = l.size + 1 + r.size := rfl
    rw [z] at h2
    rw [e, ep]
    by_cases c : i = f + l.size
    · rw [if_pos c]
      exact ⟨fun _ z hz => absurd hz List.not_mem_nil, fun _ => by rw [c]; exact List.mem_cons_self⟩
    · rw [if_neg c]
      by_cases d : i < f + l.size
      · rw [if_pos d]
        have ih := met g tw l f i h1 d
        rw [List.mem_cons, List.forall_mem_cons]
        have pz : Past g tw (f + l.size, false) ↔ tw < 2 * g (f + l.size) := Iff.rfl
        rw [pz]
        by_cases k : tw < 2 * g (f + l.size)
        · have w : wayOf tw (g (f + l.size)) .fin = .lft := by unfold wayOf; rw [if_neg (by omega), if_pos k]
          rw [w]
          exact ⟨fun h => ⟨k, ih.mp (h.resolve_left c)⟩, fun h => .inr (ih.mpr h.2)⟩
        · refine ⟨fun h => ?_, fun h => absurd h.1 k⟩
          have h := h.resolve_left c
          cases w : wayOf tw (g (f + l.size)) .fin with
          | fin => rw [w] at h; cases h
          | lft => exact absurd (way_lft w) k
          | rgt =>
            rw [w] at h
            have := sPath_in g tw .fin r (f + l.size + 1) i h
            omega
      · rw [if_neg d]
        have ih := met g tw r (f + l.size + 1) i (by omega) (by omega)
        rw [List.mem_cons, List.forall_mem_cons]
        have pz : Past g tw (f + l.size, true) ↔ 2 * g (f + l.size) < tw := Iff.rfl
        rw [pz]
        by_cases k : 2 * g (f + l.size) < tw
        · have w : wayOf tw (g (f + l.size)) .fin = .rgt := by unfold wayOf; rw [if_neg (by omega), if_neg (by omega)]
          rw [w]
          exact ⟨fun h => ⟨k, ih.mp (h.resolve_left c)⟩, fun h => .inr (ih.mpr h.2)⟩
        · refine ⟨fun h => ?_, fun h => absurd h.1 k⟩
          have h := h.resolve_left c
          cases w : wayOf tw (g (f + l.size)) .fin with
          | fin => rw [w] at h; cases h
          | lft =>
            rw [w] at h
            have := sPath_in g tw .fin l f i h
            omega
          | rgt => exact absurd (way_rgt w) k
/-- between two bounds -/
def Btw (lo hi : Option Int) (tw : Int) : Prop := (∀ l, lo = some l → 2 * l < tw) ∧ ∀ h, hi = some h → tw < 2 * h
theorem past_btw (g : Nat → Int) (tw : Int) : ∀ p : List (Nat × Bool), (∀ z, z ∈ p → Past g tw z) ↔ Btw (lowOf g p) (highOf g p) tw
  | [] => ⟨fun _ => ⟨fun _ h => (by cases h), fun _ h => (by cases h)⟩, fun _ z hz => absurd hz List.not_mem_nil⟩
  | (n, true) :: r => by
    have ih := past_btw g tw r
    have el : lowOf g ((n, true) :: r) = match lowOf g r with | none => some (g n) | some m => some (max (g n) m) := rfl
    have eh : highOf g ((n, true) :: r) = highOf g r := rfl
    rw [List.forall_mem_cons, ih, el, eh]
    have pz : Past g tw (n, true) ↔ 2 * g n < tw := Iff.rfl
    rw [pz]
    cases lowOf g r with
    | none => exact ⟨fun h => ⟨fun l e => (by cases e; exact h.1), h.2.2⟩, fun h => ⟨h.1 _ rfl, fun l e => (by cases e), h.2⟩⟩
    | some m => exact ⟨fun h => ⟨fun l e => (by cases e; have := h.2.1 _ rfl; have := h.1; omega), h.2.2⟩, fun h => ⟨(by have := h.1 _ rfl; omega), fun l e => (by cases e; have := h.1 _ rfl; omega), h.2⟩⟩
  | (n, false) :: r => by
    have ih := past_btw g tw r
    have el : highOf g ((n, false) :: r) = match highOf g r with | none => some (g n) | some m => some (min (g n) m) := rfl
    have eh : lowOf g ((n, false) :: r) = lowOf g r := rfl
    rw [List.forall_mem_cons, ih, el, eh]
    have pz : Past g tw (n, false) ↔ tw < 2 * g n := Iff.rfl
    rw [pz]
    cases highOf g r with
    | none => exact ⟨fun h => ⟨h.2.1, fun l e => (by cases e; exact h.1)⟩, fun h => ⟨h.2 _ rfl, h.1, fun l e => (by cases e)⟩⟩
    | some m => exact ⟨fun h => ⟨h.2.1, fun l e => (by cases e; have := h.2.2 _ rfl; have := h.1; omega)⟩, fun h => ⟨(by have := h.2 _ rfl; omega), h.1, fun l e => (by cases e; have := h.2 _ rfl; omega)⟩⟩
end HSP
namespace HSP
open PySem PySem.Spec PyProof.Rows L2
theorem way_of_lt {tw v : Int} (m : Md) (h : tw < 2 * v) : wayOf tw v m = .lft := by
  unfold wayOf
  rw [if_neg (by omega), if_pos h]
theorem way_of_gt {tw v : Int} (m : Md) (h : 2 * v < tw) : wayOf tw v m = .rgt := by
  unfold wayOf
  rw [if_neg (by omega), if_neg (by omega)]
theorem way_of_eq {tw v : Int} (m : Md) (h : tw = 2 * v) : wayOf tw v m = m := by
  unfold wayOf
  rw [if_pos h]
theorem found_at (g : Nat → Int) (tw : Int) : ∀ (t : Tr) (f i : Nat), sEnd g tw .fin t f = (true, i) ↔ i ∈ sPath g tw .fin t f ∧ tw = 2 * g i
  | .nil, _, _ => ⟨fun h => (by cases h), fun h => absurd h.1 List.not_mem_nil⟩
  | .nod l r, f, i => by
    have e2 : sPath g tw .fin (.nod l r) f = (f + l.size) :: match wayOf tw (g (f + l.size)) .fin with | .fin => [] | .lft => sPath g tw .fin l f | .rgt => sPath g tw .fin r (f + l.size + 1) := rfl
    rw [sEnd_nod, e2, List.mem_cons]
    rcases Int.lt_trichotomy tw (2 * g (f + l.size)) with c | c | c
    · rw [way_of_lt _ c]
      show sEnd g tw .fin l f = (true, i) ↔ (i = f + l.size ∨ i ∈ sPath g tw .fin l f) ∧ tw = 2 * g i
      rw [found_at g tw l f i]
      refine ⟨fun h => ⟨.inr h.1, h.2⟩, fun h => ⟨h.1.resolve_left fun z => ?_, h.2⟩⟩
      have := h.2
      rw [z] at this
      omega
    · rw [way_of_eq _ c]
      show (true, f + l.size) = (true, i) ↔ (i = f + l.size ∨ i ∈ []) ∧ tw = 2 * g i
      refine ⟨fun h => ?_, fun h => ?_⟩
      · cases h
        exact ⟨.inl rfl, c⟩
      · rw [h.1.resolve_right List.not_mem_nil]
    · rw [way_of_gt _ c]
      show sEnd g tw .fin r (f + l.size + 1) = (true, i) ↔ (i = f + l.size ∨ i ∈ sPath g tw .fin r (f + l.size + 1)) ∧ tw = 2 * g i
      rw [found_at g tw r (f + l.size + 1) i]
      refine ⟨fun h => ⟨.inr h.1, h.2⟩, fun h => ⟨h.1.resolve_left fun z => ?_, h.2⟩⟩
      have := h.2
      rw [z] at this
      omega
/-- a label found says: its own value is found there -/
theorem lab_found (g : Nat → Int) {t : Tr} {i : Nat} (hi : i < t.size) : labAt g t i = .found ↔ sEnd g (2 * g i) .fin t 0 = (true, i) := by
  rw [found_at, met g (2 * g i) t 0 i (Nat.zero_le _) (by omega), past_btw]
  have out : labAt g t i = lbOf (bndOf g (pOf t 0 i)) (g i) := rfl
  rw [out]
  unfold bndOf
  generalize lowOf g (pOf t 0 i) = lo
  generalize highOf g (pOf t 0 i) = hi'
  generalize g i = v
  match lo, hi' with
  | none, none => exact ⟨fun _ => ⟨⟨fun _ h => (by cases h), fun _ h => (by cases h)⟩, rfl⟩, fun _ => rfl⟩
  | some l, none =>
    have e : lbOf (match some l, (none : Option Int) with | some a, some b => if a ≥ b then none else some (some a, some b) | a, b => some (a, b)) v = if v ≤ l then .low else .found := rfl
    rw [e]
    by_cases c : v ≤ l
    · rw [if_pos c]
      exact ⟨fun h => (by cases h), fun h => (by have := h.1.1 l rfl; omega)⟩
    · rw [if_neg c]
      exact ⟨fun _ => ⟨⟨fun _ h => (by cases h; omega), fun _ h => (by cases h)⟩, rfl⟩, fun _ => rfl⟩
  | none, some b =>
    have e : lbOf (match (none : Option Int), some b with | some a, some b => if a ≥ b then none else some (some a, some b) | a, b => some (a, b)) v = if v ≥ b then .high else .found := rfl
    rw [e]
    by_cases c : v ≥ b
    · rw [if_pos c]
      exact ⟨fun h => (by cases h), fun h => (by have := h.1.2 b rfl; omega)⟩
    · rw [if_neg c]
      exact ⟨fun _ => ⟨⟨fun _ h => (by cases h), fun _ h => (by cases h; omega)⟩, rfl⟩, fun _ => rfl⟩
  | some l, some b =>
    show lbOf (if l ≥ b then none else some (some l, some b)) v = .found ↔ _
    by_cases d : l ≥ b
    · rw [if_pos d]
      exact ⟨fun h => (by cases h), fun h => (by have h1 := h.1.1 l rfl; have h2 := h.1.2 b rfl; omega)⟩
    · rw [if_neg d]
      show (if v ≤ l then Lb.low else if v ≥ b then .high else .found) = .found ↔ _
      by_cases c : v ≤ l
      · rw [if_pos c]
        exact ⟨fun h => (by cases h), fun h => (by have := h.1.1 l rfl; omega)⟩
      · by_cases c2 : v ≥ b
        · rw [if_neg c, if_pos c2]
          exact ⟨fun h => (by cases h), fun h => (by have := h.1.2 b rfl; omega)⟩
        · rw [if_neg c, if_neg c2]
          exact ⟨fun _ => ⟨⟨fun _ h => (by cases h; omega), fun _ h => (by cases h; omega)⟩, rfl⟩, fun _ => rfl⟩
theorem found_mem {g : Nat → Int} {t : Tr} {i : Nat} : i ∈ foundOf g t t.size ↔ i < t.size ∧ sEnd g (2 * g i) .fin t 0 = (true, i) := by
  unfold foundOf
  rw [List.mem_filter, List.mem_range, beq_iff_eq]
  exact and_congr_right fun h => lab_found g h
end HSP
namespace HSP
open PySem PySem.Spec PyProof.Rows L2
section
variable {P : Program} {w : World} {K : PySem.W.Frag} {mg : Str → Option Value} {base : Heap}
/-! ### turn -/
def spTurn : Sp := fun vs H Q _ => ∃ (tw v : Int) (m : Md), vs = [.int tw, .int v, .str m.str] ∧ Q (.str (wayOf tw v m).str) H
end
end HSP
namespace HSP
open PySem PySem.Spec PyProof.Rows L2
theorem ne_fin_lft : ¬ (V.str Md.lft.str = V.str "end") := by decide +kernel
theorem ne_fin_rgt : ¬ (V.str Md.rgt.str = V.str "end") := by decide +kernel
theorem ne_lft_rgt : ¬ (V.str Md.rgt.str = V.str "left") := by decide +kernel
/-- what search hands back at p: the list at n, the ending at e -/
def Ended (H H' : Hp) (e : Addr) (r : Bool × Nat) : Prop := H e = none ∧ H' e = some (.tup [kindV r.1, natV r.2])
section
variable {P : Program} {w : World} {K : PySem.W.Frag} {mg : Str → Option Value} {base : Heap}
def spSearch : Sp := fun vs H Q _ => ∃ (v : V) (t : Tr) (a : Addr) (ns : List Int) (tw : Int) (m : Md), vs = [v, .ref a, .int tw, .str m.str] ∧ TrAt H v t ∧ t.size ≤ 1000 ∧ H a = some (.lst (ns.map V.int)) ∧ ns.length = t.size ∧
  ∀ (H' : Hp) (p n e : Addr), Same H H' → H' p = some (.tup [.ref n, .ref e]) → H n = none → H' n = some (.lst ((sPath (valAt ns) tw m t 0).map natV)) → Ended H H' e (sEnd (valAt ns) tw m t 0) → Q (.ref p) H'
end
end HSP
namespace HSP
open PySem PySem.Spec PyProof.Rows L2
section
variable {P : Program} {w : World} {K : PySem.W.Frag} {mg : Str → Option Value} {base : Heap}
/-! ### found_of, found -/
def spFound : Sp := fun vs H Q _ => ∃ (v : V) (t : Tr) (a : Addr) (ns : List Int), vs = [v, .ref a] ∧ TrAt H v t ∧ t.size ≤ 300 ∧ H a = some (.lst (ns.map V.int)) ∧ ns.length = t.size ∧ ∀ (H' : Hp) (q : Addr), Same H H' → H q = none → H' q = some (.lst ((foundOf (valAt ns) t t.size).map natV)) → Q (.ref q) H'
end
end HSP
namespace HSP
open PySem PySem.Spec PyProof.Rows L2
/-! ## defs that are also called by name, the names the other way round -/
structure DfB (P : Program) (w : World) (K : PySem.W.Frag) (mg : Str → Option Value) (base : Heap) (x : Str) (n : Nat) (ps ks : List Str) (sp : Sp) : Prop where
  ex : ∃ (f : Addr) (fd : FuncData), mg x = some (.ref f) ∧ PySem.W.keepIn K (.ref f) = true ∧ Binds K fd ps [] ∧ KBn K fd ps 0 ks (fun _ ws => ws.reverse) (fun _ zs => zs.reverse) ∧ FnOk P w K mg base CX0 n f fd ps sp
section
variable {P : Program} {w : World} {K : PySem.W.Frag} {mg : Str → Option Value} {base : Heap}
theorem DfB.df {x : Str} {n : Nat} {ps ks : List Str} {sp : Sp} (D : DfB P w K mg base x n ps ks sp) : Df P w K mg base x n ps sp := by
  obtain ⟨f, fd, h1, h2, h3, _, h5⟩ := D.ex
  exact ⟨f, fd, h1, h2, h3, h5⟩
theorem Vals.rev {vs : List V} {us : List Value} (r : Vals vs us) : Vals vs.reverse us.reverse := by
  induction r with
  | nil => exact .nil
  | cons h t ih =>
    rw [List.reverse_cons, List.reverse_cons]
    exact ih.append (.cons h .nil)
theorem DfB.mk' {x : Str} {st : Stmt} {N ps ks : List Str} {k : Nat} {sp : Sp} (a : At K mg x st) (S : FnScope N ps (defScope st)) (len : ∀ vs H Q E, sp vs H Q E → vs.length = ps.length)
    (hb : ∀ (kV doc pm : Value) (an : Option Addr) (cdv ct : Value) (us : List Value), us.length = ps.length → bindArgs (PySem.W.fnOf x x (defArgs st) (defBody st) (defScope st) .none kV doc pm an cdv ct) ⟨us, []⟩ = pure (ps.zip us))
    (hk : ∀ (kV doc pm : Value) (an : Option Addr) (cdv ct : Value) (ws : List Value), ws.length = ks.length → bindArgs (PySem.W.fnOf x x (defArgs st) (defBody st) (defScope st) .none kV doc pm an cdv ct) ⟨[], ks.zip ws⟩ = pure (ps.zip ws.reverse))
    (body : ∀ (f : Addr) (cdv : Value) (A : Around) (outer : List Env) (s : Shared) (H : Hp) (vs : List V) (Q : VK) (E : XK), Room k (A.deeper (envOfC x (defScope st) s.heap.objs.size f cdv)) → sp vs H Q E →
      ∃ t, PSs (cxOf CX0 P w K mg base N x (defScope st) f cdv A outer s H E).nox (defBody st) t ∧ t { nx := fun _ H' => Q .non H', rt := Q } (start N vs) H) : DfB P w K mg base x (k + 1) ps ks sp := by
  obtain ⟨f, fd, hm, F⟩ := a
  refine ⟨f, fd, hm, F.kp, F.binds hb, ⟨fun s us ws _ h1 h2 => ?_, fun _ r => HSP.Vals.rev r⟩, F.ok S len (body f)⟩
  obtain ⟨oc, od, kV, doc, pm, an, cdv, ct, osl, rfl, _⟩ := F.ex
  rw [List.length_eq_zero_iff.mp h1]
  exact .of_eq (hk kV doc pm an cdv ct ws h2)
end
section
variable {X : Cx} {k : Nat} {ps ks : List Str} {sp : Sp} {x : Str} {p pos : Pos} {kws : List Keyword} {tk : TA}
theorem pe_dfK (D : DfB X.prog X.w X.K X.mg X.base x k ps ks sp) (hr : Room k X.A) (hkw : PK X kws tk) (hg : Gl X x := by rfl) (hall : (backToKw pos (keywordEach kws X.env)).all (·.1.isSome) = true := by rfl) (hks : (backToKw pos (keywordEach kws X.env)).filterMap (·.1) = ks := by rfl)
    (hdb : (x == ("__debug__" : Str)) = false := by decide) (hpl : (backToKw pos (keywordEach kws X.env)).any (·.1.isNone) = false := by rfl) : PE X (.Call (.Name x p) [] kws pos) (tCallN 0 ks.length sp (fun _ zs => zs.reverse) E0 tNil tk) := by
  obtain ⟨f, fd, hm, hk, _, kb, F⟩ := D.ex
  exact pe_callK0 F hr hg hm hk kb pass0 hkw hall hks hdb hpl
end
end HSP
namespace HSP
open PySem PySem.Spec PyProof.Rows L2
/-! ## the step table -/
/-- a number, doubled, between two bounds -/
def twB : Option Int → Option Int → Int
  | some l, _ => 2 * l + 1
  | none, some h => 2 * h - 1
  | none, none => 1
def gapRow (g : Nat → Int) (t : Tr) (lo hi : Option Int) : List V := [.str "gap", optV lo, optV hi, natV (sEnd g (twB lo hi) .fin t 0).2]
def foundRow (g : Nat → Int) (n : Nat) : List V := [.str "found", .int (g n), natV n]
def rowsOf (g : Nat → Int) (t : Tr) : Option Int → List Nat → List (List V)
  | _, [] => []
  | lo, n :: r => gapRow g t lo (some (g n)) :: foundRow g n :: rowsOf g t (some (g n)) r
def lastOf (g : Nat → Int) : Option Int → List Nat → Option Int
  | lo, [] => lo
  | _, n :: r => lastOf g (some (g n)) r
def tableOf (g : Nat → Int) (t : Tr) (fnd : List Nat) : List (List V) := rowsOf g t none fnd ++ [gapRow g t (lastOf g none fnd) none]
theorem rowsOf_snoc (g : Nat → Int) (t : Tr) : ∀ (l : List Nat) (lo : Option Int) (n : Nat), rowsOf g t lo (l ++ [n]) = rowsOf g t lo l ++ [gapRow g t (lastOf g lo l) (some (g n)), foundRow g n]
  | [], _, _ => rfl
  | m :: r, lo, n => by
    show gapRow g t lo (some (g m)) :: foundRow g m :: rowsOf g t (some (g m)) (r ++ [n]) = gapRow g t lo (some (g m)) :: foundRow g m :: (rowsOf g t (some (g m)) r ++ _)
    rw [rowsOf_snoc g t r (some (g m)) n]
    rfl
theorem lastOf_snoc (g : Nat → Int) : ∀ (l : List Nat) (lo : Option Int) (n : Nat), lastOf g lo (l ++ [n]) = some (g n)
  | [], _, _ => rfl
  | _ :: r, _, n => lastOf_snoc g r _ n
theorem rowsOf_len (g : Nat → Int) (t : Tr) : ∀ (l : List Nat) (lo : Option Int), (rowsOf g t lo l).length = 2 * l.length
  | [], _ => rfl
  | m :: r, lo => by
    show (rowsOf g t (some (g m)) r).length + 1 + 1 = 2 * (r.length + 1)
    rw [rowsOf_len g t r]
    omega
/-- a table stands at q -/
def TableAt (H : Hp) (q : Addr) (l : List (List V)) : Prop := ∃ rows : List Addr, H q = some (.lst (rows.map V.ref)) ∧ Paired (fun r xs => H r = some (.tup xs)) rows l
section
variable {P : Program} {w : World} {K : PySem.W.Frag} {mg : Str → Option Value} {base : Heap}
/-! ### twice_between -/
def spTwice : Sp := fun vs H Q _ => ∃ lo hi : Option Int, vs = [optV lo, optV hi] ∧ Q (.int (twB lo hi)) H
/-! ### gap_step -/
def spGapStep : Sp := fun vs H Q _ => ∃ (v : V) (t : Tr) (a : Addr) (ns : List Int) (lo hi : Option Int), vs = [v, .ref a, optV lo, optV hi] ∧ TrAt H v t ∧ t.size ≤ 1000 ∧ H a = some (.lst (ns.map V.int)) ∧ ns.length = t.size ∧
  ∀ (H' : Hp) (r : Addr), Same H H' → H r = none → H' r = some (.tup (gapRow (valAt ns) t lo hi)) → Q (.ref r) H'
/-! ### steps -/
theorem TableAt.same {H H' : Hp} {q : Addr} {l : List (List V)} (h : TableAt H q l) (s : Same H H') : TableAt H' q l := by
  obtain ⟨rows, e, p⟩ := h
  exact ⟨rows, s _ _ e, Paired.mapP p fun r z h => s _ _ h⟩
theorem TableAt.len {H : Hp} {q : Addr} {l : List (List V)} (h : TableAt H q l) : ∃ rows : List Addr, H q = some (.lst (rows.map V.ref)) ∧ rows.length = l.length := by
  obtain ⟨rows, e, p⟩ := h
  exact ⟨rows, e, p.length⟩
/-- one row more -/
theorem TableAt.snoc {H : Hp} {q r : Addr} {l : List (List V)} {rows : List Addr} {xs : List V} (e : H q = some (.lst (rows.map V.ref))) (p : Paired (fun r xs => H r = some (.tup xs)) rows l) (hr : H r = some (.tup xs)) : TableAt (upd H q (.lst (rows.map V.ref ++ [V.ref r]))) q (l ++ [xs]) := by
  have ne : ∀ {b : Addr} {ys : List V}, H b = some (.tup ys) → b ≠ q := fun h z => by
    rw [z, e] at h
    cases h
  refine ⟨rows ++ [r], ?_, Paired.app (Paired.mapP p fun b ys h => ?_) (.cons ?_ .nil)⟩
  · rw [upd_same, List.map_append]
    rfl
  · rw [upd_ne (ne h)]
    exact h
  · rw [upd_ne (ne hr)]
    exact hr
def spSteps : Sp := fun vs H Q _ => ∃ (v : V) (t : Tr) (a : Addr) (ns : List Int), vs = [v, .ref a] ∧ TrAt H v t ∧ t.size ≤ 300 ∧ H a = some (.lst (ns.map V.int)) ∧ ns.length = t.size ∧
  ∀ (H' : Hp) (q : Addr), Same H H' → H q = none → TableAt H' q (tableOf (valAt ns) t (foundOf (valAt ns) t t.size)) → Q (.ref q) H'
end
end HSP
namespace HSP
open PySem PySem.Spec PyProof.Rows L2
/-! ## the gaps between what is found -/
theorem sEnd_same (g : Nat → Int) (tw1 tw2 : Int) (h12 : tw1 ≤ tw2) : ∀ (t : Tr) (f : Nat), (∀ x, tw1 ≤ x → x ≤ tw2 → (sEnd g x .fin t f).1 = false) → sEnd g tw1 .fin t f = sEnd g tw2 .fin t f
  | .nil, _, _ => rfl
  | .nod l r, f, h => by
    by_cases c1 : tw2 < 2 * g (f + l.size)
    · rw [sEnd_nod, sEnd_nod, way_of_lt _ (by omega), way_of_lt _ c1]
      refine sEnd_same g tw1 tw2 h12 l f fun x h1 h2 => ?_
      have := h x h1 h2
      rw [sEnd_nod, way_of_lt _ (by omega)] at this
      exact this
    · by_cases c2 : 2 * g (f + l.size) < tw1
      · rw [sEnd_nod, sEnd_nod, way_of_gt _ c2, way_of_gt _ (by omega)]
        refine sEnd_same g tw1 tw2 h12 r _ fun x h1 h2 => ?_
        have := h x h1 h2
        rw [sEnd_nod, way_of_gt _ (by omega)] at this
        exact this
      · have := h (2 * g (f + l.size)) (by omega) (by omega)
        rw [sEnd_nod, way_of_eq _ rfl] at this
        cases this
def posn (r : Bool × Nat) : Nat := if r.1 = true then 2 * r.2 + 1 else 2 * r.2
theorem posn_in (g : Nat → Int) (tw : Int) (m : Md) : ∀ (t : Tr) (f : Nat), 2 * f ≤ posn (sEnd g tw m t f) ∧ posn (sEnd g tw m t f) ≤ 2 * (f + t.size)
  | .nil, f => ⟨Nat.le_refl _, Nat.le_refl _⟩
  | .nod l r, f => by
    have z : (Tr.nod l r).size = l.size + 1 + r.size := rfl
    rw [sEnd_nod, z]
    cases wayOf tw (g (f + l.size)) m with
    | fin =>
      show 2 * f ≤ 2 * (f + l.size) + 1 ∧ 2 * (f + l.size) + 1 ≤ _
      omega
    | lft =>
      have := posn_in g tw m l f
      show 2 * f ≤ posn (sEnd g tw m l f) ∧ posn (sEnd g tw m l f) ≤ _
      omega
    | rgt =>
      have := posn_in g tw m r (f + l.size + 1)
      show 2 * f ≤ posn (sEnd g tw m r (f + l.size + 1)) ∧ posn (sEnd g tw m r (f + l.size + 1)) ≤ _
      omega
theorem posn_rise (g : Nat → Int) (tw1 tw2 : Int) (h12 : tw1 ≤ tw2) : ∀ (t : Tr) (f : Nat), posn (sEnd g tw1 .fin t f) ≤ posn (sEnd g tw2 .fin t f)
  | .nil, _ => Nat.le_refl _
  | .nod l r, f => by
    have b1 := posn_in g tw1 .fin l f
    have b2 := posn_in g tw2 .fin r (f + l.size + 1)
    rw [sEnd_nod, sEnd_nod]
    have pf : posn (true, f + l.size) = 2 * (f + l.size) + 1 := rfl
    rcases Int.lt_trichotomy tw1 (2 * g (f + l.size)) with c1 | c1 | c1
    · rw [way_of_lt _ c1]
      rcases Int.lt_trichotomy tw2 (2 * g (f + l.size)) with c2 | c2 | c2
      · rw [way_of_lt _ c2]
        exact posn_rise g tw1 tw2 h12 l f
      · rw [way_of_eq _ c2]
        show posn (sEnd g tw1 .fin l f) ≤ posn (true, f + l.size)
        omega
      · rw [way_of_gt _ c2]
        show posn (sEnd g tw1 .fin l f) ≤ posn (sEnd g tw2 .fin r (f + l.size + 1))
        omega
    · rw [way_of_eq _ c1]
      rcases Int.lt_trichotomy tw2 (2 * g (f + l.size)) with c2 | c2 | c2
      · omega
      · rw [way_of_eq _ c2]
        exact Nat.le_refl _
      · rw [way_of_gt _ c2]
        show posn (true, f + l.size) ≤ posn (sEnd g tw2 .fin r (f + l.size + 1))
        omega
    · rw [way_of_gt _ c1, way_of_gt _ (by omega)]
      exact posn_rise g tw1 tw2 h12 r _
theorem foundOf_asc (g : Nat → Int) (t : Tr) (n : Nat) : (foundOf g t n).Pairwise (· < ·) := by
  unfold foundOf
  exact List.Pairwise.filter _ List.pairwise_lt_range
theorem odd_gap (g : Nat → Int) (tw : Int) (t : Tr) (f : Nat) (h : tw % 2 = 1) : (sEnd g tw .fin t f).1 = false := by
  cases c : (sEnd g tw .fin t f).1 with
  | false => rfl
  | true =>
    have e1 : sEnd g tw .fin t f = (true, (sEnd g tw .fin t f).2) := Prod.ext c rfl
    have := ((found_at g tw t f _).mp e1).2
    omega
theorem found_rise {g : Nat → Int} {t : Tr} {i j : Nat} (hi : i ∈ foundOf g t t.size) (hj : j ∈ foundOf g t t.size) (h : i < j) : g i < g j := by
  have h1 := (found_mem.mp hi).2
  have h2 := (found_mem.mp hj).2
  by_cases c : g i < g j
  · exact c
  · have up := posn_rise g (2 * g j) (2 * g i) (by omega) t 0
    rw [h1, h2] at up
    have up2 : 2 * j + 1 ≤ 2 * i + 1 := up
    omega
theorem twB_odd (lo hi : Option Int) : twB lo hi % 2 = 1 := by
  cases lo with
  | some l => show (2 * l + 1) % 2 = 1; omega
  | none => cases hi with
    | some h => show (2 * h - 1) % 2 = 1; omega
    | none => rfl
def gapK (g : Nat → Int) (t : Tr) (fnd : List Nat) (k : Nat) : Nat := (sEnd g (twB (lastOf g none (fnd.take k)) ((fnd[k]?).map g)) .fin t 0).2
theorem rowsOf_even (g : Nat → Int) (t : Tr) : ∀ (fnd : List Nat) (lo : Option Int) (j : Nat) (h : j < fnd.length), (rowsOf g t lo fnd)[2 * j]? = some (gapRow g t (lastOf g lo (fnd.take j)) (some (g fnd[j]))) ∧ (rowsOf g t lo fnd)[2 * j + 1]? = some (foundRow g fnd[j])
  | n :: r, lo, 0, _ => ⟨rfl, rfl⟩
  | n :: r, lo, j + 1, h => by
    have ih := rowsOf_even g t r (some (g n)) j (Nat.lt_of_succ_lt_succ h)
    exact ih
theorem table_gap (g : Nat → Int) (t : Tr) (fnd : List Nat) {j : Nat} (h : j ≤ fnd.length) : (tableOf g t fnd)[2 * j]? = some (gapRow g t (lastOf g none (fnd.take j)) ((fnd[j]?).map g)) := by
  unfold tableOf
  by_cases c : j < fnd.length
  · rw [List.getElem?_append_left (by rw [rowsOf_len]; omega), (rowsOf_even g t fnd none j c).1, List.getElem?_eq_getElem c]
    rfl
  · have e : j = fnd.length := by omega
    rw [List.getElem?_append_right (by rw [rowsOf_len]; omega), rowsOf_len, e, Nat.sub_self, List.take_length, List.getElem?_eq_none (Nat.le_refl _)]
    rfl
theorem table_found (g : Nat → Int) (t : Tr) (fnd : List Nat) {j : Nat} (h : j < fnd.length) : (tableOf g t fnd)[2 * j + 1]? = some (foundRow g fnd[j]) := by
  unfold tableOf
  rw [List.getElem?_append_left (by rw [rowsOf_len]; omega), (rowsOf_even g t fnd none j h).2]
theorem table_len (g : Nat → Int) (t : Tr) (fnd : List Nat) : (tableOf g t fnd).length = 2 * fnd.length + 1 := by
  unfold tableOf
  rw [List.length_append, rowsOf_len, List.length_singleton]
theorem lastOf_take (g : Nat → Int) (fnd : List Nat) {j : Nat} (h : j < fnd.length) : lastOf g none (fnd.take (j + 1)) = some (g fnd[j]) := by
  rw [List.take_add_one, List.getElem?_eq_getElem h]
  exact lastOf_snoc _ _ _ _
theorem fnd_rise {g : Nat → Int} {t : Tr} {i j : Nat} (hi : i < (foundOf g t t.size).length) (hj : j < (foundOf g t t.size).length) (h : i < j) : g (foundOf g t t.size)[i] < g (foundOf g t t.size)[j] :=
  found_rise (List.getElem_mem hi) (List.getElem_mem hj) (List.pairwise_iff_getElem.mp (foundOf_asc g t t.size) i j hi hj h)
theorem fnd_less {g : Nat → Int} {t : Tr} {i j : Nat} (hi : i < (foundOf g t t.size).length) (hj : j < (foundOf g t t.size).length) (h : g (foundOf g t t.size)[i] < g (foundOf g t t.size)[j]) : i < j := by
  by_cases c : i < j
  · exact c
  · by_cases d : i = j
    · subst d
      omega
    · have := fnd_rise hj hi (by omega)
      omega
theorem end_found {g : Nat → Int} {t : Tr} {x : Int} (h : (sEnd g x .fin t 0).1 = true) : ∃ m, ∃ hm : m < (foundOf g t t.size).length, x = 2 * g (foundOf g t t.size)[m] := by
  have e1 : sEnd g x .fin t 0 = (true, (sEnd g x .fin t 0).2) := Prod.ext h rfl
  generalize (sEnd g x .fin t 0).2 = n at e1
  obtain ⟨a1, a2⟩ := (found_at g x t 0 n).mp e1
  have hn : n ∈ foundOf g t t.size := found_mem.mpr ⟨by have := (sPath_in g x .fin t 0 n a1).2; omega, by rw [← a2]; exact e1⟩
  obtain ⟨m, hm, e⟩ := List.getElem_of_mem hn
  exact ⟨m, hm, by rw [e]; exact a2⟩
theorem gap_end {g : Nat → Int} {t : Tr} {j : Nat} {tw : Int} (hj : j ≤ (foundOf g t t.size).length) (h1 : ∀ l, lastOf g none ((foundOf g t t.size).take j) = some l → 2 * l < tw) (h2 : ∀ h, ((foundOf g t t.size)[j]?).map g = some h → tw < 2 * h) :
    sEnd g tw .fin t 0 = (false, gapK g t (foundOf g t t.size) j) := by
  -- no number between is found
  have no : ∀ x, (∀ l, lastOf g none ((foundOf g t t.size).take j) = some l → 2 * l < x) → (∀ h, ((foundOf g t t.size)[j]?).map g = some h → x < 2 * h) → (sEnd g x .fin t 0).1 = false := fun x k1 k2 => by
    cases c : (sEnd g x .fin t 0).1 with
    | false => rfl
    | true =>
      obtain ⟨m, hm, e⟩ := end_found c
      have u1 : j ≤ m := by
        cases j with
        | zero => exact Nat.zero_le _
        | succ j =>
          have hj2 : j < (foundOf g t t.size).length := hj
          have := k1 _ (lastOf_take g _ hj2)
          exact fnd_less hj2 hm (by omega)
      have u2 : m < j := by
        by_cases d : j < (foundOf g t t.size).length
        · have := k2 (g (foundOf g t t.size)[j]) (by rw [List.getElem?_eq_getElem d]; rfl)
          exact fnd_less hm d (by omega)
        · omega
      omega
  have b1 : ∀ l, lastOf g none ((foundOf g t t.size).take j) = some l → 2 * l < twB (lastOf g none ((foundOf g t t.size).take j)) (((foundOf g t t.size)[j]?).map g) := fun l e => by
    rw [e]
    show 2 * l < 2 * l + 1
    omega
  have b2 : ∀ h, ((foundOf g t t.size)[j]?).map g = some h → twB (lastOf g none ((foundOf g t t.size).take j)) (((foundOf g t t.size)[j]?).map g) < 2 * h := fun h e => by
    rw [e]
    cases el : lastOf g none ((foundOf g t t.size).take j) with
    | none => show 2 * h - 1 < 2 * h; omega
    | some l =>
      have := h1 l el
      have := h2 h e
      show 2 * l + 1 < 2 * h
      omega
  have same : sEnd g tw .fin t 0 = sEnd g (twB (lastOf g none ((foundOf g t t.size).take j)) (((foundOf g t t.size)[j]?).map g)) .fin t 0 := by
    by_cases c : tw ≤ twB (lastOf g none ((foundOf g t t.size).take j)) (((foundOf g t t.size)[j]?).map g)
    · exact sEnd_same g _ _ c t 0 fun x k1 k2 => no x (fun l e => by have := h1 l e; omega) (fun h e => by have := b2 h e; omega)
    · exact (sEnd_same g _ _ (by omega) t 0 fun x k1 k2 => no x (fun l e => by have := b1 l e; omega) (fun h e => by have := h2 h e; omega)).symm
  rw [same]
  exact Prod.ext (odd_gap g _ t 0 (twB_odd _ _)) rfl
end HSP
namespace HSP
open PySem PySem.Spec PyProof.Rows L2
/-! ### sorted lists with the same numbers -/
theorem sorted_same : ∀ {l m : List Int}, l.Perm m → l.Pairwise (· ≤ ·) → m.Pairwise (· ≤ ·) → l = m
  | [], m, p, _, _ => p.nil_eq
  | a :: l, [], p, _, _ => absurd p.length_eq (by simp)
  | a :: l, b :: m, p, hl, hm => by
    obtain ⟨l1, l2⟩ := List.pairwise_cons.mp hl
    obtain ⟨m1, m2⟩ := List.pairwise_cons.mp hm
    have e : a = b := by
      have h1 : a ≤ b := by
        rcases List.mem_cons.mp (p.mem_iff.mpr (List.mem_cons_self : b ∈ b :: m)) with z | z
        · omega
        · exact l1 b z
      have h2 : b ≤ a := by
        rcases List.mem_cons.mp (p.mem_iff.mp (List.mem_cons_self : a ∈ a :: l)) with z | z
        · omega
        · exact m1 a z
      omega
    subst e
    rw [sorted_same (List.perm_cons a |>.mp p) l2 m2]
theorem range_up (n : Nat) : ((List.range n).map Int.ofNat).Pairwise (· ≤ ·) := by
  rw [List.pairwise_map]
  exact (List.pairwise_lt_range (n := n)).imp fun h => Int.ofNat_le.mpr (Nat.le_of_lt h)
end HSP
namespace HSP
open PySem PySem.Spec PyProof.Rows L2
/-! ## where two lists end otherwise -/
theorem low_end {g : Nat → Int} {tw : Int} : ∀ (t : Tr) (f : Nat), (∀ i, f ≤ i → i < f + t.size → tw < 2 * g i) → sEnd g tw .fin t f = (false, f)
  | .nil, _, _ => rfl
  | .nod l r, f, h => by
    have z : (Tr.nod l r).size = l.size + 1 + r.size := rfl
    rw [z] at h
    have h1 := h (f + l.size) (by omega) (by omega)
    rw [sEnd_nod]
    have w : wayOf tw (g (f + l.size)) .fin = .lft := by
      unfold wayOf
      rw [if_neg (by omega), if_pos h1]
    rw [w]
    exact low_end l f fun i a b => h i a (by omega)
/-- the least of so many numbers -/
theorem low_all (g : Nat → Int) : ∀ n : Nat, ∃ m : Int, ∀ i, i < n → m < 2 * g i
  | 0 => ⟨0, fun i h => absurd h (Nat.not_lt_zero i)⟩
  | n + 1 => by
    obtain ⟨m, h⟩ := low_all g n
    refine ⟨min m (2 * g n - 1), fun i hi => ?_⟩
    by_cases c : i = n
    · rw [c]
      omega
    · have := h i (by omega)
      omega
/-- every value that is found is an edge -/
def Edges (g : Nat → Int) (t : Tr) (E : List Int) : Prop := ∀ i, i ∈ foundOf g t t.size → g i ∈ E
theorem edge_none {g : Nat → Int} {t : Tr} {E : List Int} (h : Edges g t E) {x : Int} (no : ∀ e, e ∈ E → x ≠ 2 * e) : (sEnd g x .fin t 0).1 = false := by
  cases c : (sEnd g x .fin t 0).1 with
  | false => rfl
  | true =>
    obtain ⟨m, hm, e⟩ := end_found c
    exact absurd e (no _ (h _ (List.getElem_mem hm)))
theorem edge_low {g : Nat → Int} {t : Tr} {E : List Int} (h : Edges g t E) {tw : Int} (no : ∀ e, e ∈ E → tw < 2 * e) : sEnd g tw .fin t 0 = (false, 0) := by
  obtain ⟨m, hm⟩ := low_all g t.size
  have h1 : sEnd g (min m tw) .fin t 0 = (false, 0) := low_end t 0 fun i _ hi => by
    have := hm i (by omega)
    omega
  rw [← h1]
  exact (sEnd_same g (min m tw) tw (by omega) t 0 fun x _ h2 => edge_none h fun e he z => by
    have := no e he
    omega).symm
theorem edge_step {g : Nat → Int} {t : Tr} {E : List Int} (h : Edges g t E) {e tw : Int} (he : 2 * e < tw) (no : ∀ x, x ∈ E → 2 * x ≤ tw → x ≤ e) : sEnd g tw .fin t 0 = sEnd g (2 * e + 1) .fin t 0 :=
  (sEnd_same g (2 * e + 1) tw (by omega) t 0 fun x h1 h2 => edge_none h fun y hy z => by
    have := no y hy (by omega)
    omega).symm
theorem last_edge : ∀ (E : List Int) (tw : Int), (∀ e, e ∈ E → tw < 2 * e) ∨ ∃ e, e ∈ E ∧ 2 * e ≤ tw ∧ ∀ x, x ∈ E → 2 * x ≤ tw → x ≤ e
  | [], _ => .inl fun e h => by cases h
  | a :: E, tw => by
    rcases last_edge E tw with h | ⟨e, h1, h2, h3⟩
    · by_cases c : 2 * a ≤ tw
      · refine .inr ⟨a, List.mem_cons_self, c, fun x hx q => ?_⟩
        rcases List.mem_cons.mp hx with z | z
        · omega
        · have := h x z
          omega
      · refine .inl fun e he => ?_
        rcases List.mem_cons.mp he with z | z
        · omega
        · exact h e z
    · by_cases c : 2 * a ≤ tw ∧ e < a
      · refine .inr ⟨a, List.mem_cons_self, c.1, fun x hx q => ?_⟩
        rcases List.mem_cons.mp hx with z | z
        · omega
        · have := h3 x z q
          omega
      · refine .inr ⟨e, List.mem_cons_of_mem _ h1, h2, fun x hx q => ?_⟩
        rcases List.mem_cons.mp hx with z | z
        · rw [z] at q ⊢
          omega
        · exact h3 x z q
/-- where two lists end otherwise, they do so at an edge or behind it, not later -/
theorem apart_edge {g g' : Nat → Int} {t : Tr} {E : List Int} (h : Edges g t E) (h' : Edges g' t E) {tw : Int} (ne : sEnd g tw .fin t 0 ≠ sEnd g' tw .fin t 0) :
    ∃ e, e ∈ E ∧ ((2 * e = tw) ∨ (2 * e + 1 ≤ tw ∧ sEnd g (2 * e + 1) .fin t 0 ≠ sEnd g' (2 * e + 1) .fin t 0)) := by
  rcases last_edge E tw with q | ⟨e, h1, h2, h3⟩
  · exact absurd ((edge_low h q).trans (edge_low h' q).symm) ne
  · by_cases c : 2 * e = tw
    · exact ⟨e, h1, .inl c⟩
    · refine ⟨e, h1, .inr ⟨by omega, fun z => ne ?_⟩⟩
      rw [edge_step h (by omega) h3, edge_step h' (by omega) h3, z]
/-- the lists act alike, or the least number tells them apart -/
def Alike (g g' : Nat → Int) (t : Tr) : Option Int → Prop
  | none => ∀ tw, sEnd g tw .fin t 0 = sEnd g' tw .fin t 0
  | some x => sEnd g x .fin t 0 ≠ sEnd g' x .fin t 0 ∧ ∀ tw, tw < x → sEnd g tw .fin t 0 = sEnd g' tw .fin t 0
/-- what was looked at so far: the edges below, and perhaps 2 * edge -/
def Seen (g g' : Nat → Int) (t : Tr) (es : List Int) : Prop := ∀ e, e ∈ es → sEnd g (2 * e) .fin t 0 = sEnd g' (2 * e) .fin t 0 ∧ sEnd g (2 * e + 1) .fin t 0 = sEnd g' (2 * e + 1) .fin t 0
theorem alike_all {g g' : Nat → Int} {t : Tr} {E : List Int} (h : Edges g t E) (h' : Edges g' t E) (s : Seen g g' t E) : Alike g g' t none := fun tw => by
  by_cases c : sEnd g tw .fin t 0 = sEnd g' tw .fin t 0
  · exact c
  · obtain ⟨e, he, q | q⟩ := apart_edge h h' c
    · rw [← q] at c
      exact absurd (s e he).1 c
    · exact absurd (s e he).2 q.2
theorem alike_first {g g' : Nat → Int} {t : Tr} {E : List Int} (h : Edges g t E) (h' : Edges g' t E) {i : Nat} {e : Int} (srt : E.Pairwise (· ≤ ·)) (he : E[i]? = some e) (s : Seen g g' t (E.take i)) {x : Int}
    (hx : x = 2 * e ∨ x = 2 * e + 1 ∧ sEnd g (2 * e) .fin t 0 = sEnd g' (2 * e) .fin t 0) (ne : sEnd g x .fin t 0 ≠ sEnd g' x .fin t 0) : Alike g g' t (some x) := by
  refine ⟨ne, fun tw lt => ?_⟩
  by_cases c : sEnd g tw .fin t 0 = sEnd g' tw .fin t 0
  · exact c
  · obtain ⟨hi, ei⟩ := List.getElem?_eq_some_iff.mp he
    obtain ⟨y, hy, q⟩ := apart_edge h h' c
    obtain ⟨j, hj, ej⟩ := List.mem_iff_getElem.mp hy
    by_cases ji : j < i
    · have my : y ∈ E.take i := by
        rw [← ej]
        exact List.mem_take_iff_getElem.mpr ⟨j, by omega, rfl⟩
      rcases q with q | q
      · rw [← q] at c
        exact absurd (s y my).1 c
      · exact absurd (s y my).2 q.2
    · have le : e ≤ y := by
        rcases Nat.lt_or_eq_of_le (Nat.le_of_not_lt ji) with z | z
        · rw [← ei, ← ej]
          exact List.pairwise_iff_getElem.mp srt i j hi hj z
        · subst z
          rw [← ei, ← ej]
          exact Int.le_refl _
      rcases hx with r | ⟨r, same⟩
      · rcases q with q | q <;> omega
      · rcases q with q | q
        · have : y = e := by omega
          rw [← q, this] at c
          exact absurd same c
        · omega
end HSP
namespace HSP
open PySem PySem.Spec PyProof.Rows L2
/-! ## how a search ended, as data -/
def endRow (r : Bool × Nat) : List V := [kindV r.1, natV r.2]
theorem endRow_plain {r : Bool × Nat} (h : r.2 < 1000000) : Plains (endRow r) := fun v hv => by
  have hv : v ∈ [kindV r.1, natV r.2] := hv
  simp only [List.mem_cons, List.not_mem_nil, or_false] at hv
  rcases hv with rfl | rfl
  · cases r.1
    · exact ⟨by decide +kernel, by decide +kernel⟩
    · exact ⟨by decide +kernel, by decide +kernel⟩
  · exact plain_nat h
theorem sEnd_le (g : Nat → Int) (tw : Int) (m : Md) : ∀ (t : Tr) (f : Nat), (sEnd g tw m t f).2 ≤ f + t.size
  | .nil, f => Nat.le_refl _
  | .nod l r, f => by
    have e : sEnd g tw m (.nod l r) f = match wayOf tw (g (f + l.size)) m with | .fin => (true, f + l.size) | .lft => sEnd g tw m l f | .rgt => sEnd g tw m r (f + l.size + 1) := rfl
    have z : (Tr.nod l r).size = l.size + 1 + r.size := rfl
    rw [e, z]
    cases wayOf tw (g (f + l.size)) m with
    | fin => show f + l.size ≤ _; omega
    | lft => have := sEnd_le g tw m l f; show (sEnd g tw m l f).2 ≤ _; omega
    | rgt => have := sEnd_le g tw m r (f + l.size + 1); show (sEnd g tw m r (f + l.size + 1)).2 ≤ _; omega
theorem end_eqv (r : Bool × Nat) (i : Nat) : PyData.eqv (rowD (endRow r)) (rowD [.str "found", natV i]) = decide (r = (true, i)) := by
  obtain ⟨b, n⟩ := r
  unfold rowD endRow
  simp only [List.map_cons, List.map_nil, PyData.eqv, PyData.eqvAll, Bool.and_true]
  cases b
  · have e1 : vD (kindV false) = .str "gap" := rfl
    have e2 : vD (V.str "found") = .str "found" := rfl
    rw [e1, e2, decide_eq_false (fun z => by cases z)]
    simp only [PyData.eqv]
    have e3 : (("gap" : Str) == ("found" : Str)) = false := by decide +kernel
    rw [e3, Bool.false_and]
  · have e1 : vD (kindV true) = .str "found" := rfl
    have e2 : vD (V.str "found") = .str "found" := rfl
    have e4 : vD (natV n) = .int (n : Int) := rfl
    have e5 : vD (natV i) = .int (i : Int) := rfl
    rw [e1, e2, e4, e5]
    simp only [PyData.eqv]
    have e3 : (("found" : Str) == ("found" : Str)) = true := by decide +kernel
    rw [e3, Bool.true_and]
    by_cases c : n = i
    · rw [c, decide_eq_true rfl]
      exact beq_self_eq_true _
    · rw [decide_eq_false (fun z => c (Prod.mk.inj z).2)]
      exact beq_eq_false_iff_ne.mpr (fun z => c (by omega))
end HSP
namespace HSP
open PySem PySem.Spec PyProof.Rows L2
/-! ## set(a list of ints) -/
/-- a set that was just made, as the world bears it -/
abbrev nSet (w : World) : Obj := { cls := .type "set", dict := none, data := .set #[] 0 (.fresh 0 0 (!w.params.followText "set-order")) }
abbrev nIt (l : Addr) : Obj := { cls := .type "list_iterator", data := .fields #[.ref l, .int 0 0] }
section
variable {P : Program} {w : World} {A : Around} {E : Value → Shared → Prop} {s : Shared}
/-- what the filling of the new set leaves -/
def Filled (w : World) (s : Shared) (ns : List Int) (v : Value) (s2 : Shared) : Prop :=
  v = .none ∧ ∃ (h2 : Heap) (tk c : Nat), s2 = { s with heap := h2, toks := tk } ∧ SetR w h2 s.heap.objs.size (fun j => decide (j ∈ ns)) c ∧ c ≤ ns.length ∧ ∀ b o, s.heap.get? b = some o → h2.get? b = some o
theorem setL_fill {l : Addr} {items : Array Value} {nl : Nat} {dd : Option Addr} {sl : Array (Option Value)} (ns : List Int) (hh : A.handled = none) (el : s.heap.get? l = some { cls := .type "list", dict := dd, data := .seq items nl, slots := sl }) (hi : IntsAre items.toList ns) (hb : ns.length + 1 < scanBound) :
    codeAny (model P w) A (.call (.builtin "set.__init__") ⟨[.ref s.heap.objs.size, .ref l], []⟩) (wants (Filled w s ns) E) { s with heap := s.heap.push (nSet w) } := by
  have many : items.size = ns.length := by rw [← Array.length_toList]; exact IntsAre.length hi
  have lS : l < s.heap.objs.size := Heap.lt_size el
  have sz : (s.heap.push (nSet w)).objs.size = s.heap.objs.size + 1 := Heap.size_push ..
  have gS : (s.heap.push (nSet w)).get? s.heap.objs.size = some (nSet w) := Heap.get?_push_size _ rfl
  have el1 := Heap.get?_push_of_some (nSet w) el
  have isL : (s.heap.push (nSet w)).IsList l items := ⟨_, el1, rfl, nl, rfl⟩
  refine codeAny_call_builtin F.called_set.init.plain F.entry_set_init (check_set_init_1 ⟨_, gS, rfl⟩ ?_)
  have t1 := F.sub_list_set
  have t2 := F.sub_list_frozenset
  have t3 : (Value.type "list" == Value.type "dict") = false := by decide
  unfold Builtin.«set.__init__» noKeywords Builtin.Frozenset.updateFrom
  generalize hPI : pyIter = PI
  wp_walk
  subst hPI
  refine wpAny_pyIter_list isL (wpAny_bind (wpAny_runValue ?_))
  have nlI : l ≠ (s.heap.push (nSet w)).objs.size := by rw [sz]; exact Nat.ne_of_lt (Nat.lt_succ_of_lt lS)
  have offS : s.heap.objs.size ∉ [(s.heap.push (nSet w)).objs.size, l] := fun z => by
    rw [sz] at z
    rcases List.mem_cons.mp z with z | z
    · exact absurd z (Nat.ne_of_lt (Nat.lt_succ_self _))
    · exact absurd (List.mem_singleton.mp z) (Nat.ne_of_gt lS)
  have vals : ∀ (i : Nat) (v : Value), items[i]? = some v → ∃ k t, ns[i]? = some k ∧ v = .int k t := fun i v hv => by
    have lt : i < ns.length := by rw [← many]; exact (Array.getElem?_eq_some_iff.mp hv).1
    obtain ⟨t, e⟩ := IntsAre.int_at hi i v (by rw [Array.getElem?_toList]; exact hv)
    have eg : ns.getD i 0 = ns[i] := by rw [List.getD_eq_getElem?_getD, List.getElem?_eq_getElem lt]; rfl
    exact ⟨ns[i], t, List.getElem?_eq_getElem lt, by rw [e, eg]⟩
  refine set_update_ints (Walks.list (A := A.in1.in1) (by simp [hh]) _ l nlI items).toS s.heap.objs.size offS ns many hb vals (items.size - 0) 0 _ rfl (Nat.zero_le _) ?st ?new fun s2 c hm hc hR => ?_
  case st => exact ⟨⟨_, Heap.get?_push_size _ rfl, rfl, rfl⟩, isL.push _⟩
  case new => exact ⟨0, Nat.le_refl 0, setR_new_at (w := w) (show ((s.heap.push (nSet w)).push (nIt l)).get? s.heap.objs.size = some (nSet w) from Heap.get?_push_of_some _ gS)⟩
  obtain ⟨h2, g2, d2, tk2, os2⟩ := s2
  obtain rfl : g2 = s.gens := hm.gens
  obtain rfl : d2 = s.drawn := hm.drawn
  obtain rfl : os2 = s.os := hm.os
  rw [many] at hc
  refine wpAny_pure (wpAny_pure ⟨rfl, h2, tk2, c, rfl, hR, hc, fun b o e => ?_⟩)
  have bS : b < s.heap.objs.size := Heap.lt_size e
  refine hm.heap b o (fun z => ?_) (Heap.get?_push_of_some _ (Heap.get?_push_of_some _ e))
  rcases List.mem_cons.mp z with z | z
  · exact absurd z (Nat.ne_of_lt bS)
  · have z' := List.mem_singleton.mp z
    rw [sz] at z'
    exact absurd z' (Nat.ne_of_lt (Nat.lt_succ_of_lt bS))
theorem setL_call {l : Addr} {items : Array Value} {nl : Nat} {dd : Option Addr} {sl : Array (Option Value)} (ns : List Int) {Q : Value → Shared → Prop} (hh : A.handled = none) (el : s.heap.get? l = some { cls := .type "list", dict := dd, data := .seq items nl, slots := sl }) (hi : IntsAre items.toList ns) (hb : ns.length + 1 < scanBound)
    (h : ∀ s2, Filled w s ns .none s2 → Q (.ref s.heap.objs.size) s2) : wpAny (model P w) A (call (.type "set") [.ref l]) Q E s := by
  obtain ⟨cl, tl, f1⟩ := F.called_set.mro
  have f2 := F.called_set.made
  have f3 := F.called_set.sub
  have f4 := F.called_set.notType
  have f5 := F.called_set.canCreate
  have f6 := F.typeCall_set_1 (.ref l)
  refine wpAny_call (codeAny_of_tree (show wpAny _ _ (callAny (.type "set") _) _ _ _ from wpAny_pure ⟨Code.quiet_builtin _ (by decide +kernel), codeAny_builtin F.entry_type_call ?_⟩))
  rw [Around.under_plain (weight_type_call_type "set" [.ref l] []) rfl]
  repeat any_goals (first | assumption | wp_step)
  refine codeAny_mono (code_set_led1 (.ref l) (E := E) (Q₁ := fun v s1 => v = .ref s.heap.objs.size ∧ s1 = { s with heap := s.heap.push (nSet w) }) ⟨rfl, rfl⟩) fun r s1 hr => ?_
  match r, hr with
  | .error _, hr => exact hr
  | .ok (.ret v), hr =>
    obtain ⟨e1, e2⟩ := hr
    subst e1 e2
    have f7 := F.called_set.init.lookup
    have f8 := F.called_set.init.bind (.ref s.heap.objs.size)
    have f9 : Shared.TypeIs { s with heap := s.heap.push (nSet w) } (.ref s.heap.objs.size) "set" := ⟨_, Heap.get?_push_size _ rfl, rfl⟩
    repeat any_goals (first | assumption | wp_step)
    refine codeAny_mono (setL_fill (E := E) (A := A.in1) ns (by simp [hh]) el hi hb) fun r2 s2 hr2 => ?_
    match r2, hr2 with
    | .error _, hr2 => exact hr2
    | .ok (.ret u), hr2 =>
      obtain ⟨e3, q⟩ := hr2
      subst e3
      repeat any_goals (first | assumption | wp_step)
      exact h _ ⟨rfl, q⟩
end
section
variable {X : Cx}
/-- set(a list of ints): its members, at most as many as there are items -/
def rSetInts (w : World) : List V → Hp → VK → Prop := fun vs H Q => ∃ (a : Addr) (ns : List Int), vs = [V.ref a] ∧ H a = some (.lst (ns.map V.int)) ∧ ns.length ≤ 1000 ∧
  ∀ (p : Addr) (c : Nat), H p = none → c ≤ ns.length → Q (.ref p) (upd H p (SetO w p (fun j => decide (j ∈ ns)) c))
theorem cr_setInts (hc : X.calm = true) : CallR X (.type "set") (rSetInts X.w) := by
  intro pins s σ H vs us Q I r h
  obtain ⟨a, ns, rfl, ha, hl, q⟩ := h
  rw [Vals.ref1 r]
  obtain ⟨z, its, n, rv, e⟩ : ObjOk X.prog X.w H s.heap a (.lst (ns.map V.int)) := I.hok a _ ha
  refine setL_call ns (I.ok.hd hc) e (ints_of_vals rv) (by unfold scanBound; omega) fun s2 hf => ?_
  obtain ⟨_, h2, tk, c, rfl, hR, hc2, kp⟩ := hf
  have hn : H s.heap.objs.size = none := I.hok.fresh (Nat.le_refl _)
  exact ⟨.ref _, _, I.laid kp (Nat.le_refl _) (setO_new hR), rfl, q _ c hn hc2⟩
end
end HSP
namespace HSP
open PySem PySem.Spec PyProof.Rows L2
/-! ## what the law draws from: a list of a number, a count, a mark -/
def DrAt (H : Hp) (p : Addr) (k : Nat) : Prop := ∃ (n : Int) (j : Nat) (b : Bool), H p = some (.lst [.int n, .int (j : Int), .bl b]) ∧ j ≤ k
theorem DrAt.mono {H : Hp} {p : Addr} {k k' : Nat} (d : DrAt H p k) (h : k ≤ k') : DrAt H p k' := by
  obtain ⟨n, j, b, e, l⟩ := d
  exact ⟨n, j, b, e, Nat.le_trans l h⟩
theorem DrAt.same {H H' : Hp} {p : Addr} {k : Nat} (d : DrAt H p k) (s : Same H H') : DrAt H' p k := by
  obtain ⟨n, j, b, e, l⟩ := d
  exact ⟨n, j, b, s _ _ e, l⟩
theorem DrAt.ne {H : Hp} {p q : Addr} {k : Nat} (d : DrAt H p k) (h : H q = none) : q ≠ p := by
  obtain ⟨n, j, b, e, l⟩ := d
  exact (ne_of_none e h).symm
theorem DrAt.tree {H H' : Hp} {p : Addr} {k : Nat} {v : V} {t : Tr} (d : DrAt H p k) (s : Keep p H H') (h : TrAt H v t) : TrAt H' v t := by
  obtain ⟨n, j, b, e, l⟩ := d
  exact s.tree e h
/-- any of the items, whichever place is read -/
theorem at_any {xs : List V} {C : V → Prop} (h : ∀ x, x ∈ xs → C x) {i : Int} (h0 : 0 ≤ i) (h1 : i < (xs.length : Int)) : ∃ v, atI xs i = some v ∧ C v := by
  have hk : i.toNat < xs.length := by omega
  have ei : i = ((i.toNat : Nat) : Int) := by omega
  exact ⟨xs[i.toNat], at_of ei (List.getElem?_eq_getElem hk), h _ (List.getElem_mem hk)⟩
theorem small_mod {a m : Int} (h0 : 0 < m) (h1 : m < 2 ^ 64) : -(2 ^ 64) < a % m ∧ a % m < 2 ^ 64 := by
  have q1 := Int.emod_nonneg a (show m ≠ 0 by omega)
  have q2 := Int.emod_lt_of_pos a h0
  constructor <;> omega
section
variable {P : Program} {w : World} {K : PySem.W.Frag} {mg : Str → Option Value} {base : Heap}
/-! ### _law_draws -/
theorem sc_law_draws : FnScope n_law_draws ["cell"] (defScope s_law_draws) := ⟨rfl, rfl, rfl, by decide +kernel, rfl, by decide +kernel, by decide +kernel⟩
def spDraws : Sp := fun vs H Q _ => ∃ c : Int, vs = [.int c] ∧ ∀ (H' : Hp) (p : Addr), Same H H' → H p = none → DrAt H' p 0 → Q (.ref p) H'
theorem ok_draws (B : Bl mg) (a : At K mg "_law_draws" s_law_draws) : Df P w K mg base "_law_draws" 1 ["cell"] spDraws := by
  refine Df.mk' a sc_law_draws (fun vs H Q E h => ?_) (fun _ _ _ _ _ _ us hl => match us, hl with | [_], _ => rfl) (fun f cdv A outer s H vs Q E hr h => ?_)
  · obtain ⟨c, rfl, _⟩ := h
    rfl
  obtain ⟨c, rfl, q⟩ := h
  refine ⟨_, (pss_one (ps_ret (pe_lst (pa_cons (pe_op op_mod (pe_callTy call_int1 (by rfl) B.int (by decide +kernel) (pa_cons (pv 0) pa_nil)) (pe_op op_powW (pe_op op_powW (pe_op op_powW pe_int pe_int) pe_int) pe_int)) (pa_cons pe_int (pa_cons (pe_cmpR op_ge (pv 0) (pe_op op_powW pe_int pe_int) (nomark _)) pa_nil)))))), ?_⟩
  refine ⟨_, rfl, .inl ⟨_, rfl, _, _, rfl, rfl, ⟨by decide, by decide +kernel⟩, _, _, rfl, rfl, ⟨by decide, by decide +kernel⟩, _, _, rfl, rfl, ⟨by decide, by decide +kernel⟩, _, _, rfl, rfl, ?_, ?_⟩⟩
  · exact Int.pow_pos (Int.pow_pos (Int.pow_pos (by decide)))
  refine ⟨_, rfl, _, _, rfl, rfl, ⟨by decide, by decide +kernel⟩, _, _, rfl, rfl, (by show 3 ≤ sizeLine; decide), fun p hp => ?_⟩
  exact q _ p (Same.new hp) hp ⟨_, 0, _, upd_same, Nat.le_refl _⟩
/-! ### _law_next -/
theorem sc_law_next : FnScope n_law_next ["draws"] (defScope s_law_next) := ⟨rfl, rfl, rfl, by decide +kernel, rfl, by decide +kernel, by decide +kernel⟩
def spNext : Sp := fun vs H Q _ => ∃ (p : Addr) (k : Nat), vs = [.ref p] ∧ DrAt H p k ∧ k ≤ 100000 ∧ ∀ (H' : Hp) (r : Int), Keep p H H' → DrAt H' p (k + 1) → 0 ≤ r → r < 2147483648 → Q (.int r) H'
theorem ok_next (B : Bl mg) (a : At K mg "_law_next" s_law_next) : Df P w K mg base "_law_next" 1 ["draws"] spNext := by
  refine Df.mk' a sc_law_next (fun vs H Q E h => ?_) (fun _ _ _ _ _ _ us hl => match us, hl with | [_], _ => rfl) (fun f cdv A outer s H vs Q E hr h => ?_)
  · obtain ⟨p, k, rfl, _⟩ := h
    rfl
  obtain ⟨p, k, rfl, ⟨n, j, b, e, hj⟩, hk, q⟩ := h
  refine ⟨_, (pss_cons (ps_asg (pe_op op_add (pe_ix ix_list (pv 0) pe_int (fun _ _ => rfl)) pe_int) (pg_sub (pv 0) pe_int set_list))
 (pss_cons (ps_set (i := 1) sc_law_next.nd rfl (.inl rfl) (pe_ix ix_list (pv 0) pe_int (fun _ _ => rfl)))
 (pss_cons (ps_if (pt_val (pe_ix ix_list (pv 0) pe_int (fun _ _ => rfl))) (pss_cons (ps_set (i := 2) sc_law_next.nd rfl (.inl rfl) (pe_op op_mod (pe_callTy call_int1 (by rfl) B.int (by decide +kernel) (pa_cons (pe_ix ix_list (pv 0) pe_int (fun _ _ => rfl)) pa_nil)) (pe_op op_powW pe_int pe_int)))
 (pss_cons (ps_asg (pe_op op_fdiv (pe_ix ix_list (pv 0) pe_int (fun _ _ => rfl)) (pe_op op_powW pe_int pe_int)) (pg_sub (pv 0) pe_int set_list))
 (pss_one (ps_ret (pv 2))))) pss_nil)
 (pss_cons (ps_set (i := 2) sc_law_next.nd rfl (.inl rfl) (pe_op op_mod (pe_callTy call_int1 (by rfl) B.int (by decide +kernel) (pa_cons (pe_op op_mul (pe_op op_add (pe_op op_add (pe_op op_mod (pe_callTy call_int1 (by rfl) B.int (by decide +kernel) (pa_cons (pe_ix ix_list (pv 0) pe_int (fun _ _ => rfl)) pa_nil)) pe_int) (pe_op op_mul (pe_op op_mul (pv 1) (pv 1)) pe_int)) (pv 1)) pe_int) pa_nil)) pe_int))
 (pss_cons (ps_set (i := 2) sc_law_next.nd rfl (.inl rfl) (pe_op op_mod (pe_callTy call_int1 (by rfl) B.int (by decide +kernel) (pa_cons (pe_op op_mul (pv 2) (pv 2)) pa_nil)) pe_int))
 (pss_one (ps_ret (pe_op op_fdiv (pe_op op_mod (pe_callTy call_int1 (by rfl) B.int (by decide +kernel) (pa_cons (pe_op op_mul (pv 2) (pe_op op_add (pv 2) pe_int)) pa_nil)) pe_int) pe_int)))))))), ?_⟩
  have e1 : (upd H p (.lst ([V.int n, .int (j : Int), .bl b].set 1 (.int ((j : Int) + 1))))) p = some (.lst [.int n, .int ((j + 1 : Nat) : Int), .bl b]) := by
    rw [upd_same]
    rfl
  refine ⟨_, rfl, p, _, _, _, rfl, rfl, .of e, atI_nat (j := 1) rfl, _, _, rfl, rfl, _, rfl, p, _, _, 1, rfl, rfl, e, rfl, ?_⟩
  have kp1 : Keep p H (upd H p (.lst ([V.int n, .int (j : Int), .bl b].set 1 (.int ((j : Int) + 1))))) := Keep.at
  generalize upd H p (.lst ([V.int n, .int (j : Int), .bl b].set 1 (.int ((j : Int) + 1)))) = H1 at e1 kp1 ⊢
  refine ⟨_, rfl, p, _, _, _, rfl, rfl, .of e1, atI_nat (j := 1) rfl, ?_⟩
  refine ⟨_, rfl, p, _, _, _, rfl, rfl, .of e1, atI_nat (j := 2) rfl, b, rfl, ?_⟩
  refine ite2 (fun c => ?_) (fun c => ?_)
  · refine ⟨_, rfl, p, _, _, _, rfl, rfl, .of e1, atI_nat (j := 0) rfl, .inl ⟨_, rfl, _, _, rfl, rfl, ⟨by decide, by decide +kernel⟩, _, _, rfl, rfl, Int.pow_pos (by decide), ?_⟩⟩
    refine ⟨_, rfl, p, _, _, _, rfl, rfl, .of e1, atI_nat (j := 0) rfl, _, _, rfl, rfl, ⟨by decide, by decide +kernel⟩, _, _, rfl, rfl, ⟨by decide, by decide⟩, _, rfl, p, _, _, 0, rfl, rfl, e1, rfl, ?_⟩
    refine ⟨_, rfl, q _ _ (kp1.trans Keep.at) ⟨_, j + 1, b, upd_same, by omega⟩ (Int.emod_nonneg _ (by decide)) ?_⟩
    have h6 : n % (1000000 : Int) < 1000000 := Int.emod_lt_of_pos n (by decide)
    exact Int.lt_trans h6 (by decide)
  · have k1 : -(2 ^ 64) < ((j + 1 : Nat) : Int) := by omega
    have k2 : ((j + 1 : Nat) : Int) < 2 ^ 64 := by omega
    refine ⟨_, rfl, p, _, _, _, rfl, rfl, .of e1, atI_nat (j := 0) rfl, .inl ⟨_, rfl, _, _, rfl, rfl, (by show (0 : Int) < 1000003; decide), _, rfl, _, rfl, _, _, rfl, rfl, .inl ⟨k1, k2⟩, _, _, rfl, rfl, .inr ⟨by decide, by decide⟩, _, _, rfl, rfl, _, rfl, _, _, rfl, rfl, _, _, rfl, rfl, .inr ⟨by decide, by decide⟩,
      .inl ⟨_, rfl, _, _, rfl, rfl, (by show (0 : Int) < 2147483629; decide), ?_⟩⟩⟩
    refine ⟨_, rfl, _, rfl, _, _, rfl, rfl, .inl (small_mod (by decide) (by decide)), .inl ⟨_, rfl, _, _, rfl, rfl, (by show (0 : Int) < 2147483587; decide), ?_⟩⟩
    refine ⟨_, rfl, _, rfl, _, _, rfl, rfl, _, _, rfl, rfl, .inl (small_mod (by decide) (by decide)), .inl ⟨_, rfl, _, _, rfl, rfl, (by show (0 : Int) < 2147483579; decide), _, _, rfl, rfl, ⟨by decide, by decide⟩, ?_⟩⟩
    refine q _ _ kp1 ⟨n, j + 1, b, e1, by omega⟩ (Int.ediv_nonneg (Int.emod_nonneg _ (by decide)) (by decide)) ?_
    exact Int.lt_of_le_of_lt (Int.ediv_le_self _ (Int.emod_nonneg _ (by decide))) (Int.lt_trans (Int.emod_lt_of_pos _ (by decide)) (by decide))
end
end HSP
namespace HSP
open PySem PySem.Spec PyProof.Rows L2
theorem DrAt.neOf {H : Hp} {p q : Addr} {k : Nat} {ns : List Int} (d : DrAt H p k) (e : H q = some (.lst (ns.map V.int))) : q ≠ p := fun z => by
  obtain ⟨n, j, b, e2, _⟩ := d
  rw [z, e2] at e
  have h := HO.lst.inj (Option.some.inj e)
  match ns, h with
  | [], h => exact absurd (congrArg List.length h) (by simp)
  | [_], h => exact absurd (congrArg List.length h) (by simp)
  | [_, _], h => exact absurd (congrArg List.length h) (by simp)
  | _ :: _ :: z :: _, h => exact absurd (congrArg (fun l => l[2]?) h) (by simp)
theorem DrAt.put {H : Hp} {p q : Addr} {k : Nat} {o : HO} (d : DrAt H p k) (n : q ≠ p) : DrAt (upd H q o) p k := by
  obtain ⟨z, j, b, e, l⟩ := d
  exact ⟨z, j, b, by rw [upd_ne n.symm]; exact e, l⟩
/-- a place that was not tracked at first may be written -/
theorem Keep.put {p q : Addr} {H H1 : Hp} {o : HO} (h : H q = none) (k : Keep p H H1) : Keep p H (upd H1 q o) := fun b u n e => by
  rw [upd_ne (ne_of_none e h)]
  exact k b u n e
/-- a value drawn is near 0 -/
def Near (ns : List Int) : Prop := ∀ v, v ∈ ns → -1000001 ≤ v ∧ v ≤ 1000001
theorem Near.nil : Near [] := fun _ h => by cases h
theorem Near.snoc {ns : List Int} {v : Int} (h : Near ns) (h1 : -1000001 ≤ v ∧ v ≤ 1000001) : Near (ns ++ [v]) := fun x hx => by
  rcases List.mem_append.mp hx with z | z
  · exact h x z
  · rw [List.mem_singleton.mp z]
    exact h1
theorem Near.set {ns : List Int} {v : Int} {i : Nat} (h : Near ns) (h1 : -1000001 ≤ v ∧ v ≤ 1000001) : Near (ns.set i v) := fun x hx => by
  rcases List.mem_or_eq_of_mem_set hx with z | z
  · exact h x z
  · rw [z]
    exact h1
theorem near_of {r sp : Int} (h0 : 0 ≤ sp) (h1 : sp ≤ 1000000) : -1000001 ≤ r % (sp + 1) - sp / 2 ∧ r % (sp + 1) - sp / 2 ≤ 1000001 := by
  have a1 := Int.emod_nonneg r (show sp + 1 ≠ 0 by omega)
  have a2 := Int.emod_lt_of_pos r (show (0 : Int) < sp + 1 by omega)
  omega
end HSP
namespace HSP
open PySem PySem.Spec PyProof.Rows L2
/-! ## what the laws' right sides share -/
theorem Mid.of {ns : List Int} (h : Near ns) : Mid ns := fun v hv => by
  have := h v hv
  omega
def spRight : Sp := fun vs H Q _ => ∃ (p : Addr) (k : Nat), vs = [.ref p] ∧ DrAt H p k ∧ k ≤ 1000 ∧ ∀ H' : Hp, Keep p H H' → DrAt H' p (k + 200) → Q (.bl true) H'
end HSP
namespace HSP
open PySem PySem.Spec PyProof.Rows L2
theorem ends_eqv (r r' : Bool × Nat) : PyData.eqv (rowD (endRow r)) (rowD (endRow r')) = decide (r = r') := by
  obtain ⟨b, n⟩ := r
  obtain ⟨b', n'⟩ := r'
  unfold rowD endRow
  simp only [List.map_cons, List.map_nil, PyData.eqv, PyData.eqvAll, Bool.and_true]
  have e1 : vD (kindV false) = .str "gap" := rfl
  have e2 : vD (kindV true) = .str "found" := rfl
  have e4 : vD (natV n) = .int (n : Int) := rfl
  have e5 : vD (natV n') = .int (n' : Int) := rfl
  have gf : (("gap" : Str) == ("found" : Str)) = false := by decide +kernel
  have fg : (("found" : Str) == ("gap" : Str)) = false := by decide +kernel
  have ff : (("found" : Str) == ("found" : Str)) = true := by decide +kernel
  have gg : (("gap" : Str) == ("gap" : Str)) = true := by decide +kernel
  have num : ∀ c : Bool, ((n : Int) == (n' : Int)) = decide ((c, n) = (c, n')) := fun c => by
    by_cases d : n = n'
    · rw [d, decide_eq_true rfl]
      exact beq_self_eq_true _
    · rw [decide_eq_false (fun z => d (Prod.mk.inj z).2)]
      exact beq_eq_false_iff_ne.mpr (fun z => d (by omega))
  cases b <;> cases b'
  · rw [e1, e4, e5]
    simp only [PyData.eqv]
    rw [gg, Bool.true_and]
    exact num false
  · rw [e1, e2, decide_eq_false (fun z => by cases z)]
    simp only [PyData.eqv]
    rw [gf, Bool.false_and]
  · rw [e1, e2, decide_eq_false (fun z => by cases z)]
    simp only [PyData.eqv]
    rw [fg, Bool.false_and]
  · rw [e2, e4, e5]
    simp only [PyData.eqv]
    rw [ff, Bool.true_and]
    exact num true
section
variable {P : Program} {w : World} {K : PySem.W.Frag} {mg : Str → Option Value} {base : Heap}
/-! ### check_both, ends_alike, alike: of two good lists -/
def spBothG : Sp := fun vs H Q _ => ∃ (v : V) (t : Tr) (a b : Addr) (ns ms : List Int), vs = [v, .ref a, .ref b] ∧ TrAt H v t ∧ t.size ≤ 1000 ∧ H a = some (.lst (ns.map V.int)) ∧ ns.length = t.size ∧ H b = some (.lst (ms.map V.int)) ∧ ms.length = t.size ∧ ∀ H', Same H H' → Q .non H'
def spEndsA : Sp := fun vs H Q _ => ∃ (v : V) (t : Tr) (a b : Addr) (ns ms : List Int) (tw : Int), vs = [v, .ref a, .ref b, .int tw] ∧ TrAt H v t ∧ t.size ≤ 1000 ∧ H a = some (.lst (ns.map V.int)) ∧ ns.length = t.size ∧ H b = some (.lst (ms.map V.int)) ∧ ms.length = t.size ∧
  ∀ H', Same H H' → Q (.bl (decide (sEnd (valAt ns) tw .fin t 0 = sEnd (valAt ms) tw .fin t 0))) H'
/-- what alike hands back of two good lists -/
def TellAt (H : Hp) (e : Addr) : Option Int → Prop
  | none => H e = some (.tup [.str "alike"])
  | some x => H e = some (.tup [.str "apart", .int x])
def spAlikeG : Sp := fun vs H Q _ => ∃ (v : V) (t : Tr) (a b : Addr) (ns ms : List Int), vs = [v, .ref a, .ref b] ∧ TrAt H v t ∧ t.size ≤ 300 ∧ H a = some (.lst (ns.map V.int)) ∧ ns.length = t.size ∧ H b = some (.lst (ms.map V.int)) ∧ ms.length = t.size ∧
  ∀ (H' : Hp) (e : Addr) (o : Option Int), Same H H' → H e = none → TellAt H' e o → Alike (valAt ns) (valAt ms) t o → Q (.ref e) H'
end
end HSP
namespace HSP
open PySem PySem.Spec PyProof.Rows L2
/-! ### allowed, all_allowed -/
theorem alw_dead {b : Option (Option Int × Option Int)} {x : Int} (h : lbOf b x = .dead) : alw b x = (none, none) := by unfold alw; rw [h]
theorem alw_found {b : Option (Option Int × Option Int)} {x : Int} (h : lbOf b x = .found) : alw b x = (some x, some x) := by unfold alw; rw [h]
theorem alw_low {b : Option (Option Int × Option Int)} {x : Int} (h : lbOf b x = .low) : alw b x = (none, b.bind (·.1)) := by unfold alw; rw [h]
theorem alw_high {b : Option (Option Int × Option Int)} {x : Int} (h : lbOf b x = .high) : alw b x = (b.bind (·.2), none) := by unfold alw; rw [h]
section
variable {P : Program} {w : World} {K : PySem.W.Frag} {mg : Str → Option Value} {base : Heap}
theorem sc_allowed : FnScope n_allowed ["bounds", "value"] (defScope s_allowed) := ⟨rfl, rfl, rfl, by decide +kernel, rfl, by decide +kernel, by decide +kernel⟩
def spAllowed : Sp := fun vs H Q _ => ∃ (v : V) (b : Option (Option Int × Option Int)) (x : Int), vs = [v, .int x] ∧ BndAt H v b ∧ ∀ (T : Addr), H T = none → Q (.ref T) (upd H T (.tup [optV (alw b x).1, optV (alw b x).2]))
theorem ok_allowed (La : Df P w K mg base "label_of" 1 ["bounds", "value"] spLabel) (a : At K mg "allowed" s_allowed) : Df P w K mg base "allowed" 2 ["bounds", "value"] spAllowed := by
  refine Df.mk' a sc_allowed (fun vs H Q E h => ?_) (fun _ _ _ _ _ _ us hl => match us, hl with | [_, _], _ => rfl) (fun f cdv A outer s H vs Q E hr h => ?_)
  · obtain ⟨v, b, x, rfl, _⟩ := h
    rfl
  obtain ⟨v, b, x, rfl, hb, q⟩ := h
  refine ⟨_, (pss_cons (ps_set (i := 2) sc_allowed.nd rfl (.inl rfl) (pe_df La hr (pa_cons (pv 0) (pa_cons (pv 1) pa_nil))))
 (pss_cons (ps_if (pt_cmpR op_eq (pv 2) pe_str (nomark _)) (pss_one (ps_ret (pe_tup (pa_cons (pv 1) (pa_cons (pv 1) pa_nil))))) pss_nil)
 (pss_cons (ps_if (pt_cmpR op_eq (pv 2) pe_str (nomark _)) (pss_one (ps_ret (pe_tup (pa_cons pe_non (pa_cons (pe_ix ix_tup (pv 0) pe_int (fun _ _ => rfl)) pa_nil))))) pss_nil)
 (pss_cons (ps_if (pt_cmpR op_eq (pv 2) pe_str (nomark _)) (pss_one (ps_ret (pe_tup (pa_cons (pe_ix ix_tup (pv 0) pe_int (fun _ _ => rfl)) (pa_cons pe_non pa_nil))))) pss_nil)
 (pss_one (ps_ret (pe_tup (pa_cons pe_non (pa_cons pe_non pa_nil))))))))), ?_⟩
  refine ⟨v, rfl, _, rfl, v, b, x, rfl, hb, ?_⟩
  have sz : 2 ≤ sizeLine := by show 2 ≤ sizeLine; decide
  cases e : lbOf b x with
  | found =>
    rw [alw_found e] at q
    exact ⟨_, rfl, rfl, _, rfl, ite_yes rfl ⟨_, rfl, _, rfl, sz, fun T hT => q T hT⟩⟩
  | dead =>
    rw [alw_dead e] at q
    refine ⟨_, rfl, rfl, _, rfl, ite_no (by decide +kernel) ⟨_, rfl, rfl, _, rfl, ite_no (by decide +kernel) ⟨_, rfl, rfl, _, rfl, ite_no (by decide +kernel) ⟨sz, fun T hT => q T hT⟩⟩⟩⟩
  | low =>
    rw [alw_low e] at q
    refine ⟨_, rfl, rfl, _, rfl, ite_no (by decide +kernel) ⟨_, rfl, rfl, _, rfl, ite_yes rfl ?_⟩⟩
    match b, hb, e, q with
    | some (lo, hi), ⟨e, e1, e2⟩, _, q =>
      subst e1
      exact ⟨_, rfl, e, _, _, _, rfl, rfl, .of e2, atI_nat (xs := [optV lo, optV hi]) (j := 0) rfl, sz, fun T hT => q T hT⟩
  | high =>
    rw [alw_high e] at q
    refine ⟨_, rfl, rfl, _, rfl, ite_no (by decide +kernel) ⟨_, rfl, rfl, _, rfl, ite_no (by decide +kernel) ⟨_, rfl, rfl, _, rfl, ite_yes rfl ?_⟩⟩⟩
    match b, hb, e, q with
    | some (lo, hi), ⟨e, e1, e2⟩, _, q =>
      subst e1
      exact ⟨_, rfl, e, _, _, _, rfl, rfl, .of e2, atI_nat (xs := [optV lo, optV hi]) (j := 1) rfl, sz, fun T hT => q T hT⟩
theorem sc_allAllowed : FnScope n_all_allowed ["tree", "values"] (defScope s_all_allowed) := ⟨rfl, rfl, rfl, by decide +kernel, rfl, by decide +kernel, by decide +kernel⟩
def AlwAt (H : Hp) (q : Addr) (g : Nat → Int) (t : Tr) (n : Nat) : Prop := ∃ tups : List Addr, H q = some (.lst (tups.map V.ref)) ∧ tups.length = n ∧ ∀ i T, tups[i]? = some T → H T = some (.tup [optV (alwAt g t i).1, optV (alwAt g t i).2])
theorem AlwAt.same {H H' : Hp} {q : Addr} {g : Nat → Int} {t : Tr} {n : Nat} (h : AlwAt H q g t n) (s : Same H H') : AlwAt H' q g t n := by
  obtain ⟨tups, e, l, p⟩ := h
  exact ⟨tups, s _ _ e, l, fun i T h => s _ _ (p i T h)⟩
def spAllAllowed : Sp := fun vs H Q _ => ∃ (v : V) (t : Tr) (a : Addr) (ns : List Int), vs = [v, .ref a] ∧ TrAt H v t ∧ t.size ≤ 300 ∧ H a = some (.lst (ns.map V.int)) ∧ ns.length = t.size ∧ ∀ (H' : Hp) (q : Addr), Same H H' → H q = none → AlwAt H' q (valAt ns) t t.size → Q (.ref q) H'
theorem ok_allAllowed (B : Bl mg) (Pa : Df P w K mg base "paths_of" 3 ["tree"] spPaths) (Bo : Df P w K mg base "bounds_below" 1 ["values", "above"] spBounds) (Al : Df P w K mg base "allowed" 2 ["bounds", "value"] spAllowed) (a : At K mg "all_allowed" s_all_allowed) :
    Df P w K mg base "all_allowed" 4 ["tree", "values"] spAllAllowed := by
  refine Df.mk' a sc_allAllowed (fun vs H Q E h => ?_) (fun _ _ _ _ _ _ us hl => match us, hl with | [_, _], _ => rfl) (fun f cdv A outer s H vs Q E hr h => ?_)
  · obtain ⟨v, t, a, ns, rfl, _⟩ := h
    rfl
  obtain ⟨v, t, a, ns, rfl, ht, hz, ha, hn, q⟩ := h
  refine ⟨_, (pss_one (ps_ret (pe_lc (own := [("above", 2), ("value", 3)]) (g := (gTup K 2 (gCons (gName 2) (gCons (gName 3) gNil)))) (tt := tYes) (by rfl) sc_allAllowed.nd (pi_zip (by rfl) B.zip (pa_cons (pe_df Pa hr (pa_cons (pv 0) pa_nil)) (pa_cons (pv 1) pa_nil))) (blkOk_by (N := n_all_allowed) (sc := defScope s_all_allowed) (by decide +kernel)) (fun _ _ _ _ _ => (pg_tup rfl (pgs_cons (pg_name (i := 2) sc_allAllowed.nd rfl (.inl rfl)) (pgs_cons (pg_name (i := 3) sc_allAllowed.nd rfl (.inl rfl)) pgs_nil)))) (fun _ _ _ _ _ => pts_nil) (fun _ _ _ _ _ => (pe_df Al (hr.mono (by decide)) (pa_cons (pe_df Bo (hr.mono (by decide)) (pa_cons (pv 1) (pa_cons (pv 2) pa_nil))) (pa_cons (pv 3) pa_nil))))))), ?_⟩
  refine ⟨v, rfl, v, t, rfl, ht, hz, fun H1 q0 s1 _ ⟨rows, er, lr, hp⟩ => ?_⟩
  refine ⟨_, rfl, q0, a, _, _, rfl, .of er, .of (s1 _ _ ha), fun D hD => ?_⟩
  have many : t.size = min (rows.map V.ref).length (ns.map V.int).length := by
    rw [List.length_map, List.length_map]
    omega
  refine lc_it (walk_zip (K := K) (a := q0) (b := a) (xs := rows.map V.ref) (ys := ns.map V.int) many) (fun i H' => Same H1 H' ∧ ∃ tups : List Addr, H' D = some (.lst (tups.map V.ref)) ∧ tups.length = i ∧ ∀ j T, tups[j]? = some T → T ≠ D ∧ H' T = some (.tup [optV (alwAt (valAt ns) t j).1, optV (alwAt (valAt ns) t j).2])) ⟨Same.new hD, [], upd_same, rfl, fun j T h => by cases h⟩ (fun i H3 _ h3 => ⟨.of (h3.1 _ _ er), .of (h3.1 _ _ (s1 _ _ ha))⟩) (fun i x H3 H4 hi h3 hy => ?_) (fun H3 h3 => ?_)
  · obtain ⟨s3, tups, e3, l3, p3⟩ := h3
    obtain ⟨T, x1, x2, rfl, nT, rfl, g1, g2⟩ := hy
    have i1 : i < rows.length := by omega
    have i2 : i < ns.length := by omega
    have w1 : (rows.map V.ref)[i]? = some (.ref rows[i]) := by rw [List.getElem?_map, List.getElem?_eq_getElem i1]; rfl
    cases w1.symm.trans g1
    cases (valAt_get i2).symm.trans g2
    have sT := Same.new (o := .tup [V.ref rows[i], V.int (valAt ns i)]) nT
    have pa := hp i rows[i] (List.getElem?_eq_getElem i1)
    refine ⟨T, _, rfl, .of upd_same, rfl, _, _, rfl, _, [], rfl, rfl, rfl, ?_⟩
    refine ⟨_, rfl, _, rfl, a, rows[i], ns, pOf t 0 i, rfl, sT _ _ (s3 _ _ (s1 _ _ ha)), (pa.same s3).same sT, ?_, fun z hz2 => ?_, fun H5 vb s5 hb => ?_⟩
    · have := pOf_len t 0 i
      omega
    · have := pOf_in t 0 i z hz2
      omega
    · refine ⟨_, rfl, vb, _, _, rfl, hb, fun U hU => ?_⟩
      have s35 := sT.trans s5
      have sU := Same.new (o := .tup [optV (alw (bndOf (valAt ns) (pOf t 0 i)) (valAt ns i)).1, optV (alw (bndOf (valAt ns) (pOf t 0 i)) (valAt ns i)).2]) hU
      have s36 := s35.trans sU
      have e5 := s36 _ _ e3
      have nUD : U ≠ D := fun z => by rw [z, s35 _ _ e3] at hU; cases hU
      refine ⟨_, e5, ?_, ?_⟩
      · rw [List.length_map]
        exact small1000 (by omega)
      refine ⟨fun b o e => ?_, tups ++ [U], ?_, ?_, fun j T' hT' => ?_⟩
      · rw [upd_ne (ne_of_none e hD)]
        exact s36 _ _ (s3 _ _ e)
      · rw [upd_same, List.map_append]
        rfl
      · rw [List.length_append, List.length_singleton, l3]
      · by_cases c : j < tups.length
        · rw [List.getElem?_append_left c] at hT'
          obtain ⟨n1, n2⟩ := p3 j T' hT'
          exact ⟨n1, by rw [upd_ne n1]; exact s36 _ _ n2⟩
        · have cj := (List.getElem?_eq_some_iff.mp hT').1
          rw [List.length_append, List.length_singleton] at cj
          have ej : j = i := by omega
          subst ej
          rw [List.getElem?_append_right (by omega), show j - tups.length = 0 by omega] at hT'
          cases (show some U = some T' from hT')
          exact ⟨nUD, by rw [upd_ne nUD]; exact upd_same⟩
  · obtain ⟨s3, tups, e3, l3, p3⟩ := h3
    exact q H3 D (s1.trans s3) (s1.free hD) ⟨tups, e3, l3, fun j T h => (p3 j T h).2⟩
end
end HSP
namespace HSP
open PySem PySem.Spec PyProof.Rows L2
/-- a value between two bounds that may be wanting -/
def loFit : Option Int → Int → Bool
  | none, _ => true
  | some l, x => decide (l ≤ x)
def hiFit : Option Int → Int → Bool
  | none, _ => true
  | some h, x => decide (x ≤ h)
def fitsOf (x : Int) (b : Option Int × Option Int) : Bool := loFit b.1 x && hiFit b.2 x
section
variable {P : Program} {w : World} {K : PySem.W.Frag} {mg : Str → Option Value} {base : Heap}
/-! ### fits, breaking -/
def spFits : Sp := fun vs H Q _ => ∃ (x : Int) (lo hi : Option Int), vs = [.int x, optV lo, optV hi] ∧ Q (.bl (fitsOf x (lo, hi))) H
/-- the nodes whose own value breaks a list -/
def brkOf (g x : Nat → Int) (t : Tr) (n : Nat) : List Nat := (List.range n).filter fun i => !fitsOf (x i) (alwAt g t i)
def spBrk : Sp := fun vs H Q _ => ∃ (v : V) (t : Tr) (a b : Addr) (ns ms : List Int), vs = [v, .ref a, .ref b] ∧ TrAt H v t ∧ t.size ≤ 300 ∧ H a = some (.lst (ns.map V.int)) ∧ ns.length = t.size ∧ H b = some (.lst (ms.map V.int)) ∧ ms.length = t.size ∧
  ∀ (H' : Hp) (e : Addr), Same H H' → H e = none → H' e = some (.lst ((brkOf (valAt ms) (valAt ns) t t.size).map natV)) → Q (.ref e) H'
end
end HSP
namespace HSP
open PySem PySem.Spec PyProof.Rows L2
def omax : Option Int → Option Int → Option Int
  | none, b => b
  | some a, none => some a
  | some a, some b => some (max a b)
def omin : Option Int → Option Int → Option Int
  | none, b => b
  | some a, none => some a
  | some a, some b => some (min a b)
theorem st_dead (g : Nat → Int) (c : Int) : ∀ p : List (Nat × Bool), stOf g (some c) (some c) p = (some c, some c)
  | [] => rfl
  | (n, b) :: r => by
    have e : clamp (some c) (some c) (g n) = c := by
      show (if g n ≤ c then c else if g n ≥ c then c else g n) = c
      split
      · rfl
      · split
        · rfl
        · omega
    cases b with
    | true =>
      show stOf g (some (clamp (some c) (some c) (g n))) (some c) r = _
      rw [e]
      exact st_dead g c r
    | false =>
      show stOf g (some c) (some (clamp (some c) (some c) (g n))) r = _
      rw [e]
      exact st_dead g c r
theorem low_cons (g : Nat → Int) (n : Nat) (r : List (Nat × Bool)) (lo : Option Int) : omax lo (lowOf g ((n, true) :: r)) = omax (omax lo (some (g n))) (lowOf g r) := by
  have e : lowOf g ((n, true) :: r) = match lowOf g r with | none => some (g n) | some m => some (max (g n) m) := rfl
  rw [e]
  cases lo <;> cases lowOf g r
  · rfl
  · rfl
  · rfl
  · exact congrArg some (Int.max_assoc _ _ _).symm
theorem high_cons (g : Nat → Int) (n : Nat) (r : List (Nat × Bool)) (hi : Option Int) : omin hi (highOf g ((n, false) :: r)) = omin (omin hi (some (g n))) (highOf g r) := by
  have e : highOf g ((n, false) :: r) = match highOf g r with | none => some (g n) | some m => some (min (g n) m) := rfl
  rw [e]
  cases hi <;> cases highOf g r
  · rfl
  · rfl
  · rfl
  · exact congrArg some (Int.min_assoc _ _ _).symm
/-- bounds that leave room between them -/
def Room2 (lo hi : Option Int) : Prop := ∀ l h, lo = some l → hi = some h → l < h
/-- the bounds on a path: those of the values above, or one number for both -/
theorem st_bounds (g : Nat → Int) : ∀ (p : List (Nat × Bool)) (lo hi : Option Int), Room2 lo hi →
    (Room2 (omax lo (lowOf g p)) (omin hi (highOf g p)) ∧ stOf g lo hi p = (omax lo (lowOf g p), omin hi (highOf g p))) ∨ (¬ Room2 (omax lo (lowOf g p)) (omin hi (highOf g p)) ∧ ∃ c, stOf g lo hi p = (some c, some c))
  | [], lo, hi, s => by
    have e1 : omax lo (lowOf g []) = lo := by cases lo <;> rfl
    have e2 : omin hi (highOf g []) = hi := by cases hi <;> rfl
    rw [e1, e2]
    exact .inl ⟨s, rfl⟩
  | (n, true) :: r, lo, hi, s => by
    have eh : highOf g ((n, true) :: r) = highOf g r := rfl
    rw [low_cons, eh]
    have es : stOf g lo hi ((n, true) :: r) = stOf g (some (clamp lo hi (g n))) hi r := rfl
    rw [es]
    by_cases c : ∀ h, hi = some h → g n < h
    · have ec : some (clamp lo hi (g n)) = omax lo (some (g n)) := by
        cases lo with
        | none => cases hi with
          | none => rfl
          | some h =>
            have := c h rfl
            show some (if g n ≥ h then h else g n) = some (g n)
            rw [if_neg (by omega)]
        | some l => cases hi with
          | none =>
            show some (if g n ≤ l then l else g n) = some (max l (g n))
            congr 1
            split <;> omega
          | some h =>
            have := c h rfl
            have := s l h rfl rfl
            show some (if g n ≤ l then l else if g n ≥ h then h else g n) = some (max l (g n))
            congr 1
            split <;> (try split) <;> omega
      rw [ec]
      refine st_bounds g r _ hi fun l h e1 e2 => ?_
      have k := c h e2
      cases lo with
      | none => cases e1; exact k
      | some l0 =>
        have := s l0 h rfl e2
        have e1 : some (max l0 (g n)) = some l := e1
        have e1 := Option.some.inj e1
        omega
    · obtain ⟨h, eh2, k⟩ : ∃ h, hi = some h ∧ h ≤ g n := by
        cases hi with
        | none => exact absurd (fun h e => by cases e) c
        | some h => exact ⟨h, rfl, by by_cases q : g n < h; exact absurd (fun h' e => by cases e; exact q) c; omega⟩
      subst eh2
      have ec : clamp lo (some h) (g n) = h := by
        cases lo with
        | none =>
          show (if g n ≥ h then h else g n) = h
          rw [if_pos k]
        | some l =>
          have := s l h rfl rfl
          show (if g n ≤ l then l else if g n ≥ h then h else g n) = h
          rw [if_neg (by omega), if_pos k]
      rw [ec, st_dead]
      refine .inr ⟨fun q => ?_, h, rfl⟩
      obtain ⟨x, ex, hx⟩ : ∃ x, omax (omax lo (some (g n))) (lowOf g r) = some x ∧ g n ≤ x := by
        cases lo <;> cases lowOf g r
        · exact ⟨_, rfl, Int.le_refl _⟩
        · exact ⟨_, rfl, by omega⟩
        · exact ⟨_, rfl, by omega⟩
        · exact ⟨_, rfl, by omega⟩
      obtain ⟨y, ey, hy⟩ : ∃ y, omin (some h) (highOf g r) = some y ∧ y ≤ h := by
        cases highOf g r
        · exact ⟨_, rfl, Int.le_refl _⟩
        · exact ⟨_, rfl, by omega⟩
      have := q x y ex ey
      omega
  | (n, false) :: r, lo, hi, s => by
    have el : lowOf g ((n, false) :: r) = lowOf g r := rfl
    rw [high_cons, el]
    have es : stOf g lo hi ((n, false) :: r) = stOf g lo (some (clamp lo hi (g n))) r := rfl
    rw [es]
    by_cases c : ∀ l, lo = some l → l < g n
    · have ec : some (clamp lo hi (g n)) = omin hi (some (g n)) := by
        cases lo with
        | none => cases hi with
          | none => rfl
          | some h =>
            show some (if g n ≥ h then h else g n) = some (min h (g n))
            refine congrArg some ?_
            split <;> omega
        | some l => cases hi with
          | none =>
            have := c l rfl
            show some (if g n ≤ l then l else g n) = some (g n)
            rw [if_neg (by omega)]
          | some h =>
            have := c l rfl
            have := s l h rfl rfl
            show some (if g n ≤ l then l else if g n ≥ h then h else g n) = some (min h (g n))
            congr 1
            split <;> (try split) <;> omega
      rw [ec]
      refine st_bounds g r lo _ fun l h e1 e2 => ?_
      have k := c l e1
      cases hi with
      | none => cases e2; exact k
      | some h0 =>
        have := s l h0 e1 rfl
        have e2 : some (min h0 (g n)) = some h := e2
        have e2 := Option.some.inj e2
        omega
    · obtain ⟨l, el2, k⟩ : ∃ l, lo = some l ∧ g n ≤ l := by
        cases lo with
        | none => exact absurd (fun h e => by cases e) c
        | some l => exact ⟨l, rfl, by by_cases q : l < g n; exact absurd (fun h' e => by cases e; exact q) c; omega⟩
      subst el2
      have ec : clamp (some l) hi (g n) = l := by
        cases hi with
        | none =>
          show (if g n ≤ l then l else g n) = l
          rw [if_pos k]
        | some h =>
          show (if g n ≤ l then l else if g n ≥ h then h else g n) = l
          rw [if_pos k]
      rw [ec, st_dead]
      refine .inr ⟨fun q => ?_, l, rfl⟩
      obtain ⟨x, ex, hx⟩ : ∃ x, omax (some l) (lowOf g r) = some x ∧ l ≤ x := by
        cases lowOf g r
        · exact ⟨_, rfl, Int.le_refl _⟩
        · exact ⟨_, rfl, by omega⟩
      obtain ⟨y, ey, hy⟩ : ∃ y, omin (omin hi (some (g n))) (highOf g r) = some y ∧ y ≤ g n := by
        cases hi <;> cases highOf g r
        · exact ⟨_, rfl, Int.le_refl _⟩
        · exact ⟨_, rfl, by omega⟩
        · exact ⟨_, rfl, by omega⟩
        · exact ⟨_, rfl, by omega⟩
      have := q x y ex ey
      omega
/-- what fits is held at the same bound -/
theorem fits_clamp {g : Nat → Int} {t : Tr} {i : Nat} {x : Int} : fitsOf x (alwAt g t i) = true ↔ clamp (stOf g none none (pOf t 0 i)).1 (stOf g none none (pOf t 0 i)).2 x = clamp (stOf g none none (pOf t 0 i)).1 (stOf g none none (pOf t 0 i)).2 (g i) := by
  have ea : alwAt g t i = alw (bndOf g (pOf t 0 i)) (g i) := rfl
  rw [ea]
  generalize pOf t 0 i = p
  generalize g i = v
  rcases st_bounds g p none none (fun l h e => by cases e) with ⟨rm, e⟩ | ⟨no, c, e⟩
  · have e1 : omax none (lowOf g p) = lowOf g p := rfl
    have e2 : omin none (highOf g p) = highOf g p := rfl
    rw [e1, e2] at rm e
    rw [e]
    have eb : bndOf g p = some (lowOf g p, highOf g p) := by
      unfold bndOf
      cases el : lowOf g p with
      | none => rfl
      | some a => cases eh : highOf g p with
        | none => rfl
        | some b =>
          have := rm a b el eh
          show (if a ≥ b then none else some (some a, some b)) = _
          rw [if_neg (by omega)]
    rw [eb]
    generalize lowOf g p = lo at rm
    generalize highOf g p = hi at rm
    cases lo with
    | none => cases hi with
      | none =>
        show (decide (v ≤ x) && decide (x ≤ v)) = true ↔ x = v
        rw [Bool.and_eq_true, decide_eq_true_iff, decide_eq_true_iff]
        omega
      | some h =>
        unfold alw lbOf
        show fitsOf x (match (if v ≥ h then Lb.high else .found) with | .dead => (none, none) | .found => (some v, some v) | .low => (none, none) | .high => (some h, none)) = true ↔ (if x ≥ h then h else x) = if v ≥ h then h else v
        by_cases c : v ≥ h
        · rw [if_pos c, if_pos c]
          show (decide (h ≤ x) && true) = true ↔ _
          rw [Bool.and_true, decide_eq_true_iff]
          split <;> omega
        · rw [if_neg c, if_neg c]
          show (decide (v ≤ x) && decide (x ≤ v)) = true ↔ _
          rw [Bool.and_eq_true, decide_eq_true_iff, decide_eq_true_iff]
          split <;> omega
    | some l => cases hi with
      | none =>
        unfold alw lbOf
        show fitsOf x (match (if v ≤ l then Lb.low else .found) with | .dead => (none, none) | .found => (some v, some v) | .low => (none, some l) | .high => (none, none)) = true ↔ (if x ≤ l then l else x) = if v ≤ l then l else v
        by_cases c : v ≤ l
        · rw [if_pos c, if_pos c]
          show (true && decide (x ≤ l)) = true ↔ _
          rw [Bool.true_and, decide_eq_true_iff]
          split <;> omega
        · rw [if_neg c, if_neg c]
          show (decide (v ≤ x) && decide (x ≤ v)) = true ↔ _
          rw [Bool.and_eq_true, decide_eq_true_iff, decide_eq_true_iff]
          split <;> omega
      | some h =>
        have lh := rm l h rfl rfl
        unfold alw lbOf
        show fitsOf x (match (if v ≤ l then Lb.low else if v ≥ h then .high else .found) with | .dead => (none, none) | .found => (some v, some v) | .low => (none, some l) | .high => (some h, none)) = true ↔ (if x ≤ l then l else if x ≥ h then h else x) = if v ≤ l then l else if v ≥ h then h else v
        by_cases c : v ≤ l
        · rw [if_pos c, if_pos c]
          show (true && decide (x ≤ l)) = true ↔ _
          rw [Bool.true_and, decide_eq_true_iff]
          split <;> (try split) <;> omega
        · rw [if_neg c, if_neg c]
          by_cases d : v ≥ h
          · rw [if_pos d, if_pos d]
            show (decide (h ≤ x) && true) = true ↔ _
            rw [Bool.and_true, decide_eq_true_iff]
            split <;> (try split) <;> omega
          · rw [if_neg d, if_neg d]
            show (decide (v ≤ x) && decide (x ≤ v)) = true ↔ _
            rw [Bool.and_eq_true, decide_eq_true_iff, decide_eq_true_iff]
            split <;> (try split) <;> omega
  · rw [e]
    have both : ∀ y : Int, clamp (some c) (some c) y = c := fun y => by
      show (if y ≤ c then c else if y ≥ c then c else y) = c
      split
      · rfl
      · split
        · rfl
        · omega
    rw [both, both]
    have eb : bndOf g p = none := by
      unfold bndOf
      have e1 : omax none (lowOf g p) = lowOf g p := rfl
      have e2 : omin none (highOf g p) = highOf g p := rfl
      rw [e1, e2] at no
      cases el : lowOf g p with
      | none => exact absurd (fun l h e => by rw [el] at e; cases e) no
      | some a => cases eh : highOf g p with
        | none => exact absurd (fun l h _ e => by rw [eh] at e; cases e) no
        | some b =>
          show (if a ≥ b then none else some (some a, some b)) = none
          by_cases q : a ≥ b
          · rw [if_pos q]
          · exact absurd (fun l h e1 e2 => by rw [el] at e1; rw [eh] at e2; cases e1; cases e2; omega) no
    rw [eb]
    exact ⟨fun _ => rfl, fun _ => rfl⟩
end HSP
namespace HSP
open PySem PySem.Spec PyProof.Rows L2
/-! ## equal representatives, equal labels -/
theorem st_rep {g g' : Nat → Int} {i : Nat} : ∀ (t : Tr) (f : Nat) (lo hi : Option Int), repOf g' t f lo hi = repOf g t f lo hi → stOf g' lo hi (pOf t f i) = stOf g lo hi (pOf t f i)
  | .nil, _, _, _, _ => rfl
  | .nod l r, f, lo, hi, h => by
    rw [repOf_nod, repOf_nod] at h
    have l1 := repOf_len g' l f lo (some (clamp lo hi (g' (f + l.size))))
    have l2 := repOf_len g l f lo (some (clamp lo hi (g (f + l.size))))
    obtain ⟨h1, h2⟩ := List.append_inj h (by rw [l1, l2])
    obtain ⟨e, h3⟩ := List.cons.inj h2
    rw [e] at h1 h3
    rw [pOf_nod]
    by_cases c : i = f + l.size
    · rw [if_pos c]
      rfl
    · rw [if_neg c]
      by_cases d : i < f + l.size
      · rw [if_pos d]
        show stOf g' lo (some (clamp lo hi (g' (f + l.size)))) (pOf l f i) = stOf g lo (some (clamp lo hi (g (f + l.size)))) (pOf l f i)
        rw [e]
        exact st_rep l f lo _ h1
      · rw [if_neg d]
        show stOf g' (some (clamp lo hi (g' (f + l.size)))) hi (pOf r (f + l.size + 1) i) = stOf g (some (clamp lo hi (g (f + l.size)))) hi (pOf r (f + l.size + 1) i)
        rw [e]
        exact st_rep r (f + l.size + 1) _ hi h3
/-- the label, told by the bounds and the value of the representative -/
def labSt : Option Int × Option Int → Int → Lb
  | (none, none), _ => .found
  | (some l, none), r => if r = l then .low else .found
  | (none, some h), r => if r = h then .high else .found
  | (some l, some h), r => if l ≥ h then .dead else if r = l then .low else if r = h then .high else .found
theorem lab_st (g : Nat → Int) (t : Tr) (i : Nat) : labAt g t i = labSt (stOf g none none (pOf t 0 i)) (clamp (stOf g none none (pOf t 0 i)).1 (stOf g none none (pOf t 0 i)).2 (g i)) := by
  have ea : labAt g t i = lbOf (bndOf g (pOf t 0 i)) (g i) := rfl
  rw [ea]
  generalize pOf t 0 i = p
  generalize g i = v
  have e1 : omax none (lowOf g p) = lowOf g p := rfl
  have e2 : omin none (highOf g p) = highOf g p := rfl
  rcases st_bounds g p none none (fun l h e => by cases e) with ⟨rm, e⟩ | ⟨no, c, e⟩
  · rw [e1, e2] at rm e
    rw [e]
    have eb : bndOf g p = some (lowOf g p, highOf g p) := by
      unfold bndOf
      cases el : lowOf g p with
      | none => rfl
      | some a => cases eh : highOf g p with
        | none => rfl
        | some b =>
          have := rm a b el eh
          show (if a ≥ b then none else some (some a, some b)) = _
          rw [if_neg (by omega)]
    rw [eb]
    generalize lowOf g p = lo at rm
    generalize highOf g p = hi at rm
    cases lo with
    | none => cases hi with
      | none => rfl
      | some h =>
        show (if v ≥ h then Lb.high else .found) = if (if v ≥ h then h else v) = h then .high else .found
        by_cases c : v ≥ h
        · rw [if_pos c, if_pos c, if_pos rfl]
        · rw [if_neg c, if_neg c, if_neg (by omega)]
    | some l => cases hi with
      | none =>
        show (if v ≤ l then Lb.low else .found) = if (if v ≤ l then l else v) = l then .low else .found
        by_cases c : v ≤ l
        · rw [if_pos c, if_pos c, if_pos rfl]
        · rw [if_neg c, if_neg c, if_neg (by omega)]
      | some h =>
        have lh := rm l h rfl rfl
        show (if v ≤ l then Lb.low else if v ≥ h then .high else .found) = if l ≥ h then .dead else if (if v ≤ l then l else if v ≥ h then h else v) = l then .low else if (if v ≤ l then l else if v ≥ h then h else v) = h then .high else .found
        rw [if_neg (show ¬ l ≥ h by omega)]
        by_cases c : v ≤ l
        · rw [if_pos c, if_pos c, if_pos rfl]
        · rw [if_neg c, if_neg c]
          by_cases d : v ≥ h
          · rw [if_pos d, if_pos d, if_neg (by omega), if_pos rfl]
          · rw [if_neg d, if_neg d, if_neg (by omega), if_neg (by omega)]
  · rw [e]
    have eb : bndOf g p = none := by
      unfold bndOf
      rw [e1, e2] at no
      cases el : lowOf g p with
      | none => exact absurd (fun l h e => by rw [el] at e; cases e) no
      | some a => cases eh : highOf g p with
        | none => exact absurd (fun l h _ e => by rw [eh] at e; cases e) no
        | some b =>
          show (if a ≥ b then none else some (some a, some b)) = none
          by_cases q : a ≥ b
          · rw [if_pos q]
          · exact absurd (fun l h e1 e2 => by rw [el] at e1; rw [eh] at e2; cases e1; cases e2; omega) no
    rw [eb]
    show Lb.dead = if c ≥ c then .dead else _
    rw [if_pos (Int.le_refl c)]
/-- lists that act alike have the same labels -/
theorem lab_same {g g' : Nat → Int} {t : Tr} (h : repOf g' t 0 none none = repOf g t 0 none none) {i : Nat} (hi : i < t.size) : labAt g' t i = labAt g t i := by
  have h1 := repOf_at g t 0 none none i (Nat.zero_le _) (by omega)
  have h2 := repOf_at g' t 0 none none i (Nat.zero_le _) (by omega)
  rw [h, h1] at h2
  have e := Option.some.inj h2
  rw [lab_st, lab_st, ← e, st_rep t 0 none none h]
end HSP
namespace HSP
open PySem PySem.Spec PyProof.Rows L2
/-! ## trees of halving, trees put together -/
/-- the tree of halving, to so many levels -/
def halv : Nat → Nat → Tr
  | 0, _ => .nil
  | _ + 1, 0 => .nil
  | k + 1, m + 1 => .nod (halv k ((m + 1) / 2)) (halv k (m + 1 - (m + 1) / 2 - 1))
theorem half_lt {k m : Nat} (h : m + 1 < 2 ^ (k + 1)) : (m + 1) / 2 < 2 ^ k ∧ m + 1 - (m + 1) / 2 - 1 < 2 ^ k := by
  have e : 2 ^ (k + 1) = 2 ^ k * 2 := Nat.pow_succ 2 k
  omega
theorem halv_size : ∀ (k m : Nat), m < 2 ^ k → (halv (k + 1) m).size = m
  | _, 0, _ => rfl
  | 0, m + 1, h => by
    have e : 2 ^ 0 = 1 := rfl
    omega
  | k + 1, m + 1, h => by
    obtain ⟨h1, h2⟩ := half_lt h
    show (halv (k + 1) ((m + 1) / 2)).size + 1 + (halv (k + 1) (m + 1 - (m + 1) / 2 - 1)).size = m + 1
    rw [halv_size k _ h1, halv_size k _ h2]
    omega
theorem halv_ht : ∀ (k m : Nat), (halv k m).ht ≤ k
  | 0, _ => Nat.le_refl _
  | _ + 1, 0 => Nat.zero_le _
  | k + 1, m + 1 => by
    have h1 := halv_ht k ((m + 1) / 2)
    have h2 := halv_ht k (m + 1 - (m + 1) / 2 - 1)
    show max (halv k ((m + 1) / 2)).ht (halv k (m + 1 - (m + 1) / 2 - 1)).ht + 1 ≤ k + 1
    omega
/-- the trees, with a node between each two -/
def joinT : Nat → List Tr → Tr
  | 0, _ => .nil
  | n + 1, ts => if ts.length = 1 then ts.headD .nil else .nod (joinT n (ts.take (ts.length / 2))) (joinT n (ts.drop (ts.length / 2)))
/-- how many nodes that makes -/
def wide : List Tr → Nat
  | [] => 0
  | [t] => t.size
  | t :: r => t.size + 1 + wide r
theorem wide_app : ∀ (a b : List Tr), a ≠ [] → b ≠ [] → wide (a ++ b) = wide a + 1 + wide b
  | [], _, h, _ => absurd rfl h
  | [t], [], _, h => absurd rfl h
  | [t], u :: r, _, _ => rfl
  | t :: u :: r, b, _, hb => by
    have ih := wide_app (u :: r) b (by simp) hb
    show t.size + 1 + wide ((u :: r) ++ b) = t.size + 1 + wide (u :: r) + 1 + wide b
    rw [ih]
    omega
theorem take_ne {α : Type} {l : List α} (h : 2 ≤ l.length) : l.take (l.length / 2) ≠ [] := fun z => by
  have := congrArg List.length z
  rw [List.length_take, List.length_nil] at this
  omega
theorem drop_ne {α : Type} {l : List α} (h : 2 ≤ l.length) : l.drop (l.length / 2) ≠ [] := fun z => by
  have := congrArg List.length z
  rw [List.length_drop, List.length_nil] at this
  omega
theorem half_len {n : Nat} {α : Type} {l : List α} (h : l.length ≤ 2 ^ (n + 1)) : (l.take (l.length / 2)).length ≤ 2 ^ n ∧ (l.drop (l.length / 2)).length ≤ 2 ^ n := by
  have e : 2 ^ (n + 1) = 2 ^ n * 2 := Nat.pow_succ 2 n
  rw [List.length_take, List.length_drop]
  omega
theorem one_list {α : Type} {l : List α} (h : l ≠ []) (h2 : l.length ≤ 2 ^ 0) : ∃ t, l = [t] := by
  match l, h, h2 with
  | [], h, _ => exact absurd rfl h
  | [t], _, _ => exact ⟨t, rfl⟩
  | _ :: _ :: r, _, h2 =>
    have e : 2 ^ 0 = 1 := rfl
    rw [List.length_cons, List.length_cons] at h2
    omega
/-- what joinT makes, by halves -/
theorem join_ind {P : Nat → List Tr → Tr → Prop} (h1 : ∀ n t, P (n + 1) [t] t) (h2 : ∀ n a b x y, a ≠ [] → b ≠ [] → P n a x → P n b y → P (n + 1) (a ++ b) (.nod x y)) : ∀ (n : Nat) (ts : List Tr), ts ≠ [] → ts.length ≤ 2 ^ n → P (n + 1) ts (joinT (n + 1) ts)
  | 0, ts, hne, hl => by
    obtain ⟨t, rfl⟩ := one_list hne hl
    exact h1 0 t
  | n + 1, ts, hne, hl => by
    by_cases c : ts.length = 1
    · obtain ⟨t, rfl⟩ := one_list hne (Nat.le_of_eq c)
      exact h1 (n + 1) t
    · have c2 : 2 ≤ ts.length := by
        cases ts with
        | nil => exact absurd rfl hne
        | cons a r =>
          rw [List.length_cons] at c ⊢
          omega
      obtain ⟨l1, l2⟩ := half_len hl
      have a := join_ind h1 h2 n (ts.take (ts.length / 2)) (take_ne c2) l1
      have b := join_ind h1 h2 n (ts.drop (ts.length / 2)) (drop_ne c2) l2
      have z := h2 (n + 1) _ _ _ _ (take_ne c2) (drop_ne c2) a b
      rw [List.take_append_drop] at z
      show P (n + 1 + 1) ts (if ts.length = 1 then ts.headD .nil else .nod (joinT (n + 1) (ts.take (ts.length / 2))) (joinT (n + 1) (ts.drop (ts.length / 2))))
      rw [if_neg c]
      exact z
theorem join_size (n : Nat) (ts : List Tr) (h : ts ≠ []) (hl : ts.length ≤ 2 ^ n) : (joinT (n + 1) ts).size = wide ts :=
  join_ind (P := fun _ ts t => t.size = wide ts) (fun _ _ => rfl) (fun n a b x y ha hb e1 e2 => by
    show x.size + 1 + y.size = wide (a ++ b)
    rw [wide_app a b ha hb, e1, e2]) n ts h hl
theorem join_ht (m : Nat) (n : Nat) (ts : List Tr) (h : ts ≠ []) (hl : ts.length ≤ 2 ^ n) (hm : ∀ t, t ∈ ts → t.ht ≤ m) : (joinT (n + 1) ts).ht ≤ n + m := by
  have z := join_ind (P := fun k ts t => (∀ u, u ∈ ts → u.ht ≤ m) → t.ht + 1 ≤ k + m) (fun n t hm => by
    have := hm t (List.mem_singleton.mpr rfl)
    omega) (fun n a b x y ha hb e1 e2 hm => by
    have h1 := e1 fun u hu => hm u (List.mem_append_left _ hu)
    have h2 := e2 fun u hu => hm u (List.mem_append_right _ hu)
    show max x.ht y.ht + 1 + 1 ≤ n + 1 + m
    omega) n ts h hl hm
  omega
end HSP
namespace HSP
open PySem PySem.Spec PyProof.Rows L2
/-! ## goals of a list -/
structure GoalOk (g r : Nat → Int) (n : Nat) : Prop where
  up : ∀ i, i + 1 < n → r i ≤ r (i + 1)
  st : ∀ i, i < n → (i = 0 ∨ r (i - 1) ≠ r i) → r i ≤ g i
  en : ∀ i, i < n → (i + 1 = n ∨ r (i + 1) ≠ r i) → g i ≤ r i
  ex : ∀ i, i < n → ∃ j, j < n ∧ r j = r i ∧ g j = r i
theorem clamp_ge {lo hi : Option Int} {v : Int} (s : Straight lo hi) (h : lo ≠ some (clamp lo hi v)) : clamp lo hi v ≤ v := by
  cases lo with
  | none => cases hi with
    | none => exact Int.le_refl _
    | some b =>
      show (if v ≥ b then b else v) ≤ v
      split <;> omega
  | some a => cases hi with
    | none =>
      have e : clamp (some a) none v = if v ≤ a then a else v := rfl
      rw [e] at h ⊢
      by_cases c : v ≤ a
      · rw [if_pos c] at h
        exact absurd rfl h
      · rw [if_neg c]
        exact Int.le_refl _
    | some b =>
      have e : clamp (some a) (some b) v = if v ≤ a then a else if v ≥ b then b else v := rfl
      rw [e] at h ⊢
      by_cases c : v ≤ a
      · rw [if_pos c] at h
        exact absurd rfl h
      · rw [if_neg c]
        split <;> omega
theorem clamp_le {lo hi : Option Int} {v : Int} (s : Straight lo hi) (h : hi ≠ some (clamp lo hi v)) : v ≤ clamp lo hi v := by
  cases hi with
  | none => cases lo with
    | none => exact Int.le_refl _
    | some a =>
      show v ≤ if v ≤ a then a else v
      split <;> omega
  | some b => cases lo with
    | none =>
      have e : clamp none (some b) v = if v ≥ b then b else v := rfl
      rw [e] at h ⊢
      by_cases c : v ≥ b
      · rw [if_pos c] at h
        exact absurd rfl h
      · rw [if_neg c]
        exact Int.le_refl _
    | some a =>
      have e : clamp (some a) (some b) v = if v ≤ a then a else if v ≥ b then b else v := rfl
      have ab := s a b rfl rfl
      rw [e] at h ⊢
      by_cases c : v ≤ a
      · rw [if_pos c]
        exact c
      · rw [if_neg c] at h ⊢
        by_cases d : v ≥ b
        · rw [if_pos d] at h
          exact absurd rfl h
        · rw [if_neg d]
          exact Int.le_refl _
theorem get_app {α : Type} {a b : List α} {c : α} {i : Nat} : (a ++ c :: b)[i]? = if i < a.length then a[i]? else if i = a.length then some c else b[i - a.length - 1]? := by
  by_cases h : i < a.length
  · rw [if_pos h, List.getElem?_append_left h]
  · rw [if_neg h, List.getElem?_append_right (by omega)]
    by_cases e : i = a.length
    · rw [if_pos e, e, Nat.sub_self]
      rfl
    · rw [if_neg e, show i - a.length = (i - a.length - 1) + 1 by omega, List.getElem?_cons_succ]
      rfl
theorem up_get {l : List Int} (h : l.Pairwise (· ≤ ·)) {i j : Nat} {x y : Int} (hij : i < j) (hx : l[i]? = some x) (hy : l[j]? = some y) : x ≤ y := by
  obtain ⟨h1, e1⟩ := List.getElem?_eq_some_iff.mp hx
  obtain ⟨h2, e2⟩ := List.getElem?_eq_some_iff.mp hy
  rw [← e1, ← e2]
  exact List.pairwise_iff_getElem.mp h i j h1 h2 hij
/-- a block of the representative starts at a value that is not less, ends at one that is not greater, and holds an equal one -/
theorem rep_blocks {g : Nat → Int} : ∀ (t : Tr) (f : Nat) (lo hi : Option Int), Straight lo hi →
    (∀ (i : Nat) (v : Int), (repOf g t f lo hi)[i]? = some v → lo ≠ some v → (i = 0 ∨ (repOf g t f lo hi)[i - 1]? ≠ some v) → v ≤ g (f + i)) ∧
    (∀ (i : Nat) (v : Int), (repOf g t f lo hi)[i]? = some v → hi ≠ some v → (repOf g t f lo hi)[i + 1]? ≠ some v → g (f + i) ≤ v) ∧
    ∀ (i : Nat) (v : Int), (repOf g t f lo hi)[i]? = some v → lo ≠ some v → hi ≠ some v → ∃ j : Nat, (repOf g t f lo hi)[j]? = some v ∧ g (f + j) = v
  | .nil, f, lo, hi, _ => ⟨fun i v h => (by cases h), fun i v h => (by cases h), fun i v h => (by cases h)⟩
  | .nod l r, f, lo, hi, s => by
    obtain ⟨s1, s2⟩ := clamp_in s (g (f + l.size))
    obtain ⟨a1, a2, a3⟩ := rep_blocks (g := g) l f lo (some (clamp lo hi (g (f + l.size)))) s1
    obtain ⟨b1, b2, b3⟩ := rep_blocks (g := g) r (f + l.size + 1) (some (clamp lo hi (g (f + l.size)))) hi s2
    obtain ⟨u1, m1⟩ := rep_in (g := g) l f lo (some (clamp lo hi (g (f + l.size)))) s1
    obtain ⟨u2, m2⟩ := rep_in (g := g) r (f + l.size + 1) (some (clamp lo hi (g (f + l.size)))) hi s2
    have ge : lo ≠ some (clamp lo hi (g (f + l.size))) → clamp lo hi (g (f + l.size)) ≤ g (f + l.size) := clamp_ge s
    have le : hi ≠ some (clamp lo hi (g (f + l.size))) → g (f + l.size) ≤ clamp lo hi (g (f + l.size)) := clamp_le s
    have ll := repOf_len g l f lo (some (clamp lo hi (g (f + l.size))))
    rw [repOf_nod]
    generalize clamp lo hi (g (f + l.size)) = c at *
    generalize repOf g l f lo (some c) = Rl at *
    generalize repOf g r (f + l.size + 1) (some c) hi = Rr at *
    have lowR : ∀ {j : Nat} {v : Int}, Rr[j]? = some v → c ≤ v := fun h => (m2 _ (List.mem_of_getElem? h)).1 c rfl
    have highL : ∀ {j : Nat} {v : Int}, Rl[j]? = some v → v ≤ c := fun h => (m1 _ (List.mem_of_getElem? h)).2 c rfl
    refine ⟨fun i v h hlo st => ?_, fun i v h hhi en => ?_, fun i v h hlo hhi => ?_⟩
    · rw [get_app] at h
      by_cases c1 : i < Rl.length
      · rw [if_pos c1] at h
        refine a1 i v h hlo (st.imp id fun q => ?_)
        rw [get_app, if_pos (by omega)] at q
        exact q
      · rw [if_neg c1] at h
        by_cases c2 : i = Rl.length
        · rw [if_pos c2] at h
          cases h
          rw [c2, ll]
          exact ge hlo
        · rw [if_neg c2] at h
          have cv : c ≠ v := fun z => by
            rcases st with q | q
            · omega
            · rw [get_app, if_neg (by omega)] at q
              by_cases c3 : i - 1 = Rl.length
              · rw [if_pos c3] at q
                exact q (congrArg some z)
              · rw [if_neg c3] at q
                obtain ⟨y, hy⟩ : ∃ y, Rr[i - 1 - Rl.length - 1]? = some y := ⟨_, List.getElem?_eq_getElem (by have := (List.getElem?_eq_some_iff.mp h).1; omega)⟩
                have h1 := up_get u2 (show i - 1 - Rl.length - 1 < i - Rl.length - 1 by omega) hy h
                have h2 := lowR hy
                rw [hy] at q
                exact q (congrArg some (by omega))
          have z := b1 (i - Rl.length - 1) v h (fun z => cv (Option.some.inj z)) (by
            by_cases c3 : i - Rl.length - 1 = 0
            · exact .inl c3
            · refine .inr ?_
              rcases st with q | q
              · omega
              · rw [get_app, if_neg (by omega), if_neg (by omega)] at q
                rw [show i - Rl.length - 1 - 1 = i - 1 - Rl.length - 1 by omega]
                exact q)
          rw [show f + l.size + 1 + (i - Rl.length - 1) = f + i by omega] at z
          exact z
    · rw [get_app] at h
      by_cases c1 : i < Rl.length
      · rw [if_pos c1] at h
        have cv : c ≠ v := fun z => by
          rw [get_app] at en
          by_cases c2 : i + 1 < Rl.length
          · rw [if_pos c2] at en
            obtain ⟨y, hy⟩ : ∃ y, Rl[i + 1]? = some y := ⟨_, List.getElem?_eq_getElem c2⟩
            have h1 := up_get u1 (Nat.lt_succ_self i) h hy
            have h2 := highL hy
            rw [hy] at en
            exact en (congrArg some (by omega))
          · rw [if_neg c2, if_pos (by omega)] at en
            exact en (congrArg some z)
        refine a2 i v h (fun z => cv (Option.some.inj z)) ?_
        by_cases c2 : i + 1 < Rl.length
        · rw [get_app, if_pos c2] at en
          exact en
        · rw [List.getElem?_eq_none (by omega)]
          exact fun z => by cases z
      · rw [if_neg c1] at h
        by_cases c2 : i = Rl.length
        · rw [if_pos c2] at h
          cases h
          rw [c2, ll]
          exact le hhi
        · rw [if_neg c2] at h
          have z := b2 (i - Rl.length - 1) v h hhi (by
            rw [get_app, if_neg (by omega), if_neg (by omega)] at en
            rw [show i - Rl.length - 1 + 1 = i + 1 - Rl.length - 1 by omega]
            exact en)
          rw [show f + l.size + 1 + (i - Rl.length - 1) = f + i by omega] at z
          exact z
    · by_cases cv : v = c
      · have h1 := ge (by rw [← cv]; exact hlo)
        have h2 := le (by rw [← cv]; exact hhi)
        refine ⟨Rl.length, ?_, by rw [ll]; omega⟩
        rw [get_app, if_neg (by omega), if_pos rfl, cv]
      · rw [get_app] at h
        by_cases c1 : i < Rl.length
        · rw [if_pos c1] at h
          obtain ⟨j, h1, h2⟩ := a3 i v h hlo (fun z => cv (Option.some.inj z).symm)
          refine ⟨j, ?_, h2⟩
          rw [get_app, if_pos (List.getElem?_eq_some_iff.mp h1).1]
          exact h1
        · rw [if_neg c1] at h
          by_cases c2 : i = Rl.length
          · rw [if_pos c2] at h
            exact absurd (Option.some.inj h).symm cv
          · rw [if_neg c2] at h
            obtain ⟨j, h1, h2⟩ := b3 _ v h (fun z => cv (Option.some.inj z).symm) hhi
            refine ⟨Rl.length + 1 + j, ?_, ?_⟩
            · rw [get_app, if_neg (by omega), if_neg (by omega), show Rl.length + 1 + j - Rl.length - 1 = j by omega]
              exact h1
            · rw [← h2]
              exact congrArg g (by omega)
theorem rep_goal {g : Nat → Int} {t : Tr} {n : Nat} (hn : t.size = n) {r : Nat → Int} (hr : ∀ i, i < n → (repOf g t 0 none none)[i]? = some (r i)) : GoalOk g r n := by
  obtain ⟨a, b, c⟩ := rep_blocks (g := g) t 0 none none straight_none
  have up := (rep_in (g := g) t 0 none none straight_none).1
  have len := repOf_len g t 0 none none
  generalize repOf g t 0 none none = R at *
  refine ⟨fun i h => up_get up (Nat.lt_succ_self i) (hr i (by omega)) (hr (i + 1) h), fun i h st => ?_, fun i h en => ?_, fun i h => ?_⟩
  · have z := a i (r i) (hr i h) (fun z => by cases z) (by
      by_cases c : i = 0
      · exact .inl c
      · refine .inr ?_
        rw [hr (i - 1) (by omega)]
        exact fun z => (st.resolve_left c) (Option.some.inj z))
    rw [Nat.zero_add] at z
    exact z
  · have z := b i (r i) (hr i h) (fun z => by cases z) (by
      by_cases c : i + 1 < n
      · rw [hr (i + 1) c]
        exact fun z => (en.resolve_left (by omega)) (Option.some.inj z)
      · rw [List.getElem?_eq_none (by omega)]
        exact fun z => by cases z)
    rw [Nat.zero_add] at z
    exact z
  · obtain ⟨j, h1, h2⟩ := c i (r i) (hr i h) (fun z => by cases z) (fun z => by cases z)
    have hj := (List.getElem?_eq_some_iff.mp h1).1
    rw [Nat.zero_add] at h2
    rw [hr j (by omega)] at h1
    exact ⟨j, by omega, Option.some.inj h1, h2⟩
end HSP
namespace HSP
open PySem PySem.Spec PyProof.Rows L2
/-! ## sorted values and their representative -/
theorem sizeN (l r : Tr) : (Tr.nod l r).size = l.size + 1 + r.size := rfl
theorem rep_id {g : Nat → Int} (n : Nat) (up : ∀ i j, i < j → j < n → g i ≤ g j) : ∀ (t : Tr) (f : Nat) (lo hi : Option Int), f + t.size ≤ n → (∀ i, f ≤ i → i < f + t.size → downTo lo (g i) ∧ upTo hi (g i)) → repOf g t f lo hi = (List.range t.size).map fun i => g (f + i)
  | .nil, _, _, _, _, _ => rfl
  | .nod l r, f, lo, hi, hn, hb => by
    rw [sizeN] at hn hb ⊢
    obtain ⟨b1, b2⟩ := hb (f + l.size) (by omega) (by omega)
    rw [repOf_nod, clamp_id b1 b2, rep_id n up l f lo (some (g (f + l.size))) (by omega) (fun i h1 h2 => ⟨(hb i h1 (by omega)).1, fun h e => by cases e; exact up i _ h2 (by omega)⟩),
      rep_id n up r (f + l.size + 1) (some (g (f + l.size))) hi (by omega) (fun i h1 h2 => ⟨fun h e => by cases e; exact up _ i (by omega) (by omega), (hb i (by omega) (by omega)).2⟩)]
    rw [show l.size + 1 + r.size = l.size + (1 + r.size) by omega, List.range_add, List.map_append]
    congr 1
    rw [Nat.add_comm 1 r.size, List.range_succ_eq_map, List.map_cons, List.map_cons, List.map_map, List.map_map]
    congr 1
    exact List.map_congr_left fun i _ => congrArg g (by show f + l.size + 1 + i = f + (l.size + (i + 1)); omega)
theorem rep_sorted {ns : List Int} {t : Tr} (hn : ns.length = t.size) (up : ns.Pairwise (· ≤ ·)) : repOf (valAt ns) t 0 none none = ns := by
  have get : ∀ i (h : i < ns.length), valAt ns i = ns[i] := fun i h => by
    unfold valAt
    rw [List.getD_eq_getElem?_getD, List.getElem?_eq_getElem h]
    rfl
  rw [rep_id t.size (fun i j h1 h2 => by rw [get i (by omega), get j (by omega)]; exact List.pairwise_iff_getElem.mp up i j (by omega) (by omega) h1) t 0 none none (by omega) (fun i _ _ => ⟨fun l e => (by cases e), fun l e => (by cases e)⟩)]
  refine List.ext_getElem (by rw [List.length_map, List.length_range, hn]) fun i h1 h2 => ?_
  rw [List.getElem_map, List.getElem_range, Nat.zero_add, get i h2]
theorem rep_up (g : Nat → Int) (t : Tr) : (repOf g t 0 none none).Pairwise (· ≤ ·) := (rep_in t 0 none none straight_none).1
end HSP
namespace HSP
open PySem PySem.Spec PyProof.Rows L2
/-! ## insertion indices, counted on the representative -/
def below (R : List Int) (tw : Int) : Nat := (R.filter fun v => decide (2 * v < tw)).length
def upto (R : List Int) (tw : Int) : Nat := (R.filter fun v => decide (2 * v ≤ tw)).length
theorem count_app {p : Int → Bool} (A B : List Int) (c : Int) : ((A ++ c :: B).filter p).length = (A.filter p).length + ((if p c = true then 1 else 0) + (B.filter p).length) := by
  rw [List.filter_append, List.length_append, List.filter_cons]
  congr 1
  by_cases h : p c = true
  · rw [if_pos h, if_pos h, List.length_cons, Nat.add_comm]
  · rw [if_neg h, if_neg h, Nat.zero_add]
theorem count_all {p : Int → Bool} {A : List Int} (h : ∀ x, x ∈ A → p x = true) : (A.filter p).length = A.length := by
  rw [List.filter_eq_self.mpr h]
theorem count_none {p : Int → Bool} {A : List Int} (h : ∀ x, x ∈ A → p x = false) : (A.filter p).length = 0 := by
  rw [List.filter_eq_nil_iff.mpr fun x hx => by rw [h x hx]; exact Bool.false_ne_true]
  rfl
theorem clamp_low {lo hi : Option Int} {v tw : Int} (s : Straight lo hi) (h1 : ∀ l, lo = some l → 2 * l < tw) (h2 : ∀ h, hi = some h → tw ≤ 2 * h) : tw ≤ 2 * clamp lo hi v ↔ tw ≤ 2 * v := by
  cases lo with
  | none => cases hi with
    | none => exact Iff.rfl
    | some b =>
      have := h2 b rfl
      show tw ≤ 2 * (if v ≥ b then b else v) ↔ _
      split <;> omega
  | some a => cases hi with
    | none =>
      have := h1 a rfl
      show tw ≤ 2 * (if v ≤ a then a else v) ↔ _
      split <;> omega
    | some b =>
      have := h1 a rfl
      have := h2 b rfl
      show tw ≤ 2 * (if v ≤ a then a else if v ≥ b then b else v) ↔ _
      split <;> (try split) <;> omega
theorem clamp_up {lo hi : Option Int} {v tw : Int} (s : Straight lo hi) (h1 : ∀ l, lo = some l → 2 * l ≤ tw) (h2 : ∀ h, hi = some h → tw < 2 * h) : tw < 2 * clamp lo hi v ↔ tw < 2 * v := by
  cases lo with
  | none => cases hi with
    | none => exact Iff.rfl
    | some b =>
      have := h2 b rfl
      show tw < 2 * (if v ≥ b then b else v) ↔ _
      split <;> omega
  | some a => cases hi with
    | none =>
      have := h1 a rfl
      show tw < 2 * (if v ≤ a then a else v) ↔ _
      split <;> omega
    | some b =>
      have := h1 a rfl
      have := h2 b rfl
      show tw < 2 * (if v ≤ a then a else if v ≥ b then b else v) ↔ _
      split <;> (try split) <;> omega
theorem end_left {g : Nat → Int} {tw : Int} : ∀ (t : Tr) (f : Nat) (lo hi : Option Int), Straight lo hi → (∀ l, lo = some l → 2 * l < tw) → (∀ h, hi = some h → tw ≤ 2 * h) → (sEnd g tw .lft t f).2 = f + below (repOf g t f lo hi) tw
  | .nil, _, _, _, _, _, _ => rfl
  | .nod l r, f, lo, hi, s, h1, h2 => by
    obtain ⟨s1, s2⟩ := clamp_in s (g (f + l.size))
    have m1 := (rep_in (g := g) l f lo (some (clamp lo hi (g (f + l.size)))) s1).2
    have m2 := (rep_in (g := g) r (f + l.size + 1) (some (clamp lo hi (g (f + l.size)))) hi s2).2
    have key := clamp_low (v := g (f + l.size)) s h1 h2
    have i1 := end_left (g := g) (tw := tw) l f lo (some (clamp lo hi (g (f + l.size)))) s1 h1
    have i2 := end_left (g := g) (tw := tw) r (f + l.size + 1) (some (clamp lo hi (g (f + l.size)))) hi s2
    have len := repOf_len g l f lo (some (clamp lo hi (g (f + l.size))))
    rw [sEnd_nod, repOf_nod]
    unfold below at i1 i2 ⊢
    rw [count_app]
    generalize clamp lo hi (g (f + l.size)) = c at *
    by_cases q : tw ≤ 2 * g (f + l.size)
    · have qc := key.mpr q
      have w : wayOf tw (g (f + l.size)) .lft = .lft := by
        unfold wayOf
        split
        · rfl
        · rw [if_pos (by omega)]
      rw [w]
      show (sEnd g tw .lft l f).2 = _
      rw [i1 fun h e => by cases e; exact qc, if_neg (by rw [decide_eq_true_iff]; omega), count_none (A := repOf g r (f + l.size + 1) (some c) hi) fun x hx => by
        have := (m2 x hx).1 c rfl
        exact decide_eq_false (by omega)]
      omega
    · have qc : ¬ tw ≤ 2 * c := fun z => q (key.mp z)
      have w : wayOf tw (g (f + l.size)) .lft = .rgt := by
        unfold wayOf
        rw [if_neg (by omega), if_neg (by omega)]
      rw [w]
      show (sEnd g tw .lft r (f + l.size + 1)).2 = _
      rw [i2 (fun a e => by cases e; omega) h2, if_pos (decide_eq_true (by omega)), count_all (A := repOf g l f lo (some c)) fun x hx => by
        have := (m1 x hx).2 c rfl
        exact decide_eq_true (by omega), len]
      omega
theorem end_right {g : Nat → Int} {tw : Int} : ∀ (t : Tr) (f : Nat) (lo hi : Option Int), Straight lo hi → (∀ l, lo = some l → 2 * l ≤ tw) → (∀ h, hi = some h → tw < 2 * h) → (sEnd g tw .rgt t f).2 = f + upto (repOf g t f lo hi) tw
  | .nil, _, _, _, _, _, _ => rfl
  | .nod l r, f, lo, hi, s, h1, h2 => by
    obtain ⟨s1, s2⟩ := clamp_in s (g (f + l.size))
    have m1 := (rep_in (g := g) l f lo (some (clamp lo hi (g (f + l.size)))) s1).2
    have m2 := (rep_in (g := g) r (f + l.size + 1) (some (clamp lo hi (g (f + l.size)))) hi s2).2
    have key := clamp_up (v := g (f + l.size)) s h1 h2
    have i1 := end_right (g := g) (tw := tw) l f lo (some (clamp lo hi (g (f + l.size)))) s1 h1
    have i2 := end_right (g := g) (tw := tw) r (f + l.size + 1) (some (clamp lo hi (g (f + l.size)))) hi s2
    have len := repOf_len g l f lo (some (clamp lo hi (g (f + l.size))))
    rw [sEnd_nod, repOf_nod]
    unfold upto at i1 i2 ⊢
    rw [count_app]
    generalize clamp lo hi (g (f + l.size)) = c at *
    by_cases q : tw < 2 * g (f + l.size)
    · have qc := key.mpr q
      have w : wayOf tw (g (f + l.size)) .rgt = .lft := by
        unfold wayOf
        rw [if_neg (by omega), if_pos q]
      rw [w]
      show (sEnd g tw .rgt l f).2 = _
      rw [i1 fun h e => by cases e; exact qc, if_neg (by rw [decide_eq_true_iff]; omega), count_none (A := repOf g r (f + l.size + 1) (some c) hi) fun x hx => by
        have := (m2 x hx).1 c rfl
        exact decide_eq_false (by omega)]
      omega
    · have qc : ¬ tw < 2 * c := fun z => q (key.mp z)
      have w : wayOf tw (g (f + l.size)) .rgt = .rgt := by
        unfold wayOf
        split
        · rfl
        · first | rfl | rw [if_neg q]
      rw [w]
      show (sEnd g tw .rgt r (f + l.size + 1)).2 = _
      rw [i2 (fun a e => by cases e; omega) h2, if_pos (decide_eq_true (by omega)), count_all (A := repOf g l f lo (some c)) fun x hx => by
        have := (m1 x hx).2 c rfl
        exact decide_eq_true (by omega), len]
      omega
theorem sEnd_ge (g : Nat → Int) (tw : Int) (m : Md) : ∀ (t : Tr) (f : Nat), f ≤ (sEnd g tw m t f).2
  | .nil, f => Nat.le_refl f
  | .nod l r, f => by
    rw [sEnd_nod]
    cases wayOf tw (g (f + l.size)) m with
    | fin => exact Nat.le_add_right _ _
    | lft => exact sEnd_ge g tw m l f
    | rgt =>
      have := sEnd_ge g tw m r (f + l.size + 1)
      show f ≤ (sEnd g tw m r (f + l.size + 1)).2
      omega
theorem fin_false {g : Nat → Int} {tw : Int} : ∀ (t : Tr) (f j : Nat), sEnd g tw .fin t f = (false, j) → (sEnd g tw .lft t f).2 = j ∧ (sEnd g tw .rgt t f).2 = j
  | .nil, f, j, h => by cases h; exact ⟨rfl, rfl⟩
  | .nod l r, f, j, h => by
    rw [sEnd_nod] at h ⊢
    rw [sEnd_nod]
    unfold wayOf at h ⊢
    by_cases c : tw = 2 * g (f + l.size)
    · rw [if_pos c] at h
      cases h
    · rw [if_neg c] at h ⊢
      rw [if_neg c]
      by_cases d : tw < 2 * g (f + l.size)
      · rw [if_pos d] at h ⊢
        exact fin_false l f j h
      · rw [if_neg d] at h ⊢
        exact fin_false r (f + l.size + 1) j h
theorem fin_true {g : Nat → Int} {tw : Int} : ∀ (t : Tr) (f j : Nat), sEnd g tw .fin t f = (true, j) → (sEnd g tw .lft t f).2 ≤ j ∧ j < (sEnd g tw .rgt t f).2
  | .nil, f, j, h => by cases h
  | .nod l r, f, j, h => by
    rw [sEnd_nod] at h ⊢
    rw [sEnd_nod]
    unfold wayOf at h ⊢
    by_cases c : tw = 2 * g (f + l.size)
    · rw [if_pos c] at h ⊢
      rw [if_pos c]
      have e := (Prod.mk.inj h).2
      have h1 := sEnd_le g tw .lft l f
      have h2 := sEnd_ge g tw .rgt r (f + l.size + 1)
      constructor
      · show (sEnd g tw .lft l f).2 ≤ j
        omega
      · show j < (sEnd g tw .rgt r (f + l.size + 1)).2
        omega
    · rw [if_neg c] at h ⊢
      rw [if_neg c]
      by_cases d : tw < 2 * g (f + l.size)
      · rw [if_pos d] at h ⊢
        exact fin_true l f j h
      · rw [if_neg d] at h ⊢
        exact fin_true r (f + l.size + 1) j h
/-- what is asked of each number -/
theorem ends_rep {g : Nat → Int} {t : Tr} {tw : Int} : (sEnd g tw .lft t 0).2 = below (repOf g t 0 none none) tw ∧ (sEnd g tw .rgt t 0).2 = upto (repOf g t 0 none none) tw ∧
    (below (repOf g t 0 none none) tw = upto (repOf g t 0 none none) tw → sEnd g tw .fin t 0 = (false, below (repOf g t 0 none none) tw)) ∧
    (below (repOf g t 0 none none) tw < upto (repOf g t 0 none none) tw → (sEnd g tw .fin t 0).1 = true ∧ below (repOf g t 0 none none) tw ≤ (sEnd g tw .fin t 0).2 ∧ (sEnd g tw .fin t 0).2 < upto (repOf g t 0 none none) tw) := by
  have h1 := end_left (g := g) (tw := tw) t 0 none none straight_none (fun l e => by cases e) (fun l e => by cases e)
  have h2 := end_right (g := g) (tw := tw) t 0 none none straight_none (fun l e => by cases e) (fun l e => by cases e)
  rw [Nat.zero_add] at h1 h2
  refine ⟨h1, h2, ?_⟩
  cases e : sEnd g tw .fin t 0 with
  | mk b j => cases b with
    | false =>
      obtain ⟨q1, q2⟩ := fin_false t 0 j e
      refine ⟨fun _ => ?_, fun h => ?_⟩
      · rw [← h1, q1]
      · omega
    | true =>
      obtain ⟨q1, q2⟩ := fin_true t 0 j e
      refine ⟨fun h => ?_, fun _ => ⟨rfl, ?_, ?_⟩⟩
      · omega
      · show below _ tw ≤ j
        omega
      · show j < upto _ tw
        omega
end HSP
namespace HSP
open PySem PySem.Spec PyProof.Rows L2
/-! ## a list acts like its representative -/
theorem end_rep {g r : Nat → Int} {tw : Int} : ∀ (t : Tr) (f : Nat) (lo hi : Option Int), Straight lo hi → (∀ i, i < t.size → (repOf g t f lo hi)[i]? = some (r (f + i))) → (∀ l, lo = some l → 2 * l < tw) → (∀ h, hi = some h → tw < 2 * h) → sEnd g tw .fin t f = sEnd r tw .fin t f
  | .nil, _, _, _, _, _, _, _ => rfl
  | .nod l u, f, lo, hi, s, hr, h1, h2 => by
    have z : (Tr.nod l u).size = l.size + 1 + u.size := rfl
    rw [z] at hr
    obtain ⟨s1, s2⟩ := clamp_in s (g (f + l.size))
    have k1 := clamp_low (v := g (f + l.size)) (tw := tw) s h1 fun h e => by have := h2 h e; omega
    have k2 := clamp_up (v := g (f + l.size)) (tw := tw) s (fun a e => by have := h1 a e; omega) h2
    have len := repOf_len g l f lo (some (clamp lo hi (g (f + l.size))))
    have i1 := end_rep (g := g) (r := r) (tw := tw) l f lo (some (clamp lo hi (g (f + l.size)))) s1
    have i2 := end_rep (g := g) (r := r) (tw := tw) u (f + l.size + 1) (some (clamp lo hi (g (f + l.size)))) hi s2
    rw [repOf_nod] at hr
    rw [sEnd_nod, sEnd_nod]
    generalize clamp lo hi (g (f + l.size)) = c at *
    have rc : r (f + l.size) = c := by
      have q := hr l.size (by omega)
      rw [get_app, len, if_neg (Nat.lt_irrefl _), if_pos rfl] at q
      exact (Option.some.inj q).symm
    rw [rc]
    unfold wayOf
    by_cases a : tw = 2 * g (f + l.size)
    · rw [if_pos a, if_pos (show tw = 2 * c by omega)]
    · rw [if_neg a, if_neg (show ¬ tw = 2 * c by omega)]
      by_cases b : tw < 2 * g (f + l.size)
      · rw [if_pos b, if_pos (k2.mpr b)]
        refine i1 (fun i hi => ?_) h1 fun h e => ?_
        · have q := hr i (by omega)
          rw [get_app, len, if_pos hi] at q
          exact q
        · cases e
          exact k2.mpr b
      · rw [if_neg b, if_neg (fun q => b (k2.mp q))]
        refine i2 (fun i hi => ?_) (fun a e => ?_) h2
        · have q := hr (l.size + 1 + i) (by omega)
          rw [get_app, len, if_neg (by omega), if_neg (by omega), show l.size + 1 + i - l.size - 1 = i by omega] at q
          rw [q]
          exact congrArg (fun n => some (r n)) (by omega)
        · cases e
          have := k1
          omega
/-- the two lists of counts tell sorted lists apart -/
theorem below_same : ∀ {R S : List Int}, R.Pairwise (· ≤ ·) → S.Pairwise (· ≤ ·) → R.length = S.length → (∀ tw : Int, tw % 2 = 1 → below R tw = below S tw) → R = S
  | [], S, _, _, l, _ => (List.length_eq_zero_iff.mp l.symm).symm
  | a :: R, [], _, _, l, _ => by cases l
  | a :: R, b :: S, hR, hS, l, h => by
    obtain ⟨r1, r2⟩ := List.pairwise_cons.mp hR
    obtain ⟨s1, s2⟩ := List.pairwise_cons.mp hS
    have cons : ∀ (x : Int) (l : List Int) (tw : Int), below (x :: l) tw = (if 2 * x < tw then 1 else 0) + below l tw := fun x l tw => by
      unfold below
      rw [List.filter_cons]
      by_cases c : 2 * x < tw
      · rw [if_pos (decide_eq_true c), if_pos c, List.length_cons, Nat.add_comm]
      · rw [if_neg (by rw [decide_eq_true_iff]; exact c), if_neg c, Nat.zero_add]
    have none : ∀ (x : Int) (l : List Int), (∀ y, y ∈ l → x ≤ y) → below l (2 * x + 1 - 2) = 0 := fun x l hl => count_none fun y hy => by
      have := hl y hy
      exact decide_eq_false (by omega)
    have e : a = b := by
      by_cases c : a < b
      · have q := h (2 * a + 1) (by omega)
        rw [cons, cons, if_pos (by omega), if_neg (by omega)] at q
        have z : below S (2 * a + 1) = 0 := count_none fun y hy => by
          have := s1 y hy
          exact decide_eq_false (by omega)
        omega
      · by_cases d : b < a
        · have q := h (2 * b + 1) (by omega)
          rw [cons, cons, if_neg (by omega), if_pos (by omega)] at q
          have z : below R (2 * b + 1) = 0 := count_none fun y hy => by
            have := r1 y hy
            exact decide_eq_false (by omega)
          omega
        · omega
    subst e
    rw [below_same r2 s2 (Nat.succ.inj l) fun tw ht => by
      have q := h tw ht
      rw [cons, cons] at q
      omega]
theorem valAt_get' {l : List Int} {i : Nat} (h : i < l.length) : l[i]? = some (valAt l i) := by
  unfold valAt
  rw [List.getD_eq_getElem?_getD, List.getElem?_eq_getElem h]
  rfl
/-- every search ends in the representative as in the list -/
theorem ends_of_rep (g : Nat → Int) (t : Tr) (tw : Int) : sEnd g tw .fin t 0 = sEnd (valAt (repOf g t 0 none none)) tw .fin t 0 :=
  end_rep t 0 none none straight_none (fun i hi => by rw [Nat.zero_add]; exact valAt_get' (by rw [repOf_len]; exact hi)) (fun l e => by cases e) (fun l e => by cases e)
theorem odd_below {g : Nat → Int} {t : Tr} {tw : Int} (h : tw % 2 = 1) : sEnd g tw .fin t 0 = (false, below (repOf g t 0 none none) tw) := by
  refine (ends_rep (g := g) (t := t) (tw := tw)).2.2.1 ?_
  unfold below upto
  refine congrArg List.length (List.filter_congr fun v _ => ?_)
  exact decide_eq_decide.mpr ⟨fun z => by omega, fun z => by omega⟩
/-- two lists act alike just if their representatives are equal -/
theorem alike_rep {g g' : Nat → Int} {t : Tr} : (∀ tw, sEnd g tw .fin t 0 = sEnd g' tw .fin t 0) ↔ repOf g t 0 none none = repOf g' t 0 none none := by
  constructor
  · intro h
    refine below_same (rep_up g t) (rep_up g' t) (by rw [repOf_len, repOf_len]) fun tw ht => ?_
    have z := h tw
    rw [odd_below ht, odd_below ht] at z
    exact (Prod.mk.inj z).2
  · intro h tw
    rw [ends_of_rep g, ends_of_rep g', h]
theorem alike_own {ns : List Int} {t : Tr} : ∀ tw, sEnd (valAt ns) tw .fin t 0 = sEnd (valAt (repOf (valAt ns) t 0 none none)) tw .fin t 0 := fun tw => ends_of_rep _ t tw
theorem alike_sorted {ns ms : List Int} {t : Tr} (hn : ns.length = t.size) (hm : ms.length = t.size) (un : ns.Pairwise (· ≤ ·)) (um : ms.Pairwise (· ≤ ·)) : (∀ tw, sEnd (valAt ns) tw .fin t 0 = sEnd (valAt ms) tw .fin t 0) ↔ ns = ms := by
  rw [alike_rep, rep_sorted hn un, rep_sorted hm um]
end HSP
namespace HSP
open PySem PySem.Spec PyProof.Rows L2
/-! ## rows as data, of numbers of any size -/
def PlainS : V → Prop
  | .non => True
  | .int _ => True
  | .str x => PyData.strOk x = true
  | _ => False
theorem PlainS.dp {K : PySem.W.Frag} {H : Hp} {v : V} (h : PlainS v) : Dp K H v (vD v) := by
  cases v with
  | non => exact .non
  | int i => exact .int i
  | str x => exact .str x
  | _ => exact h.elim
theorem PlainS.can {v : V} (h : PlainS v) : PyData.canLay0 (vD v) = true := by
  cases v with
  | non => simp only [vD, PyData.canLay0]
  | int i => simp only [vD, PyData.canLay0]
  | str x => simp only [vD, PyData.canLay0]; exact h
  | _ => exact h.elim
theorem vS_eqv {a b : V} (ha : PlainS a) (hb : PlainS b) : PyData.eqv (vD a) (vD b) = decide (a = b) := by
  cases a with
  | non =>
    cases b with
    | non => simp only [vD, PyData.eqv]; rfl
    | int j => simp only [vD, PyData.eqv]; exact (decide_eq_false fun z => by cases z).symm
    | str y => simp only [vD, PyData.eqv]; exact (decide_eq_false fun z => by cases z).symm
    | _ => exact hb.elim
  | int i =>
    cases b with
    | non => simp only [vD, PyData.eqv]; exact (decide_eq_false fun z => by cases z).symm
    | int j =>
      simp only [vD, PyData.eqv]
      by_cases c : i = j
      · subst c
        rw [decide_eq_true rfl]
        exact beq_self_eq_true _
      · rw [decide_eq_false (fun z => c (V.int.inj z))]
        exact beq_eq_false_iff_ne.mpr c
    | str y => simp only [vD, PyData.eqv]; exact (decide_eq_false fun z => by cases z).symm
    | _ => exact hb.elim
  | str x =>
    cases b with
    | non => simp only [vD, PyData.eqv]; exact (decide_eq_false fun z => by cases z).symm
    | int j => simp only [vD, PyData.eqv]; exact (decide_eq_false fun z => by cases z).symm
    | str y =>
      simp only [vD, PyData.eqv]
      by_cases c : x = y
      · subst c
        rw [decide_eq_true rfl]
        exact beq_self_eq_true _
      · rw [decide_eq_false (fun z => c (V.str.inj z))]
        exact beq_eq_false_iff_ne.mpr c
    | _ => exact hb.elim
  | _ => exact ha.elim
def PlainsS (xs : List V) : Prop := ∀ v, v ∈ xs → PlainS v
theorem plainsS_dp {K : PySem.W.Frag} {H : Hp} : ∀ xs : List V, PlainsS xs → DpAll K H xs (xs.map vD)
  | [], _ => .nil
  | x :: r, h => .cons (h x List.mem_cons_self).dp (plainsS_dp r fun v hv => h v (List.mem_cons_of_mem _ hv))
theorem plainsS_can : ∀ xs : List V, PlainsS xs → PyData.canLayAll0 (xs.map vD) = true
  | [], _ => by simp [PyData.canLayAll0]
  | x :: r, h => by
    have ih := plainsS_can r fun v hv => h v (List.mem_cons_of_mem _ hv)
    have h1 := (h x List.mem_cons_self).can
    simp only [List.map_cons, PyData.canLayAll0, h1, ih, Bool.and_self]
theorem and_cons {A : Type} {a b : A} {x y : List A} {p q : Bool} (hp : p = true ↔ a = b) (hq : q = true ↔ x = y) : (p && q) = true ↔ a :: x = b :: y := by
  rw [Bool.and_eq_true, hp, hq]
  exact ⟨fun z => by rw [z.1, z.2], fun z => List.cons.inj z⟩
theorem plainsS_eqv : ∀ xs ys : List V, PlainsS xs → PlainsS ys → (PyData.eqvAll (xs.map vD) (ys.map vD) = true ↔ xs = ys)
  | [], [], _, _ => by simp [PyData.eqvAll]
  | [], y :: s, _, _ => by simp [PyData.eqvAll]
  | x :: r, [], _, _ => by simp [PyData.eqvAll]
  | x :: r, y :: s, h, k => by
    have ih := plainsS_eqv r s (fun v hv => h v (List.mem_cons_of_mem _ hv)) (fun v hv => k v (List.mem_cons_of_mem _ hv))
    have h1 := vS_eqv (h x List.mem_cons_self) (k y List.mem_cons_self)
    simp only [List.map_cons, PyData.eqvAll]
    exact and_cons (by rw [h1, decide_eq_true_iff]) ih
theorem rowS_iff {xs ys : List V} (h : PlainsS xs) (k : PlainsS ys) : PyData.eqv (rowD xs) (rowD ys) = true ↔ xs = ys := by
  unfold rowD
  simp only [PyData.eqv]
  exact plainsS_eqv xs ys h k
theorem rowS_eqv {xs ys : List V} (h : PlainsS xs) (k : PlainsS ys) : PyData.eqv (rowD xs) (rowD ys) = decide (xs = ys) := by
  rw [Bool.eq_iff_iff, rowS_iff h k, decide_eq_true_iff]
theorem rowS_can {xs : List V} (h : PlainsS xs) : PyData.canLay0 (rowD xs) = true := by
  unfold rowD
  simp only [PyData.canLay0]
  exact plainsS_can xs h
theorem rowS_dp {K : PySem.W.Frag} {H : Hp} {a : Addr} {xs : List V} (e : H a = some (.tup xs)) (h : PlainsS xs) : Dp K H (.ref a) (rowD xs) := .tup (.of e) (plainsS_dp xs h)
theorem rowS_shaped {xs : List V} (h : PlainsS xs) : SeqAt.shaped (rowD xs) = true := by
  unfold SeqAt.shaped
  rw [Bool.and_eq_true]
  have := row_deep xs
  exact ⟨rowS_can h, decide_eq_true (by omega)⟩
theorem rowsS_can : ∀ l : List (List V), (∀ xs, xs ∈ l → PlainsS xs) → PyData.canLayAll0 (l.map rowD) = true
  | [], _ => by simp [PyData.canLayAll0]
  | x :: r, h => by
    have ih := rowsS_can r fun v hv => h v (List.mem_cons_of_mem _ hv)
    have h1 := rowS_can (h x List.mem_cons_self)
    simp only [List.map_cons, PyData.canLayAll0, h1, ih, Bool.and_self]
theorem rowsS_dp {K : PySem.W.Frag} {H : Hp} {rs : List Addr} {l : List (List V)} (p : Paired (fun r xs => H r = some (.tup xs)) rs l) (h : ∀ xs, xs ∈ l → PlainsS xs) : DpAll K H (rs.map V.ref) (l.map rowD) := by
  induction p with
  | nil => exact .nil
  | cons e _ ih => exact .cons (rowS_dp e (h _ List.mem_cons_self)) (ih fun v hv => h v (List.mem_cons_of_mem _ hv))
theorem rowsDS_dp {K : PySem.W.Frag} {H : Hp} {a : Addr} {rs : List Addr} {l : List (List V)} (e : H a = some (.lst (rs.map V.ref))) (p : Paired (fun r xs => H r = some (.tup xs)) rs l) (h : ∀ xs, xs ∈ l → PlainsS xs) : Dp K H (.ref a) (rowsD l) := .lst (.of e) (rowsS_dp p h)
theorem rowsDS_shaped {l : List (List V)} (h : ∀ xs, xs ∈ l → PlainsS xs) : SeqAt.shaped (rowsD l) = true := by
  unfold SeqAt.shaped rowsD
  rw [Bool.and_eq_true]
  have := rows_deep l
  refine ⟨?_, decide_eq_true ?_⟩
  · simp only [PyData.canLay0]
    exact rowsS_can l h
  · simp only [PyData.depth]
    omega
theorem rowsS_eqv : ∀ l m : List (List V), (∀ xs, xs ∈ l → PlainsS xs) → (∀ xs, xs ∈ m → PlainsS xs) → (PyData.eqvAll (l.map rowD) (m.map rowD) = true ↔ l = m)
  | [], [], _, _ => by simp [PyData.eqvAll]
  | [], y :: s, _, _ => by simp [PyData.eqvAll]
  | x :: r, [], _, _ => by simp [PyData.eqvAll]
  | x :: r, y :: s, h, k => by
    have ih := rowsS_eqv r s (fun v hv => h v (List.mem_cons_of_mem _ hv)) (fun v hv => k v (List.mem_cons_of_mem _ hv))
    simp only [List.map_cons, PyData.eqvAll]
    exact and_cons (rowS_iff (h x List.mem_cons_self) (k y List.mem_cons_self)) ih
theorem rowsDS_eqv {l m : List (List V)} (h : ∀ xs, xs ∈ l → PlainsS xs) (k : ∀ xs, xs ∈ m → PlainsS xs) : PyData.eqv (rowsD l) (rowsD m) = decide (l = m) := by
  rw [Bool.eq_iff_iff, decide_eq_true_iff]
  unfold rowsD
  simp only [PyData.eqv]
  exact rowsS_eqv l m h k
/-- a list of flat things as data -/
def flatD (xs : List V) : PyData := .list (xs.map vD)
theorem flat_dp {K : PySem.W.Frag} {H : Hp} {a : Addr} {xs : List V} (e : H a = some (.lst xs)) (h : PlainsS xs) : Dp K H (.ref a) (flatD xs) := .lst (.of e) (plainsS_dp xs h)
theorem flat_can {xs : List V} (h : PlainsS xs) : PyData.canLay0 (flatD xs) = true := by
  unfold flatD
  simp only [PyData.canLay0]
  exact plainsS_can xs h
theorem flat_shaped {xs : List V} (h : PlainsS xs) : SeqAt.shaped (flatD xs) = true := by
  unfold SeqAt.shaped
  rw [Bool.and_eq_true]
  refine ⟨flat_can h, decide_eq_true ?_⟩
  have := plains_deep xs
  unfold flatD
  simp only [PyData.depth]
  omega
end HSP
namespace HSP
open PySem PySem.Spec PyProof.Rows L2
/-! ## lists act alike just if each value is allowed -/
theorem rep_each {g g' : Nat → Int} : ∀ (t : Tr) (f : Nat) (lo hi : Option Int), (∀ j, f ≤ j → j < f + t.size → clamp (stOf g lo hi (pOf t f j)).1 (stOf g lo hi (pOf t f j)).2 (g' j) = clamp (stOf g lo hi (pOf t f j)).1 (stOf g lo hi (pOf t f j)).2 (g j)) → repOf g' t f lo hi = repOf g t f lo hi
  | .nil, _, _, _, _ => rfl
  | .nod l r, f, lo, hi, h => by
    rw [size_nod] at h
    have e : clamp lo hi (g' (f + l.size)) = clamp lo hi (g (f + l.size)) := by
      have z := h (f + l.size) (by omega) (by omega)
      rw [pOf_nod, if_pos rfl] at z
      exact z
    rw [repOf_nod, repOf_nod, e]
    rw [rep_each (g := g) (g' := g') l f lo (some (clamp lo hi (g (f + l.size)))) (fun j a b => by
      have z := h j a (by omega)
      rw [pOf_nod, if_neg (by omega), if_pos b] at z
      exact z), rep_each (g := g) (g' := g') r (f + l.size + 1) (some (clamp lo hi (g (f + l.size)))) hi (fun j a b => by
      have z := h j (by omega) (by omega)
      rw [pOf_nod, if_neg (by omega), if_neg (by omega)] at z
      exact z)]
theorem alike_each {g g' : Nat → Int} {t : Tr} : (∀ tw, sEnd g' tw .fin t 0 = sEnd g tw .fin t 0) ↔ ∀ j, j < t.size → fitsOf (g' j) (alwAt g t j) = true := by
  rw [alike_rep]
  constructor
  · intro h j hj
    rw [fits_clamp]
    have h1 := repOf_at g t 0 none none j (Nat.zero_le _) (by omega)
    have h2 := repOf_at g' t 0 none none j (Nat.zero_le _) (by omega)
    rw [h, h1, st_rep t 0 none none h] at h2
    exact (Option.some.inj h2).symm
  · intro h
    exact rep_each t 0 none none fun j _ b => fits_clamp.mp (h j (by omega))
theorem brk_nil {g x : Nat → Int} {t : Tr} : brkOf g x t t.size = [] ↔ ∀ tw, sEnd x tw .fin t 0 = sEnd g tw .fin t 0 := by
  rw [alike_each]
  unfold brkOf
  rw [List.filter_eq_nil_iff]
  constructor
  · intro h j hj
    have z := h j (List.mem_range.mpr hj)
    cases c : fitsOf (x j) (alwAt g t j) with
    | true => rfl
    | false => rw [c] at z; exact absurd rfl z
  · intro h j hj z
    rw [h j (List.mem_range.mp hj)] at z
    cases z
/-- the ends of all numbers of a list -/
def endsL (g : Nat → Int) (t : Tr) (ks : List Int) : List (List V) := ks.map fun tw => endRow (sEnd g tw .fin t 0)
theorem kindV_inj : ∀ {a b : Bool}, kindV a = kindV b → a = b := fun {a b} h => by
  cases a <;> cases b
  · rfl
  · exact absurd h (by decide +kernel)
  · exact absurd h (by decide +kernel)
  · rfl
theorem endRow_inj {r r' : Bool × Nat} (h : endRow r = endRow r') : r = r' := by
  have h1 := List.cons.inj h
  have h2 := (List.cons.inj h1.2).1
  have h3 := V.int.inj h2
  exact Prod.ext (kindV_inj h1.1) (by omega)
theorem ends_same {g g' : Nat → Int} {t : Tr} : ∀ ks : List Int, endsL g t ks = endsL g' t ks ↔ ∀ tw, tw ∈ ks → sEnd g tw .fin t 0 = sEnd g' tw .fin t 0
  | [] => ⟨fun _ tw h => (by cases h), fun _ => rfl⟩
  | a :: r => by
    show endRow (sEnd g a .fin t 0) :: endsL g t r = endRow (sEnd g' a .fin t 0) :: endsL g' t r ↔ _
    constructor
    · intro h tw htw
      have z := List.cons.inj h
      rcases List.mem_cons.mp htw with e | e
      · rw [e]
        exact endRow_inj z.1
      · exact (ends_same r).mp z.2 tw e
    · intro h
      rw [h a List.mem_cons_self, (ends_same r).mpr fun tw htw => h tw (List.mem_cons_of_mem _ htw)]
theorem endsL_plainS (g : Nat → Int) (t : Tr) (ks : List Int) : ∀ xs, xs ∈ endsL g t ks → PlainsS xs := fun xs h => by
  unfold endsL at h
  obtain ⟨tw, _, rfl⟩ := List.mem_map.mp h
  intro v hv
  have hv : v ∈ [kindV (sEnd g tw .fin t 0).1, natV (sEnd g tw .fin t 0).2] := hv
  simp only [List.mem_cons, List.not_mem_nil, or_false] at hv
  rcases hv with rfl | rfl
  · cases (sEnd g tw .fin t 0).1
    · show PyData.strOk "gap" = true
      decide +kernel
    · show PyData.strOk "found" = true
      decide +kernel
  · exact trivial
/-- numbers around all values tell lists apart -/
theorem ends_cover {g g' : Nat → Int} {t : Tr} {E ks : List Int} (h : Edges g t E) (h' : Edges g' t E) (hk : ∀ e, e ∈ E → 2 * e ∈ ks ∧ 2 * e + 1 ∈ ks) : endsL g t ks = endsL g' t ks ↔ ∀ tw, sEnd g tw .fin t 0 = sEnd g' tw .fin t 0 := by
  rw [ends_same]
  exact ⟨fun q => alike_all h h' fun e he => ⟨q _ (hk e he).1, q _ (hk e he).2⟩, fun q tw _ => q tw⟩
theorem edges_of {ns : List Int} {t : Tr} {E : List Int} (hn : ns.length = t.size) (sub : ∀ v, v ∈ ns → v ∈ E) : Edges (valAt ns) t E := fun i hi => sub _ (valAt_mem (by have := (found_mem.mp hi).1; omega))
end HSP
namespace HSP
open PySem PySem.Spec PyProof.Rows L2
/-! ### what a node may have in lists that act alike, counted -/
def fromOf (least : Int) : Option Int → Int
  | none => least
  | some a => if a > least then a else least
def toOf (most : Int) : Option Int → Int
  | none => most
  | some a => if a < most then a else most
def cntOf (least most : Int) (p : Option Int × Option Int) : Int := if toOf most p.2 - fromOf least p.1 + 1 > 0 then toOf most p.2 - fromOf least p.1 + 1 else 0
def prodC (g : Nat → Int) (t : Tr) (least most : Int) : Nat → Int
  | 0 => 1
  | k + 1 => prodC g t least most k * cntOf least most (alwAt g t k)
theorem cnt_nn (least most : Int) (p : Option Int × Option Int) : 0 ≤ cntOf least most p := by
  unfold cntOf
  split <;> omega
theorem prod_nn (g : Nat → Int) (t : Tr) (least most : Int) : ∀ k, 0 ≤ prodC g t least most k
  | 0 => by show (0 : Int) ≤ 1; decide
  | k + 1 => Int.mul_nonneg (prod_nn g t least most k) (cnt_nn least most _)
theorem prod_le {g : Nat → Int} {t : Tr} {least most : Int} : ∀ k, (∀ i, i < k → cntOf least most (alwAt g t i) < 2 ^ 100) → prodC g t least most k ≤ ((2 : Int) ^ 100) ^ k
  | 0, _ => by show (1 : Int) ≤ _; rw [Int.pow_zero]; exact Int.le_refl _
  | k + 1, h => by
    show prodC g t least most k * _ ≤ _
    rw [Int.pow_succ]
    exact Int.mul_le_mul (prod_le k fun i hi => h i (by omega)) (Int.le_of_lt (h k (by omega))) (cnt_nn least most _) (Int.pow_nonneg (by decide))
theorem log_pow {z : Int} {m : Nat} (nn : 0 ≤ z) (h : z ≤ 2 ^ m) : z.natAbs.log2 ≤ m := by
  by_cases c : z.natAbs = 0
  · rw [c]
    exact Nat.zero_le _
  · refine Nat.le_of_lt_succ ((Nat.log2_lt c).mpr ?_)
    have e : ((2 ^ m : Nat) : Int) = 2 ^ m := by rw [Int.natCast_pow]; rfl
    rw [Nat.pow_succ]
    omega
theorem prod_log {g : Nat → Int} {t : Tr} {least most : Int} {k : Nat} (hk : k ≤ 300) (h : ∀ i, i < k → cntOf least most (alwAt g t i) < 2 ^ 100) : (prodC g t least most k).natAbs.log2 ≤ 30000 := by
  have h1 := prod_le k h
  rw [← Int.pow_mul] at h1
  have h2 := log_pow (prod_nn g t least most k) h1
  omega
end HSP
namespace HSP
open PySem PySem.Spec PyProof.Rows L2
/-! ### allowed, all_allowed, count_alike -/
section
variable {X : Cx}
theorem ip_mulW : PIp X .Mult (fun x y H Q => ∃ i j, x = .int i ∧ y = .int j ∧ CMulW i j ∧ Q (.int (i * j)) H) := by
  intro pins s σ H x y v u Q I r1 r2 h
  obtain ⟨i, j, e1, e2, hc, q⟩ := h
  subst e1; subst e2
  obtain ⟨t, rfl⟩ := r1
  obtain ⟨t', rfl⟩ := r2
  exact imul_int ⟨.int _, H, I.tok _, ⟨_, rfl⟩, q⟩ hc.ok
end
section
variable {P : Program} {w : World} {K : PySem.W.Frag} {mg : Str → Option Value} {base : Heap}
/-! ### count_alike -/
theorem sc_countAlike : FnScope n_count_alike ["tree", "values", "least", "most"] (defScope s_count_alike) := ⟨rfl, rfl, rfl, by decide +kernel, rfl, by decide +kernel, by decide +kernel⟩
def spCountAlike : Sp := fun vs H Q _ => ∃ (v : V) (t : Tr) (a : Addr) (ns : List Int) (least most : Int), vs = [v, .ref a, .int least, .int most] ∧ TrAt H v t ∧ t.size ≤ 300 ∧ H a = some (.lst (ns.map V.int)) ∧ ns.length = t.size ∧ (∀ i, i < t.size → cntOf least most (alwAt (valAt ns) t i) < 2 ^ 100) ∧ ∀ (H' : Hp), Same H H' → Q (.int (prodC (valAt ns) t least most t.size)) H'
theorem fn_countAlike (B : Bl mg) (C : Df P w K mg base "check_values" 3 ["tree", "values"] spChkV) (Aa : Df P w K mg base "all_allowed" 4 ["tree", "values"] spAllAllowed) (f : Addr) (cdv : Value) (A : Around) (outer : List Env) (s : Shared) (H : Hp) (vs : List V) (Q : VK) (E : XK)
    (hr : Room 4 (A.deeper (envOfC "count_alike" (defScope s_count_alike) s.heap.objs.size f cdv))) (h : spCountAlike vs H Q E) :
    ∃ t, PSs (cxOf CX0 P w K mg base n_count_alike "count_alike" (defScope s_count_alike) f cdv A outer s H E).nox (defBody s_count_alike) t ∧ t { nx := fun _ H' => Q .non H', rt := Q } (start n_count_alike vs) H := by
  obtain ⟨v, t, a, ns, lt, mt, rfl, ht, hz, ha, hn, few, q⟩ := h
  refine ⟨_, (pss_cons (ps_expr (pe_df C (hr.mono (by decide)) (pa_cons (pv 0) (pa_cons (pv 1) pa_nil))))
 (pss_cons (ps_set (i := 4) sc_countAlike.nd rfl (.inl rfl) pe_int)
 (pss_cons (ps_for PassesOwn.never rfl (pi_list (pe_df Aa hr (pa_cons (pv 0) (pa_cons (pv 1) pa_nil)))) (pg_tup rfl (pgs_cons (pg_name (i := 5) sc_countAlike.nd rfl (.inl rfl)) (pgs_cons (pg_name (i := 6) sc_countAlike.nd rfl (.inl rfl)) pgs_nil))) (pss_cons (ps_set (i := 7) sc_countAlike.nd rfl (.inl rfl) (pe_ifExp (pt_cmpR op_isN (pv 5) pe_non (nomark _)) (pv 2) (pe_callB (call_max2 rfl) (by rfl) B.max (by decide +kernel) (pa_cons (pv 2) (pa_cons (pv 5) pa_nil)))))
 (pss_cons (ps_set (i := 8) sc_countAlike.nd rfl (.inl rfl) (pe_ifExp (pt_cmpR op_isN (pv 6) pe_non (nomark _)) (pv 3) (pe_callB (call_min2 rfl) (by rfl) B.min (by decide +kernel) (pa_cons (pv 3) (pa_cons (pv 6) pa_nil)))))
 (pss_one (ps_aug (i := 4) sc_countAlike.nd rfl (.inl rfl) (pe_callB (call_max2 rfl) (by rfl) B.max (by decide +kernel) (pa_cons pe_int (pa_cons (pe_op op_add (pe_op op_sub (pv 8) (pv 7)) pe_int) pa_nil))) ip_mulW)))))
 (pss_one (ps_ret (pv 4)))))), ?_⟩
  refine ⟨v, rfl, _, rfl, v, t, a, ns, rfl, ht, by omega, ha, hn, fun H1 s1 => ?_⟩
  refine ⟨v, rfl, _, rfl, v, t, a, ns, rfl, ht.same s1, hz, s1 _ _ ha, hn, fun H2 q2 s2 _ ⟨tups, e2, l2, p2⟩ => ?_⟩
  refine ⟨q2, rfl, ⟨_, .of e2⟩, for_list (xs := tups.map V.ref) (fun i σ H' => ∃ y5 y6 y7 y8 : Option V, σ = [some v, some (.ref a), some (.int lt), some (.int mt), some (.int (prodC (valAt ns) t lt mt i)), y5, y6, y7, y8] ∧ Same H2 H') ⟨_, _, _, _, rfl, Same.refl _⟩ (fun i σ H3 _ h3 => ?_) (fun i x σ H3 hx h3 => ?_) (fun σ H3 h3 => ?_)⟩
  · obtain ⟨_, _, _, _, _, s3⟩ := h3
    exact .of (s3 _ _ e2)
  · obtain ⟨y5, y6, y7, y8, rfl, s3⟩ := h3
    rw [List.getElem?_map] at hx
    obtain ⟨T, hT, rfl⟩ := Option.map_eq_some_iff.mp hx
    have hi : i < t.size := by
      have := (List.getElem?_eq_some_iff.mp hT).1
      omega
    have eT := s3 _ _ (p2 i T hT)
    have fi := few i hi
    have nn := cnt_nn lt mt (alwAt (valAt ns) t i)
    have ep : prodC (valAt ns) t lt mt (i + 1) = prodC (valAt ns) t lt mt i * cntOf lt mt (alwAt (valAt ns) t i) := rfl
    rw [ep]
    refine ⟨T, _, rfl, .of eT, rfl, _, _, rfl, _, [], rfl, rfl, ?_⟩
    have cm : CMulW (prodC (valAt ns) t lt mt i) (cntOf lt mt (alwAt (valAt ns) t i)) := by
      have h1 := prod_log (k := i) (by omega) fun j hj => few j (by omega)
      have h2 := log_pow nn (Int.le_of_lt fi)
      show _ + _ < 1000000
      omega
    clear eT hT fi nn ep
    generalize alwAt (valAt ns) t i = pr at cm ⊢
    obtain ⟨lo, hi⟩ := pr
    refine ⟨_, rfl, rfl, _, rfl, ?_⟩
    cases lo with
    | none =>
      refine iteT ⟨_, rfl, ?_⟩
      refine ⟨_, rfl, rfl, _, rfl, ?_⟩
      cases hi with
      | none =>
        refine iteT ⟨_, rfl, ?_⟩
        exact ⟨_, rfl, _, rfl, _, rfl, _, _, rfl, rfl, _, _, rfl, rfl, _, _, rfl, _, _, rfl, rfl, cm, _, _, _, _, rfl, s3⟩
      | some h =>
        refine iteF ⟨_, rfl, _, rfl, _, _, rfl, ?_⟩
        exact ⟨_, rfl, _, rfl, _, rfl, _, _, rfl, rfl, _, _, rfl, rfl, _, _, rfl, _, _, rfl, rfl, cm, _, _, _, _, rfl, s3⟩
    | some l =>
      refine iteF ⟨_, rfl, _, rfl, _, _, rfl, ?_⟩
      refine ⟨_, rfl, rfl, _, rfl, ?_⟩
      cases hi with
      | none =>
        refine iteT ⟨_, rfl, ?_⟩
        exact ⟨_, rfl, _, rfl, _, rfl, _, _, rfl, rfl, _, _, rfl, rfl, _, _, rfl, _, _, rfl, rfl, cm, _, _, _, _, rfl, s3⟩
      | some h =>
        refine iteF ⟨_, rfl, _, rfl, _, _, rfl, ?_⟩
        exact ⟨_, rfl, _, rfl, _, rfl, _, _, rfl, rfl, _, _, rfl, rfl, _, _, rfl, _, _, rfl, rfl, cm, _, _, _, _, rfl, s3⟩
  · obtain ⟨_, _, _, _, rfl, s3⟩ := h3
    rw [List.length_map, l2]
    exact ⟨_, rfl, q _ (s1.trans (s2.trans s3))⟩
theorem len_countAlike (vs : List V) (H : Hp) (Q : VK) (E : XK) (h : spCountAlike vs H Q E) : vs.length = (["tree", "values", "least", "most"] : List Str).length := by
  obtain ⟨v, t, a, ns, lt, mt, rfl, _⟩ := h
  rfl
theorem ok_countAlike (B : Bl mg) (C : Df P w K mg base "check_values" 3 ["tree", "values"] spChkV) (Aa : Df P w K mg base "all_allowed" 4 ["tree", "values"] spAllAllowed) (a : At K mg "count_alike" s_count_alike) :
    Df P w K mg base "count_alike" 5 ["tree", "values", "least", "most"] spCountAlike :=
  Df.mk' a sc_countAlike len_countAlike (fun _ _ _ _ _ _ us hl => match us, hl with | [_, _, _, _], _ => rfl) (fn_countAlike B C Aa)
/-! ### by names -/
def rot4 {α : Type} : List α → List α
  | [a, b, c, d] => [d, c, a, b]
  | _ => []
theorem Vals.rot4 {vs : List V} {us : List Value} (r : Vals vs us) : Vals (rot4 vs) (rot4 us) := by
  match vs, us, r with
  | [], [], _ => exact .nil
  | [_], [_], _ => exact .nil
  | [_, _], [_, _], _ => exact .nil
  | [_, _, _], [_, _, _], _ => exact .nil
  | [_, _, _, _], [_, _, _, _], .cons h1 (.cons h2 (.cons h3 (.cons h4 .nil))) => exact .cons h4 (.cons h3 (.cons h1 (.cons h2 .nil)))
  | _ :: _ :: _ :: _ :: _ :: _, _ :: _ :: _ :: _ :: _ :: _, _ => exact .nil
structure CaN (P : Program) (w : World) (K : PySem.W.Frag) (mg : Str → Option Value) (base : Heap) : Prop where
  ex : ∃ (f : Addr) (fd : FuncData), mg "count_alike" = some (.ref f) ∧ PySem.W.keepIn K (.ref f) = true ∧ KBn K fd ["tree", "values", "least", "most"] 0 ["least", "most", "values", "tree"] (fun _ ws => HSP.rot4 ws) (fun _ zs => HSP.rot4 zs) ∧ FnOk P w K mg base CX0 5 f fd ["tree", "values", "least", "most"] spCountAlike
theorem okN_countAlike (B : Bl mg) (C : Df P w K mg base "check_values" 3 ["tree", "values"] spChkV) (Aa : Df P w K mg base "all_allowed" 4 ["tree", "values"] spAllAllowed) (a : At K mg "count_alike" s_count_alike) : CaN P w K mg base := by
  obtain ⟨f, fd, hm, F⟩ := a
  refine ⟨f, fd, hm, F.kp, ⟨fun s us ws _ h1 h2 => ?_, fun _ r => HSP.Vals.rot4 r⟩, F.ok sc_countAlike len_countAlike (fn_countAlike B C Aa f)⟩
  obtain ⟨oc, od, kV, doc, pm, an, cdv, ct, osl, rfl, _⟩ := F.ex
  rw [List.length_eq_zero_iff.mp h1]
  match ws, h2 with
  | [_, _, _, _], _ => exact .of_eq rfl
end
section
variable {X : Cx} {p pos : Pos} {kws : List Keyword} {tk : TA}
theorem pe_caN (J : CaN X.prog X.w X.K X.mg X.base) (hr : Room 5 X.A) (hkw : PK X kws tk) (hg : Gl X "count_alike" := by rfl) (hall : (backToKw pos (keywordEach kws X.env)).all (·.1.isSome) = true := by rfl) (hks : (backToKw pos (keywordEach kws X.env)).filterMap (·.1) = (["least", "most", "values", "tree"] : List Str) := by rfl)
    (hpl : (backToKw pos (keywordEach kws X.env)).any (·.1.isNone) = false := by rfl) : PE X (.Call (.Name "count_alike" p) [] kws pos) (tCallN 0 4 spCountAlike (fun _ zs => rot4 zs) E0 tNil tk) := by
  obtain ⟨f, fd, hm, hk, kb, F⟩ := J.ex
  exact pe_callK0 F hr hg hm hk kb pass0 hkw hall hks (by decide) hpl
end
end HSP
namespace HSP
open PySem PySem.Spec PyProof.Rows L2
/-! ## how many lists act alike -/
/-- all lists of k numbers, w of them from lo on -/
def listsOf (lo : Int) (w : Nat) : Nat → List (List Int)
  | 0 => [[]]
  | k + 1 => (listsOf lo w k).flatMap fun s => (List.range w).map fun (i : Nat) => s ++ [lo + (i : Int)]
theorem lists_len {lo : Int} {w : Nat} : ∀ (k : Nat) (s : List Int), s ∈ listsOf lo w k → s.length = k
  | 0, s, h => by
    rw [List.mem_singleton.mp h]
    rfl
  | k + 1, s, h => by
    obtain ⟨s0, h0, h1⟩ := List.mem_flatMap.mp h
    obtain ⟨i, hi, rfl⟩ := List.mem_map.mp h1
    rw [List.length_append, lists_len k s0 h0]
    rfl
theorem lists_in {lo : Int} {w : Nat} : ∀ (k : Nat) (s : List Int), s ∈ listsOf lo w k → ∀ v, v ∈ s → lo ≤ v ∧ v < lo + w
  | 0, s, h => by
    rw [List.mem_singleton.mp h]
    intro v hv
    cases hv
  | k + 1, s, h => by
    obtain ⟨s0, h0, h1⟩ := List.mem_flatMap.mp h
    obtain ⟨i, hi, rfl⟩ := List.mem_map.mp h1
    intro v hv
    rcases List.mem_append.mp hv with hv | hv
    · exact lists_in k s0 h0 v hv
    · rw [List.mem_singleton.mp hv]
      have := List.mem_range.mp hi
      omega
theorem flat_len {α β : Type} (f : α → List β) (c : Nat) : ∀ L : List α, (∀ s, s ∈ L → (f s).length = c) → (L.flatMap f).length = L.length * c
  | [], _ => by rw [List.length_nil, Nat.zero_mul]; rfl
  | s :: r, h => by
    rw [List.flatMap_cons, List.length_append, h s List.mem_cons_self, flat_len f c r fun s hs => h s (List.mem_cons_of_mem _ hs), List.length_cons, Nat.succ_mul, Nat.add_comm]
theorem lists_many (lo : Int) (w : Nat) : ∀ k, (listsOf lo w k).length = w ^ k
  | 0 => rfl
  | k + 1 => by
    show ((listsOf lo w k).flatMap _).length = _
    rw [flat_len _ w _ fun s _ => by rw [List.length_map, List.length_range], lists_many lo w k, Nat.pow_succ]
theorem flat_count {α β : Type} (f : α → List β) (P : α → Bool) (P' : β → Bool) (c : Nat) : ∀ L : List α, (∀ s, s ∈ L → ((f s).filter P').length = if P s = true then c else 0) → ((L.flatMap f).filter P').length = (L.filter P).length * c
  | [], _ => by
    show 0 = 0 * c
    rw [Nat.zero_mul]
  | s :: r, h => by
    rw [List.flatMap_cons, List.filter_append, List.length_append, h s List.mem_cons_self, flat_count f P P' c r fun s hs => h s (List.mem_cons_of_mem _ hs)]
    cases e : P s with
    | true => rw [List.filter_cons_of_pos e, List.length_cons, Nat.succ_mul, if_pos rfl, Nat.add_comm]
    | false => rw [List.filter_cons_of_neg (by rw [e]; exact Bool.false_ne_true), if_neg Bool.false_ne_true, Nat.zero_add]
/-- what each number of a list keeps -/
def eachOf (p : Nat → Int → Bool) (k : Nat) (s : List Int) : Bool := decide (∀ j, j < k → p j (valAt s j) = true)
theorem valAt_app_lt {s : List Int} {x : Int} {j : Nat} (h : j < s.length) : valAt (s ++ [x]) j = valAt s j := by
  unfold valAt
  rw [List.getD_eq_getElem?_getD, List.getElem?_append_left h, ← List.getD_eq_getElem?_getD]
theorem valAt_app_eq {s : List Int} {x : Int} : valAt (s ++ [x]) s.length = x := by
  unfold valAt
  rw [List.getD_eq_getElem?_getD, List.getElem?_append_right (Nat.le_refl _), Nat.sub_self]
  rfl
theorem each_app (p : Nat → Int → Bool) (s : List Int) (x : Int) : eachOf p (s.length + 1) (s ++ [x]) = (eachOf p s.length s && p s.length x) := by
  unfold eachOf
  rw [Bool.eq_iff_iff, decide_eq_true_iff, Bool.and_eq_true, decide_eq_true_iff]
  constructor
  · intro h
    refine ⟨fun j hj => ?_, ?_⟩
    · have z := h j (by omega)
      rw [valAt_app_lt hj] at z
      exact z
    · have z := h s.length (by omega)
      rw [valAt_app_eq] at z
      exact z
  · rintro ⟨h1, h2⟩ j hj
    by_cases c : j < s.length
    · rw [valAt_app_lt c]
      exact h1 j c
    · rw [show j = s.length by omega, valAt_app_eq]
      exact h2
def fewN (p : Int → Bool) (lo : Int) (w : Nat) : Nat := ((List.range w).filter fun (i : Nat) => p (lo + (i : Int))).length
def prodN (p : Nat → Int → Bool) (lo : Int) (w : Nat) : Nat → Nat
  | 0 => 1
  | k + 1 => prodN p lo w k * fewN (p k) lo w
theorem lists_count (p : Nat → Int → Bool) (lo : Int) (w : Nat) : ∀ k, ((listsOf lo w k).filter (eachOf p k)).length = prodN p lo w k
  | 0 => by
    have e : eachOf p 0 [] = true := by
      unfold eachOf
      rw [decide_eq_true_iff]
      intro j hj
      omega
    show ((List.filter (eachOf p 0) [[]]).length) = 1
    rw [List.filter_cons_of_pos e]
    rfl
  | k + 1 => by
    show (((listsOf lo w k).flatMap _).filter _).length = prodN p lo w k * fewN (p k) lo w
    rw [← lists_count p lo w k]
    refine flat_count _ _ _ _ _ fun s hs => ?_
    have l := lists_len k s hs
    subst l
    rw [List.filter_map, List.length_map]
    unfold fewN
    have e : ∀ i : Nat, (eachOf p (s.length + 1) ∘ fun (i : Nat) => s ++ [lo + (i : Int)]) i = (eachOf p s.length s && p s.length (lo + (i : Int))) := fun i => each_app p s _
    cases c : eachOf p s.length s with
    | true =>
      rw [if_pos rfl, List.filter_congr (q := fun (i : Nat) => p s.length (lo + (i : Int))) fun i _ => by rw [e i, c, Bool.true_and]]
    | false =>
      rw [if_neg Bool.false_ne_true, List.filter_congr (q := fun _ => false) fun i _ => by rw [e i, c, Bool.false_and]]
      rw [List.filter_eq_nil_iff.mpr fun _ _ => Bool.false_ne_true]
      rfl
theorem few_between (A B lo : Int) (hA : lo ≤ A) : ∀ w : Nat, ((List.range w).filter fun (i : Nat) => decide (A ≤ lo + (i : Int)) && decide (lo + (i : Int) ≤ B)).length = (min B (lo + (w : Int) - 1) - A + 1).toNat
  | 0 => by
    show 0 = _
    omega
  | w + 1 => by
    rw [List.range_succ, List.filter_append, List.length_append, few_between A B lo hA w]
    by_cases c1 : A ≤ lo + (w : Int)
    · by_cases c2 : lo + (w : Int) ≤ B
      · rw [List.filter_cons_of_pos (by rw [decide_eq_true c1, decide_eq_true c2]; rfl)]
        show _ + 1 = _
        omega
      · rw [List.filter_cons_of_neg (by rw [decide_eq_false c2, Bool.and_false]; exact Bool.false_ne_true)]
        show _ + 0 = _
        omega
    · rw [List.filter_cons_of_neg (by rw [decide_eq_false c1, Bool.false_and]; exact Bool.false_ne_true)]
      show _ + 0 = _
      omega
theorem fits_iff {x : Int} {a b : Option Int} : fitsOf x (a, b) = true ↔ (∀ z, a = some z → z ≤ x) ∧ (∀ z, b = some z → x ≤ z) := by
  unfold fitsOf
  rw [Bool.and_eq_true]
  refine and_congr ?_ ?_
  · cases a with
    | none => exact ⟨fun _ z h => (nomatch h), fun _ => rfl⟩
    | some y => exact ⟨fun h z e => (by cases e; exact of_decide_eq_true h), fun h => decide_eq_true (h y rfl)⟩
  · cases b with
    | none => exact ⟨fun _ z h => (nomatch h), fun _ => rfl⟩
    | some y => exact ⟨fun h z e => (by cases e; exact of_decide_eq_true h), fun h => decide_eq_true (h y rfl)⟩
theorem few_cnt (pr : Option Int × Option Int) (lo : Int) (w : Nat) : ((fewN (fun x => fitsOf x pr) lo w : Nat) : Int) = cntOf lo (lo + (w : Int) - 1) pr := by
  obtain ⟨a, b⟩ := pr
  have hA : lo ≤ fromOf lo a := by
    unfold fromOf
    split
    · exact Int.le_refl _
    · split <;> omega
  have hB : toOf (lo + (w : Int) - 1) b ≤ lo + (w : Int) - 1 := by
    unfold toOf
    split
    · exact Int.le_refl _
    · split <;> omega
  unfold fewN
  rw [List.filter_congr (q := fun (i : Nat) => decide (fromOf lo a ≤ lo + (i : Int)) && decide (lo + (i : Int) ≤ toOf (lo + (w : Int) - 1) b)) fun i hi => ?_]
  · rw [few_between _ _ lo hA w]
    unfold cntOf
    show (((min (toOf (lo + (w : Int) - 1) b) (lo + (w : Int) - 1) - fromOf lo a + 1).toNat : Nat) : Int) = if toOf (lo + (w : Int) - 1) b - fromOf lo a + 1 > 0 then toOf (lo + (w : Int) - 1) b - fromOf lo a + 1 else 0
    split <;> omega
  · have hi := List.mem_range.mp hi
    rw [Bool.eq_iff_iff, Bool.and_eq_true, decide_eq_true_iff, decide_eq_true_iff, fits_iff]
    have h1 : (∀ z, a = some z → z ≤ lo + (i : Int)) ↔ fromOf lo a ≤ lo + (i : Int) := by
      unfold fromOf
      cases a with
      | none => exact ⟨fun _ => by show lo ≤ _; omega, fun _ z h => nomatch h⟩
      | some z =>
        show _ ↔ (if z > lo then z else lo) ≤ _
        constructor
        · intro h
          have := h z rfl
          split <;> omega
        · intro h y hy
          cases hy
          split at h <;> omega
    have h2 : (∀ z, b = some z → lo + (i : Int) ≤ z) ↔ lo + (i : Int) ≤ toOf (lo + (w : Int) - 1) b := by
      unfold toOf
      cases b with
      | none => exact ⟨fun _ => by show _ ≤ lo + (w : Int) - 1; omega, fun _ z h => nomatch h⟩
      | some z =>
        show _ ↔ _ ≤ (if z < lo + (w : Int) - 1 then z else lo + (w : Int) - 1)
        constructor
        · intro h
          have := h z rfl
          split <;> omega
        · intro h y hy
          cases hy
          split at h <;> omega
    rw [h1, h2]
theorem prod_prodC (g : Nat → Int) (t : Tr) (lo : Int) (w : Nat) : ∀ k, ((prodN (fun j x => fitsOf x (alwAt g t j)) lo w k : Nat) : Int) = prodC g t lo (lo + (w : Int) - 1) k
  | 0 => rfl
  | k + 1 => by
    show ((_ * _ : Nat) : Int) = prodC g t lo (lo + (w : Int) - 1) k * _
    rw [Int.natCast_mul, prod_prodC g t lo w k, few_cnt]
/-- how many of the lists end as g does at all numbers asked -/
theorem often_eq {ns : List Int} {t : Tr} {lo : Int} {w : Nat} {ks E : List Int} (hn : ns.length = t.size) (sub : ∀ v, v ∈ ns → v ∈ E) (sub2 : ∀ z, lo ≤ z → z < lo + w → z ∈ E) (hk : ∀ e, e ∈ E → 2 * e ∈ ks ∧ 2 * e + 1 ∈ ks) :
    ((((listsOf lo w t.size).filter fun s => decide (endsL (valAt s) t ks = endsL (valAt ns) t ks)).length : Nat) : Int) = prodC (valAt ns) t lo (lo + (w : Int) - 1) t.size := by
  rw [← prod_prodC, ← lists_count, List.filter_congr fun s hs => ?_]
  unfold eachOf
  rw [decide_eq_decide, ends_cover (edges_of (lists_len _ s hs) fun v hv => sub2 v (lists_in _ s hs v hv).1 (lists_in _ s hs v hv).2) (edges_of hn sub) hk, ← alike_each]
end HSP
namespace HSP
open PySem PySem.Spec PyProof.Rows L2
def InO (A B : Int) (o : Option Int) : Prop := ∀ l, o = some l → A ≤ l ∧ l ≤ B
theorem clamp_near {A B v : Int} {lo hi : Option Int} (h1 : InO A B lo) (h2 : InO A B hi) (h : A ≤ v ∧ v ≤ B) : A ≤ clamp lo hi v ∧ clamp lo hi v ≤ B := by
  cases lo with
  | none => cases hi with
    | none => exact h
    | some b =>
      have := h2 b rfl
      show A ≤ (if v ≥ b then b else v) ∧ (if v ≥ b then b else v) ≤ B
      split <;> omega
  | some l => cases hi with
    | none =>
      have := h1 l rfl
      show A ≤ (if v ≤ l then l else v) ∧ (if v ≤ l then l else v) ≤ B
      split <;> omega
    | some b =>
      have := h1 l rfl
      have := h2 b rfl
      show A ≤ (if v ≤ l then l else if v ≥ b then b else v) ∧ (if v ≤ l then l else if v ≥ b then b else v) ≤ B
      split <;> (try split) <;> omega
theorem rep_near {g : Nat → Int} {A B : Int} : ∀ (t : Tr) (f : Nat) (lo hi : Option Int), InO A B lo → InO A B hi → (∀ j, f ≤ j → j < f + t.size → A ≤ g j ∧ g j ≤ B) → ∀ x, x ∈ repOf g t f lo hi → A ≤ x ∧ x ≤ B
  | .nil, _, _, _, _, _, _, x, hx => by cases hx
  | .nod l r, f, lo, hi, h1, h2, h, x, hx => by
    rw [size_nod] at h
    have c := clamp_near h1 h2 (h (f + l.size) (by omega) (by omega))
    have ic : InO A B (some (clamp lo hi (g (f + l.size)))) := fun z e => by cases e; exact c
    rw [repOf_nod] at hx
    rcases List.mem_append.mp hx with hx | hx
    · exact rep_near l f _ _ h1 ic (fun j a b => h j a (by omega)) x hx
    · rcases List.mem_cons.mp hx with rfl | hx
      · exact c
      · exact rep_near r (f + l.size + 1) _ _ ic h2 (fun j a b => h j (by omega) (by omega)) x hx
/-- what a node may have, by its label and the value held there -/
def roomOf (least most b : Int) : Lb → Int
  | .found => 1
  | .low => b - least + 1
  | .high => most - b + 1
  | .dead => most - least + 1
theorem cnt_some {least most a b : Int} (h1 : least ≤ a) (h2 : b ≤ most) (h : a ≤ b) : cntOf least most (some a, some b) = b - a + 1 := by
  have e1 : fromOf least (some a) = a := by
    show (if a > least then a else least) = a
    split <;> omega
  have e2 : toOf most (some b) = b := by
    show (if b < most then b else most) = b
    split <;> omega
  unfold cntOf
  show (if toOf most (some b) - fromOf least (some a) + 1 > 0 then toOf most (some b) - fromOf least (some a) + 1 else 0) = _
  rw [e1, e2, if_pos (by omega)]
theorem cnt_low {least most b : Int} (h1 : least ≤ b) (h2 : b ≤ most) : cntOf least most (none, some b) = b - least + 1 := by
  have e2 : toOf most (some b) = b := by
    show (if b < most then b else most) = b
    split <;> omega
  unfold cntOf
  show (if toOf most (some b) - least + 1 > 0 then toOf most (some b) - least + 1 else 0) = _
  rw [e2, if_pos (by omega)]
theorem cnt_high {least most a : Int} (h1 : least ≤ a) (h2 : a ≤ most) : cntOf least most (some a, none) = most - a + 1 := by
  have e1 : fromOf least (some a) = a := by
    show (if a > least then a else least) = a
    split <;> omega
  unfold cntOf
  show (if most - fromOf least (some a) + 1 > 0 then most - fromOf least (some a) + 1 else 0) = _
  rw [e1, if_pos (by omega)]
theorem cnt_free {least most : Int} (h : least ≤ most) : cntOf least most (none, none) = most - least + 1 := by
  unfold cntOf
  show (if most - least + 1 > 0 then most - least + 1 else 0) = _
  rw [if_pos (by omega)]
theorem cnt_room {g : Nat → Int} {t : Tr} {i : Nat} {least most b : Int} (hb : b = clamp (stOf g none none (pOf t 0 i)).1 (stOf g none none (pOf t 0 i)).2 (g i)) (hv : least ≤ g i ∧ g i ≤ most) (hbb : least ≤ b ∧ b ≤ most) : cntOf least most (alwAt g t i) = roomOf least most b (labAt g t i) := by
  have ea : alwAt g t i = alw (bndOf g (pOf t 0 i)) (g i) := rfl
  have el : labAt g t i = lbOf (bndOf g (pOf t 0 i)) (g i) := rfl
  rw [ea, el]
  generalize pOf t 0 i = p at hb
  generalize g i = v at hb hv
  rcases st_bounds g p none none (fun l h e => by cases e) with ⟨rm, e⟩ | ⟨no, c, e⟩
  · have e1 : omax none (lowOf g p) = lowOf g p := rfl
    have e2 : omin none (highOf g p) = highOf g p := rfl
    rw [e1, e2] at rm e
    rw [e] at hb
    have eb : bndOf g p = some (lowOf g p, highOf g p) := by
      unfold bndOf
      cases el : lowOf g p with
      | none => rfl
      | some a => cases eh : highOf g p with
        | none => rfl
        | some b =>
          have := rm a b el eh
          show (if a ≥ b then none else some (some a, some b)) = _
          rw [if_neg (by omega)]
    rw [eb]
    rcases lb_cases (lowOf g p) (highOf g p) v rm with ⟨h1, h2, _⟩ | ⟨h1, l, h2, h3, h4⟩ | ⟨h1, l, h2, h3, h4⟩
    · rw [alw_found h1, h1, cnt_some hv.1 hv.2 (Int.le_refl _)]
      show v - v + 1 = 1
      omega
    · rw [alw_low h1, h1]
      show cntOf least most (none, lowOf g p) = b - least + 1
      have hb : b = clamp (lowOf g p) (highOf g p) v := hb
      rw [h4] at hb
      rw [h2, ← hb, cnt_low hbb.1 hbb.2]
    · rw [alw_high h1, h1]
      show cntOf least most (highOf g p, none) = most - b + 1
      have hb : b = clamp (lowOf g p) (highOf g p) v := hb
      rw [h4] at hb
      rw [h2, ← hb, cnt_high hbb.1 hbb.2]
  · have eb : bndOf g p = none := by
      unfold bndOf
      cases el : lowOf g p with
      | none => exact absurd (fun l h e1 e2 => by rw [show omax none (lowOf g p) = lowOf g p from rfl, el] at e1; cases e1) no
      | some a => cases eh : highOf g p with
        | none => exact absurd (fun l h e1 e2 => by rw [show omin none (highOf g p) = highOf g p from rfl, eh] at e2; cases e2) no
        | some b =>
          show (if a ≥ b then none else some (some a, some b)) = none
          rw [if_pos]
          refine Decidable.byContradiction fun c => no fun l h e1 e2 => ?_
          rw [show omax none (lowOf g p) = lowOf g p from rfl, el] at e1
          rw [show omin none (highOf g p) = highOf g p from rfl, eh] at e2
          cases e1
          cases e2
          omega
    have h1 : lbOf (bndOf g p) v = .dead := by rw [eb]; rfl
    rw [alw_dead h1, h1, cnt_free (by omega)]
    rfl
end HSP
namespace HSP
open PySem PySem.Spec PyProof.Rows L2
section
variable {P : Program} {w : World} {K : PySem.W.Frag} {mg : Str → Option Value} {base : Heap}
/-- nothing can be asked: no room is needed -/
theorem Df.none' {x : Str} {st : Stmt} {ps : List Str} {sp : Sp} (a : At K mg x st) (no : ∀ vs H Q E, ¬ sp vs H Q E)
    (hb : ∀ (kV doc pm : Value) (an : Option Addr) (cdv ct : Value) (us : List Value), us.length = ps.length → bindArgs (PySem.W.fnOf x x (defArgs st) (defBody st) (defScope st) .none kV doc pm an cdv ct) ⟨us, []⟩ = pure (ps.zip us)) (k : Nat) : Df P w K mg base x k ps sp := by
  obtain ⟨f, fd, hm, F⟩ := a
  exact ⟨f, fd, hm, F.kp, F.binds hb, ⟨fun vs H Q E h => absurd h (no vs H Q E), fun A outer s H args us vs Q E _ _ _ _ h => absurd h (no vs H Q E)⟩⟩
def spSize (n : Nat) : Sp := fun vs H Q _ => ∃ (v : V) (t : Tr), vs = [v] ∧ TrAt H v t ∧ t.ht < n ∧ Q (.int t.size) H
end
end HSP
namespace HSP
open PySem PySem.Spec PyProof.Rows L2
section
variable {P : Program} {w : World} {K : PySem.W.Frag} {mg : Str → Option Value} {base : Heap}
/-! ### _law_even_tree -/
/-- how many nodes so many levels are enough for -/
def evenB : Nat → Nat
  | 0 => 0
  | n + 1 => 3 * evenB n / 2 + 1
theorem sc_law_even_tree : FnScope n_law_even_tree ["draws", "nodes"] (defScope s_law_even_tree) := ⟨rfl, rfl, rfl, by decide +kernel, rfl, by decide +kernel, by decide +kernel⟩
def spEven (n : Nat) : Sp := fun vs H Q _ => ∃ (p : Addr) (m k : Nat), vs = [.ref p, .int (m : Int)] ∧ m < evenB n ∧ DrAt H p k ∧ k + m ≤ 100000 ∧ ∀ (H' : Hp) (v : V) (t : Tr), Keep p H H' → DrAt H' p (k + m) → TrAt H' v t → t.size = m → Q v H'
theorem ok_even (B : Bl mg) (N : Df P w K mg base "_law_next" 1 ["draws"] spNext) (a : At K mg "_law_even_tree" s_law_even_tree) : ∀ n, Df P w K mg base "_law_even_tree" (n + 1) ["draws", "nodes"] (spEven n)
  | 0 => Df.none' a (fun vs H Q E h => by obtain ⟨p, m, k, _, h, _⟩ := h; exact absurd h (Nat.not_lt_zero _)) (fun _ _ _ _ _ _ us hl => match us, hl with | [_, _], _ => rfl) 1
  | n + 1 => by
    have D := ok_even B N a n
    refine Df.mk' a sc_law_even_tree (fun vs H Q E h => ?_) (fun _ _ _ _ _ _ us hl => match us, hl with | [_, _], _ => rfl) (fun f cdv A outer s H vs Q E hr h => ?_)
    · obtain ⟨p, m, k, rfl, _⟩ := h
      rfl
    obtain ⟨p, m, k, rfl, hm, hd, hk, q⟩ := h
    have hm : m < 3 * evenB n / 2 + 1 := hm
    refine ⟨_, (pss_cons (ps_if (pt_cmpR op_eq (pv 1) pe_int (nomark _)) (pss_one (ps_ret pe_non)) pss_nil)
 (pss_cons (ps_set (i := 2) sc_law_even_tree.nd rfl (.inl rfl) (pe_op op_add (pe_op op_fdiv (pv 1) pe_int) (pe_op op_mod (pe_callTy call_int1 (by rfl) B.int (by decide +kernel) (pa_cons (pe_df N (hr.mono (by omega)) (pa_cons (pv 0) pa_nil)) pa_nil)) (pe_op op_sub (pv 1) (pe_op op_mul pe_int (pe_op op_fdiv (pv 1) pe_int))))))
 (pss_one (ps_ret (pe_tup (pa_cons (pe_df D hr (pa_cons (pv 0) (pa_cons (pv 2) pa_nil))) (pa_cons (pe_df D hr (pa_cons (pv 0) (pa_cons (pe_op op_sub (pe_op op_sub (pv 1) pe_int) (pv 2)) pa_nil))) pa_nil))))))), ?_⟩
    refine ⟨_, rfl, rfl, _, rfl, ?_⟩
    refine ite2 (fun c => ?_) (fun c => ?_)
    · have m0 : (m : Int) = 0 := V.int.inj (of_decide_eq_true c)
      exact q H .non .nil (Keep.refl _ _) (hd.mono (by omega)) .nil (by show 0 = m; omega)
    have m1 : ¬ (m : Int) = 0 := fun z => c (decide_eq_true (congrArg V.int z))
    have mp : (0 : Int) < (m : Int) - 2 * ((m : Int) / 3) := by omega
    refine ⟨_, rfl, _, _, rfl, rfl, ⟨by decide, by decide⟩, _, rfl, p, k, rfl, hd, by omega, fun H1 r1 kp1 d1 a1 a2 => .inl ⟨_, rfl, _, rfl, _, rfl, _, _, rfl, rfl, ⟨by decide, by decide⟩, _, _, rfl, rfl, .inl ⟨by decide, by decide⟩, _, _, rfl, rfl, _, _, rfl, rfl, mp, _, _, rfl, rfl, ?_⟩⟩
    have u1 := Int.emod_nonneg r1 (show ((m : Int) - 2 * ((m : Int) / 3)) ≠ 0 by omega)
    have u2 := Int.emod_lt_of_pos r1 mp
    obtain ⟨j, ej, hj, hj0⟩ : ∃ j : Nat, (m : Int) / 3 + r1 % ((m : Int) - 2 * ((m : Int) / 3)) = (j : Int) ∧ j < m ∧ j < evenB n ∧ m - 1 - j < evenB n := by
      refine ⟨((m : Int) / 3 + r1 % ((m : Int) - 2 * ((m : Int) / 3))).toNat, by omega, by omega, by omega, by omega⟩
    refine ⟨_, rfl, _, rfl, p, j, k + 1, congrArg (fun z => [V.ref p, V.int z]) ej, hj0.1, d1, by omega, fun H3 v3 t3 kp3 d3 b3 s3 => ?_⟩
    refine ⟨_, rfl, _, rfl, _, _, rfl, rfl, _, rfl, _, _, rfl, rfl, p, m - 1 - j, k + 1 + j, congrArg (fun z => [V.ref p, V.int z]) (by omega : (m : Int) - 1 - ((m : Int) / 3 + r1 % ((m : Int) - 2 * ((m : Int) / 3))) = ((m - 1 - j : Nat) : Int)), hj0.2, d3, by omega, fun H4 v4 t4 kp4 d4 b4 s4 => ?_⟩
    refine ⟨(by show 2 ≤ sizeLine; decide), fun T hT => ?_⟩
    have s5 := Same.new (o := .tup [v3, v4]) hT
    refine q _ (.ref T) (.nod t3 t4) (kp1.trans (kp3.trans (kp4.trans (Keep.new hT)))) ((d4.mono (by omega)).same s5) (.nod upd_same ((d3.tree kp4 b3).same s5) (b4.same s5)) ?_
    show t3.size + 1 + t4.size = m
    omega
end
end HSP
namespace HSP
open PySem PySem.Spec PyProof.Rows L2
section
variable {P : Program} {w : World} {K : PySem.W.Frag} {mg : Str → Option Value} {base : Heap}
/-! ### _law_numbers -/
theorem sc_law_numbers : FnScope n_law_numbers ["draws", "nodes"] (defScope s_law_numbers) := ⟨rfl, rfl, rfl, by decide +kernel, rfl, by decide +kernel, by decide +kernel⟩
def spNumbers : Sp := fun vs H Q _ => ∃ (p : Addr) (m k : Nat), vs = [.ref p, .int (m : Int)] ∧ m ≤ 100 ∧ DrAt H p k ∧ k + m + 1 ≤ 100000 ∧ ∀ (H' : Hp) (q : Addr) (ns : List Int), Keep p H H' → DrAt H' p (k + m + 1) → H q = none → H' q = some (.lst (ns.map V.int)) → ns.length = m → Near ns → Q (.ref q) H'
theorem ok_numbers (B : Bl mg) (N : Df P w K mg base "_law_next" 1 ["draws"] spNext) (a : At K mg "_law_numbers" s_law_numbers) : Df P w K mg base "_law_numbers" 2 ["draws", "nodes"] spNumbers := by
  refine Df.mk' a sc_law_numbers (fun vs H Q E h => ?_) (fun _ _ _ _ _ _ us hl => match us, hl with | [_, _], _ => rfl) (fun f cdv A outer s H vs Q E hr h => ?_)
  · obtain ⟨p, m, k, rfl, _⟩ := h
    rfl
  obtain ⟨p, m, k, rfl, hm, hd, hk, q⟩ := h
  refine ⟨_, (pss_cons (ps_set (i := 2) sc_law_numbers.nd rfl (.inr rfl) (pe_op op_add pe_int (pe_op op_mod (pe_callTy call_int1 (by rfl) B.int (by decide +kernel) (pa_cons (pe_df N hr (pa_cons (pv 0) pa_nil)) pa_nil)) (pe_op op_add (pe_op op_mul pe_int (pv 1)) pe_int))))
 (pss_one (ps_ret (pe_lc (own := [("k", 3)]) (g := (gName 3)) (tt := tYes) (by rfl) sc_law_numbers.nd (pi_range1 (by rfl) B.range (pa_cons (pv 1) pa_nil)) (blkOk_by (N := n_law_numbers) (sc := defScope s_law_numbers) (by decide +kernel)) (fun _ _ _ _ _ => (pg_name (i := 3) sc_law_numbers.nd rfl (.inl rfl))) (fun _ _ _ _ _ => pts_nil) (fun _ _ _ _ _ => (pe_op op_sub (pe_op op_mod (pe_callTy call_int1 (by rfl) B.int (by decide +kernel) (pa_cons (pe_df N hr (pa_cons (pv 0) pa_nil)) pa_nil)) (pv 2)) pe_int)))))), ?_⟩
  refine ⟨_, rfl, p, k, rfl, hd, by omega, fun H1 r1 kp1 d1 a1 a2 => .inl ⟨_, rfl, _, rfl, _, _, rfl, rfl, .inl ⟨by decide, by decide⟩, _, _, rfl, rfl, _, _, rfl, rfl, (by show (0 : Int) < 2 * (m : Int) + 2; omega), _, _, rfl, rfl, ?_⟩⟩
  have w1 := Int.emod_nonneg r1 (show 2 * (m : Int) + 2 ≠ 0 by omega)
  have w2 := Int.emod_lt_of_pos r1 (show 0 < 2 * (m : Int) + 2 by omega)
  refine ⟨_, rfl, _, rfl, by omega, by omega, fun D hD => ?_⟩
  have nDp : D ≠ p := d1.ne hD
  have nD0 : H D = none := by
    cases e : H D with
    | none => rfl
    | some o => cases hD.symm.trans (kp1 D o nDp e)
  refine lc_range (lo := 0) (n := m) (fun i H' => ∃ ns : List Int, Keep p H H' ∧ DrAt H' p (k + 1 + i) ∧ H' D = some (.lst (ns.map V.int)) ∧ ns.length = i ∧ Near ns) ⟨[], kp1.trans (Keep.new hD), d1.same (Same.new hD), upd_same, rfl, .nil⟩ (fun i H3 hi h3 => ?_) (fun H3 h3 => ?_)
  · obtain ⟨ns, kp3, d3, e3, l3, w3⟩ := h3
    refine ⟨rfl, ?_⟩
    refine ⟨_, rfl, p, k + 1 + i, rfl, d3, by omega, fun H4 r2 kp4 d4 b1 b2 => .inl ⟨_, rfl, _, rfl, _, _, rfl, rfl, (by show 0 < 1 + r1 % (2 * (m : Int) + 2); omega), _, _, rfl, rfl, _, kp4 D _ nDp e3, ?_, ?_⟩⟩
    · rw [List.length_map]
      exact small1000 (by omega)
    · have v1 := Int.emod_nonneg r2 (show 1 + r1 % (2 * (m : Int) + 2) ≠ 0 by omega)
      have v2 := Int.emod_lt_of_pos r2 (show 0 < 1 + r1 % (2 * (m : Int) + 2) by omega)
      refine ⟨ns ++ [r2 % (1 + r1 % (2 * (m : Int) + 2)) - 2], Keep.put nD0 (kp3.trans kp4), d4.put nDp, ?_, ?_, w3.snoc (by omega)⟩
      · rw [upd_same, List.map_append]
        rfl
      · rw [List.length_append, List.length_singleton, l3]
  · obtain ⟨ns, kp3, d3, e3, l3, w3⟩ := h3
    exact q H3 D ns kp3 (d3.mono (by omega)) nD0 e3 l3 w3
end
end HSP
namespace HSP
open PySem PySem.Spec PyProof.Rows L2
section
variable {P : Program} {w : World} {K : PySem.W.Frag} {mg : Str → Option Value} {base : Heap}
theorem sc_labels : FnScope n_labels ["tree", "values"] (defScope s_labels) := ⟨rfl, rfl, rfl, by decide +kernel, rfl, by decide +kernel, by decide +kernel⟩
theorem okB_labels (C : Df P w K mg base "check_values" 3 ["tree", "values"] spChkV) (L : Df P w K mg base "labels_of" 4 ["tree", "values"] spLabels) (a : At K mg "labels" s_labels) : DfB P w K mg base "labels" 5 ["tree", "values"] ["values", "tree"] spLabels := by
  refine DfB.mk' a sc_labels (fun vs H Q E h => ?_) (fun _ _ _ _ _ _ us hl => match us, hl with | [_, _], _ => rfl) (fun _ _ _ _ _ _ us hl => match us, hl with | [_, _], _ => rfl) (fun f cdv A outer s H vs Q E hr h => ?_)
  · obtain ⟨v, t, a, ns, rfl, _⟩ := h
    rfl
  obtain ⟨v, t, a, ns, rfl, ht, hz, ha, hn, q⟩ := h
  refine ⟨_, (pss_cons (ps_expr (pe_df C (hr.mono (by decide)) (pa_cons (pv 0) (pa_cons (pv 1) pa_nil))))
 (pss_one (ps_ret (pe_df L hr (pa_cons (pv 0) (pa_cons (pv 1) pa_nil)))))), ?_⟩
  refine ⟨v, rfl, _, rfl, v, t, a, ns, rfl, ht, by omega, ha, hn, fun H1 s1 => ?_⟩
  exact ⟨v, rfl, _, rfl, v, t, a, ns, rfl, ht.same s1, hz, s1 _ _ ha, hn, fun H2 q0 s2 n2 e2 => q H2 q0 (s1.trans s2) (s1.free n2) e2⟩
end
end HSP
namespace HSP
open PySem PySem.Spec PyProof.Rows L2
theorem units65 {k : Nat} {A : Around} (r : Room k A) : A.units + 65 < cLine := by have := r.un; omega
theorem path_ind {α : Type} {C : List α → Prop} (h0 : C []) (h1 : ∀ q z, C q → C (q ++ [z])) : ∀ (n : Nat) (p : List α), p.length = n → C p
  | 0, p, h => by rw [List.length_eq_zero_iff.mp h]; exact h0
  | n + 1, p, h => by
    rcases List.eq_nil_or_concat p with e | ⟨q, z, e⟩
    · rw [e]; exact h0
    · rw [e, List.concat_eq_append]
      refine h1 q z (path_ind h0 h1 n q ?_)
      rw [e, List.concat_eq_append, List.length_append, List.length_singleton] at h
      omega
theorem along (g : Nat → Int) (lab : Nat → Lb) (p : List (Nat × Bool)) (h : Told g lab p) : AliveAt g lab p ∨ DeadAt g lab p := by
  refine path_ind (C := fun p => Told g lab p → AliveAt g lab p ∨ DeadAt g lab p) (fun _ => .inl ⟨rfl, rfl, fun l h e => (by cases e), fun l e => (by cases e), fun l e => (by cases e)⟩) (fun q z ih ht => ?_) p.length p rfl h
  obtain ⟨n, b⟩ := z
  have hl := ht.last
  rcases ih ht.init with ⟨ab, ak, as_, a1, a2⟩ | ⟨db, x, k, q1, c, r, ds, dk, dp, dq, dr⟩
  · rcases hst : stOf g none none q with ⟨lo, hi⟩
    rw [hst] at ab as_ a1 a2
    obtain ⟨el, eh⟩ := bndOf_some ab
    rw [ab] at hl
    have st := stOf_snoc g q none none n b
    rw [hst] at st
    have lsn := low_snoc g q n b
    have hsn := high_snoc g q n b
    rw [el] at lsn
    rw [eh] at hsn
    have ksn := killerOf_snoc (fun n => (lab n).str) q n b
    rw [ak] at ksn
    have k2 : killerOf (fun n => (lab n).str) (q ++ [(n, b)]) = if kills (lab n).str b = true then some n else none := ksn
    rw [kills_lb] at k2
    have bT := boundOf_snoc (fun n => (lab n).str) true q none n b
    have bF := boundOf_snoc (fun n => (lab n).str) false q none n b
    have memq : ∀ {m : Nat} {c : Bool}, (m, c) ∈ q → (m, c) ∈ q ++ [(n, b)] := fun h => List.mem_append_left _ h
    have memn : (n, b) ∈ q ++ [(n, b)] := List.mem_append_right _ List.mem_cons_self
    rcases lb_cases lo hi (g n) as_ with ⟨e1, e2, e3, e4⟩ | ⟨e1, l, e2, e3, e4⟩ | ⟨e1, h, e2, e3, e4⟩
    · -- found
      rw [e1] at hl
      have fs : (lab n).str = ("found" : Str) := (str_found _).mpr hl
      refine .inl ?_
      cases b with
      | true =>
        have st' : stOf g none none (q ++ [(n, true)]) = (some (g n), hi) := by
          rw [st, if_pos rfl]
          exact congrArg (fun z => (some z, hi)) e2
        have l2 : lowOf g (q ++ [(n, true)]) = some (g n) := by
          rw [lsn, if_pos rfl]
          cases lo with
          | none => rfl
          | some l => have := e3 l rfl; exact congrArg some (by omega)
        have h2 : highOf g (q ++ [(n, true)]) = hi := by rw [hsn, if_pos rfl]
        refine ⟨?_, ?_, ?_, ?_, ?_⟩
        · rw [bnd_alive (by rw [l2, h2]; exact fun ⟨a, c, f1, f2, f3⟩ => (by cases f1; have := e4 c f2; omega)), l2, h2, st']
        · rw [k2, hl]
          rfl
        · rw [st']
          exact fun l h f1 f2 => (by cases f1; exact e4 h f2)
        · rw [st']
          intro l f1
          cases f1
          refine ⟨n, true, ?_, memn, hl, rfl⟩
          rw [bT, if_pos ⟨rfl, fs⟩]
        · rw [st']
          intro h f1
          obtain ⟨m, c, g1, g2, g3, g4⟩ := a2 h f1
          refine ⟨m, c, ?_, memq g2, g3, g4⟩
          rw [bF, if_neg (fun z => by cases z.1)]
          exact g1
      | false =>
        have st' : stOf g none none (q ++ [(n, false)]) = (lo, some (g n)) := by
          rw [st, if_neg Bool.false_ne_true]
          exact congrArg (fun z => (lo, some z)) e2
        have l2 : lowOf g (q ++ [(n, false)]) = lo := by rw [lsn, if_neg Bool.false_ne_true]
        have h2 : highOf g (q ++ [(n, false)]) = some (g n) := by
          rw [hsn, if_neg Bool.false_ne_true]
          cases hi with
          | none => rfl
          | some l => have := e4 l rfl; exact congrArg some (by omega)
        refine ⟨?_, ?_, ?_, ?_, ?_⟩
        · rw [bnd_alive (by rw [l2, h2]; exact fun ⟨a, c, f1, f2, f3⟩ => (by cases f2; have := e3 a f1; omega)), l2, h2, st']
        · rw [k2, hl]
          rfl
        · rw [st']
          exact fun l h f1 f2 => (by cases f2; exact e3 l f1)
        · rw [st']
          intro l f1
          obtain ⟨m, c, g1, g2, g3, g4⟩ := a1 l f1
          refine ⟨m, c, ?_, memq g2, g3, g4⟩
          rw [bT, if_neg (fun z => by cases z.1)]
          exact g1
        · rw [st']
          intro h f1
          cases f1
          refine ⟨n, false, ?_, memn, hl, rfl⟩
          rw [bF, if_pos ⟨rfl, fs⟩]
    · -- low
      rw [e1] at hl
      have nf : ¬ (lab n).str = ("found" : Str) := fun z => by have := (str_found _).mp z; rw [hl] at this; cases this
      subst e2
      cases b with
      | true =>
        refine .inl ?_
        have st' : stOf g none none (q ++ [(n, true)]) = (some l, hi) := by
          rw [st, if_pos rfl]
          exact congrArg (fun z => (some z, hi)) e4
        have l2 : lowOf g (q ++ [(n, true)]) = some l := by
          rw [lsn, if_pos rfl]
          exact congrArg some (by omega)
        have h2 : highOf g (q ++ [(n, true)]) = hi := by rw [hsn, if_pos rfl]
        refine ⟨?_, ?_, ?_, ?_, ?_⟩
        · rw [bnd_alive (by rw [l2, h2]; exact fun ⟨a, c, f1, f2, f3⟩ => (by cases f1; have := as_ l c rfl f2; omega)), l2, h2, st']
        · rw [k2, hl]
          rfl
        · rw [st']
          exact as_
        · rw [st']
          intro l' f1
          obtain ⟨m, c, g1, g2, g3, g4⟩ := a1 l' f1
          refine ⟨m, c, ?_, memq g2, g3, g4⟩
          rw [bT, if_neg (fun z => nf z.2)]
          exact g1
        · rw [st']
          intro h f1
          obtain ⟨m, c, g1, g2, g3, g4⟩ := a2 h f1
          refine ⟨m, c, ?_, memq g2, g3, g4⟩
          rw [bF, if_neg (fun z => nf z.2)]
          exact g1
      | false =>
        refine .inr ?_
        have st' : stOf g none none (q ++ [(n, false)]) = (some l, some l) := by
          rw [st, if_neg Bool.false_ne_true]
          exact congrArg (fun z => (some l, some z)) e4
        have l2 : lowOf g (q ++ [(n, false)]) = some l := by rw [lsn, if_neg Bool.false_ne_true]
        have h2 : ∃ c, highOf g (q ++ [(n, false)]) = some c ∧ c ≤ l := by
          rw [hsn, if_neg Bool.false_ne_true]
          cases hi with
          | none => exact ⟨_, rfl, e3⟩
          | some m => exact ⟨_, rfl, by omega⟩
        obtain ⟨c, h2, h3⟩ := h2
        refine ⟨bnd_dead ⟨l, c, l2, h2, h3⟩, l, n, q, false, [], st', ?_, rfl, ?_, ?_⟩
        · rw [k2, hl]
          rfl
        · rw [ab]
          exact fun z => by cases z
        · unfold repAt
          rw [hst]
          exact e4
    · -- high
      rw [e1] at hl
      have nf : ¬ (lab n).str = ("found" : Str) := fun z => by have := (str_found _).mp z; rw [hl] at this; cases this
      subst e2
      cases b with
      | false =>
        refine .inl ?_
        have st' : stOf g none none (q ++ [(n, false)]) = (lo, some h) := by
          rw [st, if_neg Bool.false_ne_true]
          exact congrArg (fun z => (lo, some z)) e4
        have l2 : lowOf g (q ++ [(n, false)]) = lo := by rw [lsn, if_neg Bool.false_ne_true]
        have h2 : highOf g (q ++ [(n, false)]) = some h := by
          rw [hsn, if_neg Bool.false_ne_true]
          exact congrArg some (by omega)
        refine ⟨?_, ?_, ?_, ?_, ?_⟩
        · rw [bnd_alive (by rw [l2, h2]; exact fun ⟨a, c, f1, f2, f3⟩ => (by cases f2; have := as_ a h f1 rfl; omega)), l2, h2, st']
        · rw [k2, hl]
          rfl
        · rw [st']
          exact as_
        · rw [st']
          intro l' f1
          obtain ⟨m, c, g1, g2, g3, g4⟩ := a1 l' f1
          refine ⟨m, c, ?_, memq g2, g3, g4⟩
          rw [bT, if_neg (fun z => nf z.2)]
          exact g1
        · rw [st']
          intro h f1
          obtain ⟨m, c, g1, g2, g3, g4⟩ := a2 h f1
          refine ⟨m, c, ?_, memq g2, g3, g4⟩
          rw [bF, if_neg (fun z => nf z.2)]
          exact g1
      | true =>
        refine .inr ?_
        have st' : stOf g none none (q ++ [(n, true)]) = (some h, some h) := by
          rw [st, if_pos rfl]
          exact congrArg (fun z => (some z, some h)) e4
        have h2 : highOf g (q ++ [(n, true)]) = some h := by rw [hsn, if_pos rfl]
        have l2 : ∃ c, lowOf g (q ++ [(n, true)]) = some c ∧ h ≤ c := by
          rw [lsn, if_pos rfl]
          cases lo with
          | none => exact ⟨_, rfl, e3⟩
          | some m => exact ⟨_, rfl, by omega⟩
        obtain ⟨c, l2, h3⟩ := l2
        refine ⟨bnd_dead ⟨c, h, l2, h2, h3⟩, h, n, q, true, [], st', ?_, rfl, ?_, ?_⟩
        · rw [k2, hl]
          rfl
        · rw [ab]
          exact fun z => by cases z
        · unfold repAt
          rw [hst]
          exact e4
  · refine .inr ⟨?_, x, k, q1, c, r ++ [(n, b)], ?_, ?_, ?_, dq, dr⟩
    · obtain ⟨a, d, e1, e2, le⟩ := bndOf_none db
      have lsn := low_snoc g q n b
      have hsn := high_snoc g q n b
      rw [e1] at lsn
      rw [e2] at hsn
      cases b with
      | true => exact bnd_dead ⟨_, _, lsn, hsn, by omega⟩
      | false => exact bnd_dead ⟨_, _, lsn, hsn, by omega⟩
    · rw [stOf_snoc, ds, clamp_same]
      cases b <;> rfl
    · rw [killerOf_snoc, dk]
    · rw [dp, List.append_assoc]
      rfl
/-- what stands above a node on a path is the node's own path -/
theorem pOf_split : ∀ (t : Tr) (f i : Nat) (q : List (Nat × Bool)) (n : Nat) (b : Bool) (r : List (Nat × Bool)), f ≤ i → i < f + t.size → pOf t f i = q ++ (n, b) :: r → pOf t f n = q
  | .nil, f, i, _, _, _, _, h1, h2, _ => by
    have : Tr.nil.size = 0 := rfl
    omega
  | .nod l r', f, i, q, n, b, r, h1, h2, e => by
    rw [size_nod] at h2
    rw [pOf_nod] at e ⊢
    by_cases c : i = f + l.size
    · rw [if_pos c] at e
      exact absurd e.symm (by simp)
    · rw [if_neg c] at e
      by_cases d : i < f + l.size
      · rw [if_pos d] at e
        cases q with
        | nil =>
          have e1 := List.cons.inj e
          have en := (Prod.mk.inj e1.1).1
          rw [if_pos en.symm]
        | cons y q' =>
          have e1 := List.cons.inj e
          have hn := pOf_in l f i (n, b) (by rw [e1.2]; exact List.mem_append_right _ List.mem_cons_self)
          have h3 : f ≤ n ∧ n < f + l.size := hn
          rw [if_neg (by omega), if_pos h3.2, pOf_split l f i q' n b r h1 d e1.2, e1.1]
      · rw [if_neg d] at e
        cases q with
        | nil =>
          have e1 := List.cons.inj e
          have en := (Prod.mk.inj e1.1).1
          rw [if_pos en.symm]
        | cons y q' =>
          have e1 := List.cons.inj e
          have hn := pOf_in r' (f + l.size + 1) i (n, b) (by rw [e1.2]; exact List.mem_append_right _ List.mem_cons_self)
          have h3 : f + l.size + 1 ≤ n ∧ n < f + l.size + 1 + r'.size := hn
          rw [if_neg (by omega), if_neg (by omega), pOf_split r' (f + l.size + 1) i q' n b r (by omega) (by omega) e1.2, e1.1]
theorem told_labs (g : Nat → Int) (t : Tr) {i : Nat} (h : i < t.size) : Told g (labAt g t) (pOf t 0 i) := fun q n b r e => by
  show lbOf (bndOf g (pOf t 0 n)) (g n) = _
  rw [pOf_split t 0 i q n b r (Nat.zero_le _) (by omega) e]
/-- the ancestors come before -/
theorem pre_anc : ∀ (t : Tr) (f : Nat) (p : List (Nat × Bool)) (k n : Nat) (s : List (Nat × Bool)), (pre t f p)[k]? = some (n, s) → ∀ z, z ∈ s → z ∈ p ∨ ∃ j s', j < k ∧ (pre t f p)[j]? = some (z.1, s')
  | .nil, _, _, _, _, _, h, _, _ => by cases h
  | .nod l r, f, p, k, n, s, h, z, hz => by
    rw [pre_nod] at h ⊢
    have la := pre_len l f (p ++ [(f + l.size, false)])
    cases k with
    | zero =>
      cases h
      exact .inl hz
    | succ k =>
      rw [List.getElem?_cons_succ] at h
      by_cases c : k < l.size
      · rw [List.getElem?_append_left (by omega)] at h
        rcases pre_anc l f _ k n s h z hz with q | ⟨j, s', lt, e⟩
        · rcases List.mem_append.mp q with q | q
          · exact .inl q
          · exact .inr ⟨0, p, Nat.succ_pos _, by rw [List.mem_singleton.mp q]; rfl⟩
        · refine .inr ⟨j + 1, s', Nat.succ_lt_succ lt, ?_⟩
          rw [List.getElem?_cons_succ, List.getElem?_append_left (by omega)]
          exact e
      · rw [List.getElem?_append_right (by omega), la] at h
        rcases pre_anc r _ _ (k - l.size) n s h z hz with q | ⟨j, s', lt, e⟩
        · rcases List.mem_append.mp q with q | q
          · exact .inl q
          · exact .inr ⟨0, p, Nat.succ_pos _, by rw [List.mem_singleton.mp q]; rfl⟩
        · refine .inr ⟨l.size + j + 1, s', by omega, ?_⟩
          rw [List.getElem?_cons_succ, List.getElem?_append_right (by omega), la, show l.size + j - l.size = j by omega]
          exact e
/-! ## owners -/
/-- o owns n -/
structure Owns (g : Nat → Int) (t : Tr) (n o : Nat) : Prop where
  lt : o < t.size
  found : labAt g t o = .found
  val : g o = repAt g (pOf t 0 n) n
theorem owns_found {g : Nat → Int} {t : Tr} {n : Nat} (h : n < t.size) (e : labAt g t n = .found) : Owns g t n n := by
  refine ⟨h, e, ?_⟩
  have e : lbOf (bndOf g (pOf t 0 n)) (g n) = .found := e
  rcases along g (labAt g t) _ (told_labs g t h) with ⟨ab, _, as_, _, _⟩ | ⟨db, _⟩
  · rw [ab] at e
    unfold repAt
    generalize stOf g none none (pOf t 0 n) = st at e as_ ⊢
    obtain ⟨lo, hi⟩ := st
    rcases lb_cases lo hi (g n) as_ with ⟨_, e2, _, _⟩ | ⟨e1, _⟩ | ⟨e1, _⟩
    · exact e2.symm
    · rw [e1] at e; cases e
    · rw [e1] at e; cases e
  · rw [db] at e
    cases e
theorem owns_low {g : Nat → Int} {t : Tr} {n : Nat} (h : n < t.size) (e : labAt g t n = .low) : ∃ o, boundOf (fun n => (labAt g t n).str) true (pOf t 0 n) none = some o ∧ Owns g t n o := by
  have e : lbOf (bndOf g (pOf t 0 n)) (g n) = .low := e
  rcases along g (labAt g t) _ (told_labs g t h) with ⟨ab, _, as_, a1, _⟩ | ⟨db, _⟩
  · rw [ab] at e
    have hr : repAt g (pOf t 0 n) n = clamp (stOf g none none (pOf t 0 n)).1 (stOf g none none (pOf t 0 n)).2 (g n) := rfl
    generalize stOf g none none (pOf t 0 n) = st at e as_ a1 hr
    obtain ⟨lo, hi⟩ := st
    rcases lb_cases lo hi (g n) as_ with ⟨e1, _⟩ | ⟨_, l, e2, e3, e4⟩ | ⟨e1, _⟩
    · rw [e1] at e; cases e
    · obtain ⟨o, b, g1, g2, g3, g4⟩ := a1 l e2
      exact ⟨o, g1, ⟨by have := (pOf_in t 0 n _ g2).2; omega, g3, by rw [g4, hr]; exact e4.symm⟩⟩
    · rw [e1] at e; cases e
  · rw [db] at e
    cases e
theorem owns_high {g : Nat → Int} {t : Tr} {n : Nat} (h : n < t.size) (e : labAt g t n = .high) : ∃ o, boundOf (fun n => (labAt g t n).str) false (pOf t 0 n) none = some o ∧ Owns g t n o := by
  have e : lbOf (bndOf g (pOf t 0 n)) (g n) = .high := e
  rcases along g (labAt g t) _ (told_labs g t h) with ⟨ab, _, as_, _, a2⟩ | ⟨db, _⟩
  · rw [ab] at e
    have hr : repAt g (pOf t 0 n) n = clamp (stOf g none none (pOf t 0 n)).1 (stOf g none none (pOf t 0 n)).2 (g n) := rfl
    generalize stOf g none none (pOf t 0 n) = st at e as_ a2 hr
    obtain ⟨lo, hi⟩ := st
    rcases lb_cases lo hi (g n) as_ with ⟨e1, _⟩ | ⟨e1, _⟩ | ⟨_, l, e2, e3, e4⟩
    · rw [e1] at e; cases e
    · rw [e1] at e; cases e
    · obtain ⟨o, b, g1, g2, g3, g4⟩ := a2 l e2
      exact ⟨o, g1, ⟨by have := (pOf_in t 0 n _ g2).2; omega, g3, by rw [g4, hr]; exact e4.symm⟩⟩
  · rw [db] at e
    cases e
theorem owns_dead {g : Nat → Int} {t : Tr} {n : Nat} (h : n < t.size) (e : labAt g t n = .dead) : ∃ k, killerOf (fun n => (labAt g t n).str) (pOf t 0 n) = some k ∧ (∃ b, (k, b) ∈ pOf t 0 n) ∧ ∀ o, Owns g t k o → Owns g t n o := by
  have e : lbOf (bndOf g (pOf t 0 n)) (g n) = .dead := e
  rcases along g (labAt g t) _ (told_labs g t h) with ⟨ab, _, as_, _, _⟩ | ⟨db, x, k, q, b, r, ds, dk, dp, dq, dr⟩
  · rw [ab] at e
    generalize stOf g none none (pOf t 0 n) = st at e as_
    obtain ⟨lo, hi⟩ := st
    rcases lb_cases lo hi (g n) as_ with ⟨e1, _⟩ | ⟨e1, _⟩ | ⟨e1, _⟩ <;> (rw [e1] at e; cases e)
  · refine ⟨k, dk, killerOf_mem dk, fun o ho => ⟨ho.lt, ho.found, ?_⟩⟩
    rw [ho.val, pOf_split t 0 n q k b r (Nat.zero_le _) (by omega) dp, dr]
    unfold repAt
    rw [ds, clamp_same]
end HSP
namespace HSP
open PySem PySem.Spec PyProof.Rows L2
/-- labels stand in a list -/
def strAt (ls : List Str) (i : Nat) : Str := ls.getD i ""
theorem strAt_get {ls : List Str} {i : Nat} (h : i < ls.length) : (ls.map V.str)[i]? = some (.str (strAt ls i)) := by
  rw [List.getElem?_map, List.getElem?_eq_getElem h, strAt, List.getD_eq_getElem?_getD, List.getElem?_eq_getElem h]
  rfl
def StrsOk (ls : List Str) : Prop := ∀ l, l ∈ ls → PyData.strOk l = true
theorem strAt_ok {ls : List Str} (h : StrsOk ls) {i : Nat} (hi : i < ls.length) : PyData.strOk (strAt ls i) = true := by
  rw [strAt, List.getD_eq_getElem?_getD, List.getElem?_eq_getElem hi]
  exact h _ (List.getElem_mem hi)
def optN : Option Nat → V
  | none => .non
  | some n => natV n
theorem sideV_str (b : Bool) : sideV b = .str (sideS b) := by cases b <;> rfl
section
variable {P : Program} {w : World} {K : PySem.W.Frag} {mg : Str → Option Value} {base : Heap}
/-! ### killer_of -/
theorem sc_killer : FnScope n_killer_of ["pattern", "above"] (defScope s_killer_of) := ⟨rfl, rfl, rfl, by decide +kernel, rfl, by decide +kernel, by decide +kernel⟩
def spKiller : Sp := fun vs H Q _ => ∃ (a r : Addr) (ls : List Str) (p : List (Nat × Bool)), vs = [.ref a, .ref r] ∧ H a = some (.lst (ls.map V.str)) ∧ StrsOk ls ∧ PathAt H r p ∧ (∀ z, z ∈ p → z.1 < ls.length) ∧ ∀ (H' : Hp), Same H H' → Q (optN (killerOf (strAt ls) p)) H'
theorem ok_killer (a : At K mg "killer_of" s_killer_of) : Df P w K mg base "killer_of" 1 ["pattern", "above"] spKiller := by
  refine Df.mk' a sc_killer (fun vs H Q E h => ?_) (fun _ _ _ _ _ _ us hl => match us, hl with | [_, _], _ => rfl) (fun f cdv A outer s H vs Q E hr h => ?_)
  · obtain ⟨a, r, ls, p, rfl, _⟩ := h
    rfl
  obtain ⟨a, r, ls, p, rfl, ha, hok, ⟨tups, er, pt⟩, hn, q⟩ := h
  refine ⟨_, (pss_cons (ps_for PassesOwn.never rfl (pi_list (pv 1)) (pg_tup rfl (pgs_cons (pg_name (i := 2) sc_killer.nd rfl (.inl rfl)) (pgs_cons (pg_name (i := 3) sc_killer.nd rfl (.inl rfl)) pgs_nil))) (pss_one (ps_if (pt_cmpR (op_inTD (units65 hr)) (pe_tup (pa_cons (pe_ix ix_list (pv 0) (pv 2) (fun _ _ => rfl)) (pa_cons (pv 3) pa_nil))) (pe_tup (pa_cons (pe_tup (pa_cons pe_str (pa_cons pe_str pa_nil))) (pa_cons (pe_tup (pa_cons pe_str (pa_cons pe_str pa_nil))) pa_nil))) (by rfl)) (pss_one (ps_ret (pv 2))) pss_nil)))
 (pss_one (ps_ret pe_non))), ?_⟩
  have lt := Paired.length pt
  refine ⟨_, rfl, r, rfl, ⟨_, .of er⟩, for_list (xs := tups.map V.ref) (fun i σ H' => ∃ y2 y3 : Option V, σ = [some (.ref a), some (.ref r), y2, y3] ∧ Same H H' ∧ killerOf (strAt ls) p = killerOf (strAt ls) (p.drop i)) ⟨_, _, rfl, Same.refl _, rfl⟩ (fun i σ H1 _ h1 => ?_) (fun i x σ H1 hx h1 => ?_) (fun σ H1 h1 => ?_)⟩
  · obtain ⟨_, _, _, s1, _⟩ := h1
    exact .of (s1 _ _ er)
  · obtain ⟨y2, y3, rfl, s1, hk⟩ := h1
    rw [List.getElem?_map] at hx
    obtain ⟨T, hT, rfl⟩ := Option.map_eq_some_iff.mp hx
    obtain ⟨⟨n, b⟩, hz, eT⟩ := Paired.getL pt hT
    have hnz := hn (n, b) (List.mem_of_getElem? hz)
    have hi : i < p.length := (List.getElem?_eq_some_iff.mp hz).1
    have ed : p.drop i = (n, b) :: p.drop (i + 1) := by
      rw [List.drop_eq_getElem_cons hi, (List.getElem?_eq_some_iff.mp hz).2]
    refine ⟨T, _, rfl, .of (s1 _ _ eT), rfl, _, _, rfl, _, [], rfl, rfl, ?_⟩
    refine ⟨_, rfl, _, rfl, a, _, _, _, rfl, rfl, .of (s1 _ _ ha), at_of (j := n) rfl (strAt_get hnz), _, rfl, (by show 2 ≤ sizeLine; decide), fun P1 hP1 => ⟨(by show 2 ≤ sizeLine; decide), fun P2 hP2 => ⟨(by show 2 ≤ sizeLine; decide), fun P3 hP3 => ⟨(by show 2 ≤ sizeLine; decide), fun P4 hP4 => ?_⟩⟩⟩⟩
    have t1 := Same.new (o := .tup [V.str (strAt ls n), sideV b]) hP1
    have t2 := Same.new (o := .tup [V.str "low", V.str "left"]) hP2
    have t3 := Same.new (o := .tup [V.str "high", V.str "right"]) hP3
    have t4 := Same.new (o := .tup [V.ref P2, V.ref P3]) hP4
    have e1 := t4 _ _ (t3 _ _ (t2 _ _ (upd_same (H := H1) (a := P1) (o := .tup [V.str (strAt ls n), sideV b]))))
    have e2 := t4 _ _ (t3 _ _ (upd_same (H := upd H1 P1 (.tup [V.str (strAt ls n), sideV b])) (a := P2) (o := .tup [V.str "low", V.str "left"])))
    have e3 := t4 _ _ (upd_same (H := upd (upd H1 P1 (.tup [V.str (strAt ls n), sideV b])) P2 (.tup [V.str "low", V.str "left"])) (a := P3) (o := .tup [V.str "high", V.str "right"]))
    have d1 : Dp K (upd (upd (upd (upd H1 P1 (.tup [V.str (strAt ls n), sideV b])) P2 (.tup [V.str "low", V.str "left"])) P3 (.tup [V.str "high", V.str "right"])) P4 (.tup [V.ref P2, V.ref P3])) (.ref P1) (pairD (strAt ls n) b) := by
      rw [sideV_str] at e1 ⊢
      exact .tup (.of e1) (.cons (.str _) (.cons (.str _) .nil))
    refine ⟨pairD (strAt ls n) b, [.tuple [.str "low", .str "left"], .tuple [.str "high", .str "right"]], d1, .tup (.of upd_same) (.cons (.tup (.of e2) (.cons (.str _) (.cons (.str _) .nil))) (.cons (.tup (.of e3) (.cons (.str _) (.cons (.str _) .nil))) .nil)), pair_shaped b (strAt_ok hok hnz), kills_shaped, _, rfl, ?_⟩
    rw [kill_any]
    have s2 := s1.trans (t1.trans (t2.trans (t3.trans t4)))
    cases c : kills (strAt ls n) b with
    | true =>
      refine iteT ?_
      have ek : killerOf (strAt ls) p = some n := by
        rw [hk, ed]
        show (if kills (strAt ls n) b = true then some n else _) = some n
        rw [if_pos c]
      have fin := q _ s2
      rw [ek] at fin
      exact ⟨_, rfl, fin⟩
    | false =>
      refine iteF ⟨_, _, rfl, s2, ?_⟩
      rw [hk, ed]
      show (if kills (strAt ls n) b = true then some n else _) = _
      rw [if_neg (by rw [c]; exact Bool.false_ne_true)]
  · obtain ⟨y2, y3, rfl, s1, hk⟩ := h1
    have fin := q _ s1
    rw [hk, List.length_map, lt, List.drop_length] at fin
    exact fin
/-! ### bound_of -/
theorem sc_bound : FnScope n_bound_of ["pattern", "above", "side"] (defScope s_bound_of) := ⟨rfl, rfl, rfl, by decide +kernel, rfl, by decide +kernel, by decide +kernel⟩
def spBound : Sp := fun vs H Q _ => ∃ (a r : Addr) (ls : List Str) (p : List (Nat × Bool)) (c : Bool), vs = [.ref a, .ref r, .str (sideS c)] ∧ H a = some (.lst (ls.map V.str)) ∧ PathAt H r p ∧ (∀ z, z ∈ p → z.1 < ls.length) ∧ Q (optN (boundOf (strAt ls) c p none)) H
theorem side_eq (b c : Bool) : decide (V.str (sideS b) = V.str (sideS c)) = decide (b = c) := by
  cases b <;> cases c <;> decide +kernel
theorem ok_bound (a : At K mg "bound_of" s_bound_of) : Df P w K mg base "bound_of" 1 ["pattern", "above", "side"] spBound := by
  refine Df.mk' a sc_bound (fun vs H Q E h => ?_) (fun _ _ _ _ _ _ us hl => match us, hl with | [_, _, _], _ => rfl) (fun f cdv A outer s H vs Q E hr h => ?_)
  · obtain ⟨a, r, ls, p, c, rfl, _⟩ := h
    rfl
  obtain ⟨a, r, ls, p, c, rfl, ha, ⟨tups, er, pt⟩, hn, q⟩ := h
  refine ⟨_, (pss_cons (ps_set (i := 3) sc_bound.nd rfl (.inl rfl) pe_non)
 (pss_cons (ps_for PassesOwn.never rfl (pi_list (pv 1)) (pg_tup rfl (pgs_cons (pg_name (i := 4) sc_bound.nd rfl (.inl rfl)) (pgs_cons (pg_name (i := 5) sc_bound.nd rfl (.inl rfl)) pgs_nil))) (pss_one (ps_if (PW.pt (pw_and (pt_cmpR op_eq (pv 5) (pv 2) (nomark _)) (pw_and1 (pt_cmpR op_eq (pe_ix ix_list (pv 0) (pv 4) (fun _ _ => rfl)) pe_str (nomark _))))) (pss_one (ps_set (i := 3) sc_bound.nd rfl (.inl rfl) (pv 4))) pss_nil)))
 (pss_one (ps_ret (pv 3))))), ?_⟩
  have lt := Paired.length pt
  refine ⟨_, rfl, r, rfl, ⟨_, .of er⟩, for_list (xs := tups.map V.ref) (fun i σ H' => ∃ (z : Option Nat) (y4 y5 : Option V), σ = [some (.ref a), some (.ref r), some (.str (sideS c)), some (optN z), y4, y5] ∧ H' = H ∧ boundOf (strAt ls) c p none = boundOf (strAt ls) c (p.drop i) z) ⟨none, _, _, rfl, rfl, rfl⟩ (fun i σ H1 _ h1 => ?_) (fun i x σ H1 hx h1 => ?_) (fun σ H1 h1 => ?_)⟩
  · obtain ⟨_, _, _, _, s1, _⟩ := h1
    rw [s1]
    exact .of er
  · obtain ⟨z, y4, y5, rfl, rfl, hk⟩ := h1
    rw [List.getElem?_map] at hx
    obtain ⟨T, hT, rfl⟩ := Option.map_eq_some_iff.mp hx
    obtain ⟨⟨n, b⟩, hz, eT⟩ := Paired.getL pt hT
    have hnz := hn (n, b) (List.mem_of_getElem? hz)
    have hi : i < p.length := (List.getElem?_eq_some_iff.mp hz).1
    have ed : p.drop i = (n, b) :: p.drop (i + 1) := by
      rw [List.drop_eq_getElem_cons hi, (List.getElem?_eq_some_iff.mp hz).2]
    have step : boundOf (strAt ls) c p none = boundOf (strAt ls) c (p.drop (i + 1)) (if b = c ∧ strAt ls n = ("found" : Str) then some n else z) := by
      rw [hk, ed]
      rfl
    rw [sideV_str] at eT
    refine ⟨T, _, rfl, .of eT, rfl, _, _, rfl, _, [], rfl, rfl, ?_⟩
    refine ⟨_, rfl, _, rfl, rfl, _, rfl, ?_⟩
    rw [side_eq]
    by_cases d : b = c
    · rw [decide_eq_true d]
      refine iteT ⟨_, rfl, _, rfl, a, _, _, _, rfl, rfl, .of ha, at_of (j := n) rfl (strAt_get hnz), rfl, _, rfl, ?_⟩
      by_cases e : strAt ls n = ("found" : Str)
      · refine ite_yes (congrArg V.str e) ⟨_, rfl, some n, _, _, rfl, rfl, ?_⟩
        rw [step, if_pos ⟨d, e⟩]
      · refine ite_no (fun x => e (V.str.inj x)) ⟨z, _, _, rfl, rfl, ?_⟩
        rw [step, if_neg (fun x => e x.2)]
    · rw [decide_eq_false d]
      refine iteF (iteF ⟨z, _, _, rfl, rfl, ?_⟩)
      rw [step, if_neg (fun x => d x.1)]
  · obtain ⟨z, y4, y5, rfl, rfl, hk⟩ := h1
    rw [hk, List.length_map, lt, List.drop_length] at q
    exact ⟨_, rfl, q⟩
/-! ### owners_of -/
theorem sc_owners : FnScope n_owners_of ["tree", "pattern"] (defScope s_owners_of) := ⟨rfl, rfl, rfl, by decide +kernel, rfl, by decide +kernel, by decide +kernel⟩
def labsS (g : Nat → Int) (t : Tr) : List Str := (List.range t.size).map fun i => (labAt g t i).str
theorem labsS_len (g : Nat → Int) (t : Tr) : (labsS g t).length = t.size := by
  unfold labsS
  rw [List.length_map, List.length_range]
theorem labsS_at (g : Nat → Int) (t : Tr) {i : Nat} (h : i < t.size) : strAt (labsS g t) i = (labAt g t i).str := by
  unfold strAt labsS
  rw [List.getD_eq_getElem?_getD, List.getElem?_map, List.getElem?_range h]
  rfl
theorem labsV_S (g : Nat → Int) (t : Tr) : labsV g t t.size = (labsS g t).map V.str := by
  unfold labsV labsS
  rw [List.map_map]
  rfl
theorem lb_ok (l : Lb) : PyData.strOk l.str = true := by cases l <;> decide +kernel
theorem labsS_ok (g : Nat → Int) (t : Tr) : StrsOk (labsS g t) := fun l h => by
  obtain ⟨i, _, rfl⟩ := List.mem_map.mp h
  exact lb_ok _
/-- only the labels on a path matter -/
theorem killerOf_same {l l' : Nat → Str} : ∀ {p : List (Nat × Bool)}, (∀ z, z ∈ p → l z.1 = l' z.1) → killerOf l p = killerOf l' p
  | [], _ => rfl
  | (n, b) :: r, h => by
    show (if kills (l n) b = true then some n else killerOf l r) = if kills (l' n) b = true then some n else killerOf l' r
    have e : l n = l' n := h (n, b) List.mem_cons_self
    rw [e, killerOf_same fun z hz => h z (List.mem_cons_of_mem _ hz)]
theorem boundOf_same {l l' : Nat → Str} {c : Bool} : ∀ {p : List (Nat × Bool)} {z : Option Nat}, (∀ z, z ∈ p → l z.1 = l' z.1) → boundOf l c p z = boundOf l' c p z
  | [], _, _ => rfl
  | (n, b) :: r, z, h => by
    show boundOf l c r (if b = c ∧ l n = ("found" : Str) then some n else z) = boundOf l' c r (if b = c ∧ l' n = ("found" : Str) then some n else z)
    have e : l n = l' n := h (n, b) List.mem_cons_self
    rw [e]
    exact boundOf_same fun z hz => h z (List.mem_cons_of_mem _ hz)
def spOwners : Sp := fun vs H Q _ => ∃ (v : V) (t : Tr) (a : Addr) (g : Nat → Int), vs = [v, .ref a] ∧ TrAt H v t ∧ t.size ≤ 300 ∧ H a = some (.lst (labsV g t t.size)) ∧
  ∀ (H' : Hp) (q : Addr) (os : List Nat), Same H H' → H q = none → H' q = some (.lst (os.map natV)) → os.length = t.size → (∀ n, n < t.size → Owns g t n (os.getD n 0)) → Q (.ref q) H'
theorem ok_owners (B : Bl mg) (W : Df P w K mg base "walk" 2 ["tree"] spWalk) (Ki : Df P w K mg base "killer_of" 1 ["pattern", "above"] spKiller) (Bo : Df P w K mg base "bound_of" 1 ["pattern", "above", "side"] spBound) (a : At K mg "owners_of" s_owners_of) :
    Df P w K mg base "owners_of" 3 ["tree", "pattern"] spOwners := by
  refine Df.mk' a sc_owners (fun vs H Q E h => ?_) (fun _ _ _ _ _ _ us hl => match us, hl with | [_, _], _ => rfl) (fun f cdv A outer s H vs Q E hr h => ?_)
  · obtain ⟨v, t, a, g, rfl, _⟩ := h
    rfl
  obtain ⟨v, t, a, g, rfl, ht, hz, ha, q⟩ := h
  refine ⟨_, (pss_cons (ps_set (i := 2) sc_owners.nd rfl (.inl rfl) (pe_listRg rfl (by rfl) B.list (prg_1 (by rfl) B.range (pe_callB call_len_seq (by rfl) B.len PySem.boot_len (pa_cons (pv 1) pa_nil)))))
 (pss_cons (ps_for PassesOwn.never rfl (pi_list (pe_df W hr (pa_cons (pv 0) pa_nil))) (pg_tup rfl (pgs_cons (pg_name (i := 3) sc_owners.nd rfl (.inl rfl)) (pgs_cons (pg_name (i := 4) sc_owners.nd rfl (.inl rfl)) pgs_nil))) (pss_cons (ps_set (i := 5) sc_owners.nd rfl (.inl rfl) (pe_ix ix_list (pv 1) (pv 3) (fun _ _ => rfl)))
 (pss_one (ps_if (pt_cmpR op_eq (pv 5) pe_str (nomark _)) (pss_one (ps_asg (pe_df Bo (hr.mono (by decide)) (pa_cons (pv 1) (pa_cons (pv 4) (pa_cons pe_str pa_nil)))) (pg_sub (pv 2) (pv 3) set_list))) (pss_one (ps_if (pt_cmpR op_eq (pv 5) pe_str (nomark _)) (pss_one (ps_asg (pe_df Bo (hr.mono (by decide)) (pa_cons (pv 1) (pa_cons (pv 4) (pa_cons pe_str pa_nil)))) (pg_sub (pv 2) (pv 3) set_list))) (pss_one (ps_if (pt_cmpR op_eq (pv 5) pe_str (nomark _)) (pss_one (ps_asg (pe_ix ix_list (pv 2) (pe_df Ki (hr.mono (by decide)) (pa_cons (pv 1) (pa_cons (pv 4) pa_nil))) (fun _ _ => rfl)) (pg_sub (pv 2) (pv 3) set_list))) pss_nil))))))))
 (pss_one (ps_ret (pv 2))))), ?_⟩
  have la := labsV_len g t t.size
  refine ⟨_, rfl, a, _, rfl, .inl (.of ha), ?_⟩
  rw [la]
  refine ⟨_, rfl, RgOk.of_le (by omega) (by omega) (by omega) (by omega), fun q0 hq0 => ?_⟩
  have e0 : rgV 0 ((t.size : Nat) : Int) = (List.range t.size).map natV := by
    unfold rgV
    rw [show (((t.size : Nat) : Int) - 0).toNat = t.size by omega]
    exact List.map_congr_left fun i _ => congrArg V.int (by omega)
  rw [e0]
  have s0 := Same.new (o := .lst ((List.range t.size).map natV)) hq0
  refine ⟨v, rfl, v, t, rfl, ht.same s0, hz, fun H3 u rs s3 nu eu pr => ?_⟩
  have lrs : rs.length = t.size := by rw [Paired.length pr, pre_len]
  have eq3 := s3 _ _ (upd_same (H := H) (a := q0) (o := .lst ((List.range t.size).map natV)))
  have ea3 := s3 _ _ (s0 _ _ ha)
  have nuq : u ≠ q0 := (ne_of_none upd_same nu).symm
  have naq : a ≠ q0 := ne_of_none ha hq0
  have hX : ∀ x, x ∈ [q0] → ∃ ys, H3 x = some (.lst ys) := fun x hx => ⟨_, (List.mem_singleton.mp hx) ▸ eq3⟩
  refine ⟨u, rfl, ⟨_, .of eu⟩, for_list (xs := rs.map V.ref) (fun k σ H' => ∃ (y3 y4 y5 : Option V) (os : List Nat), σ = [some v, some (.ref a), some (.ref q0), y3, y4, y5] ∧ Stay [q0] H3 H' ∧ H' q0 = some (.lst (os.map natV)) ∧ os.length = t.size ∧ (∀ n, n < t.size → os.getD n 0 = n ∨ Owns g t n (os.getD n 0)) ∧ ∀ j n s, j < k → (pre t 0 [])[j]? = some (n, s) → Owns g t n (os.getD n 0))
    ⟨_, _, _, List.range t.size, rfl, .refl _ _, eq3, List.length_range, fun n hn => .inl ?_, fun j n s h => absurd h (Nat.not_lt_zero _)⟩ (fun k σ H4 _ h4 => ?_) (fun k x σ H4 hx h4 => ?_) (fun σ H4 h4 => ?_)⟩
  · rw [List.getD_eq_getElem?_getD, List.getElem?_range hn]
    rfl
  · obtain ⟨_, _, _, _, _, k4, _⟩ := h4
    exact .of (k4 _ _ (no1 nuq) eu)
  · obtain ⟨y3, y4, y5, os, rfl, k4, e4, l4, hA, hB⟩ := h4
    rw [List.getElem?_map] at hx
    obtain ⟨R, hR, rfl⟩ := Option.map_eq_some_iff.mp hx
    obtain ⟨⟨n, p⟩, hz2, b, eR, pb, nbu, fb⟩ := Paired.getL pr hR
    obtain ⟨_, hn, hp⟩ := pre_in t 0 [] n p (List.mem_of_getElem? hz2)
    rw [List.nil_append] at hp
    have hn' : n < t.size := by omega
    have nRq : R ≠ q0 := tup_ne eR eq3
    have nbq : b ≠ q0 := (ne_of_none upd_same fb).symm
    have pb4 := pb.stay k4 (no1 nbq) hX
    have pb4 : PathAt H4 b (pOf t 0 n) := by rw [← hp]; exact pb4
    have ea4 := k4 _ _ (no1 naq) ea3
    have ea4S : H4 a = some (.lst ((labsS g t).map V.str)) := by rw [← labsV_S]; exact ea4
    have inP : ∀ z, z ∈ pOf t 0 n → z.1 < (labsS g t).length := fun z hz3 => by
      rw [labsS_len]
      have := (pOf_in t 0 n z hz3).2
      omega
    have setO : ∀ o, Owns g t n o → (os.set n o).length = t.size ∧ (∀ m, m < t.size → (os.set n o).getD m 0 = m ∨ Owns g t m ((os.set n o).getD m 0)) ∧ ∀ j m s, j < k + 1 → (pre t 0 [])[j]? = some (m, s) → Owns g t m ((os.set n o).getD m 0) := fun o ho => by
      have get : ∀ m, m < t.size → (os.set n o).getD m 0 = if m = n then o else os.getD m 0 := fun m hm => by
        rw [List.getD_eq_getElem?_getD, List.getD_eq_getElem?_getD]
        by_cases c : m = n
        · rw [if_pos c, c, List.getElem?_set_self (by omega)]
          rfl
        · rw [if_neg c, List.getElem?_set_ne (Ne.symm c)]
      refine ⟨by rw [List.length_set, l4], fun m hm => ?_, fun j m s hj e => ?_⟩
      · rw [get m hm]
        by_cases c : m = n
        · rw [if_pos c, c]
          exact .inr ho
        · rw [if_neg c]
          exact hA m hm
      · have hm := (pre_in t 0 [] m s (List.mem_of_getElem? e)).2.1
        rw [get m (by omega)]
        by_cases c : m = n
        · rw [if_pos c, c]
          exact ho
        · rw [if_neg c]
          refine hB j m s ?_ e
          have : j ≠ k := fun z => by
            rw [z, hz2] at e
            cases e
            exact c rfl
          omega
    have setH : ∀ (H5 : Hp) (o : Nat), Same H4 H5 → H5 q0 = some (.lst (os.map natV)) → ((upd H5 q0 (.lst ((os.map natV).set n (natV o)))) q0 = some (.lst ((os.set n o).map natV)) ∧ Stay [q0] H3 (upd H5 q0 (.lst ((os.map natV).set n (natV o))))) := fun H5 o s5 e5 => by
      refine ⟨?_, (k4.then s5).put in1⟩
      rw [upd_same, List.map_set]
    have ixn : ixN (os.map natV).length (n : Int) = some n := by
      rw [List.length_map, l4]
      exact ixN_in (by omega) (by omega)
    refine ⟨R, _, rfl, .of (k4 _ _ (no1 nRq) eR), rfl, _, _, rfl, _, [], rfl, rfl, ?_⟩
    refine ⟨_, rfl, _, rfl, a, _, _, _, rfl, rfl, .of ea4, at_of (z := (n : Int)) (j := n) rfl (show (labsV g t t.size)[n]? = some (.str (labAt g t n).str) by unfold labsV; rw [List.getElem?_map, List.getElem?_range hn']; rfl), ?_⟩
    refine ⟨_, rfl, rfl, _, rfl, ?_⟩
    cases el : labAt g t n with
    | low =>
      refine ite_yes rfl ?_
      obtain ⟨o, eo, ho⟩ := owns_low hn' el
      have eo2 : boundOf (strAt (labsS g t)) true (pOf t 0 n) none = some o := by
        rw [← eo]
        exact boundOf_same fun z hz3 => labsS_at g t (by have := inP z hz3; rw [labsS_len] at this; exact this)
      refine ⟨_, rfl, _, rfl, a, b, labsS g t, pOf t 0 n, true, rfl, ea4S, pb4, inP, ?_⟩
      rw [eo2]
      obtain ⟨g1, g2, g3⟩ := setO o ho
      obtain ⟨f1, f2⟩ := setH H4 o (Same.refl _) e4
      exact ⟨_, rfl, _, rfl, q0, _, _, n, rfl, rfl, e4, ixn, _, _, _, os.set n o, rfl, f2, f1, g1, g2, g3⟩
    | high =>
      refine ite_no (by decide +kernel) ⟨_, rfl, rfl, _, rfl, ite_yes rfl ?_⟩
      obtain ⟨o, eo, ho⟩ := owns_high hn' el
      have eo2 : boundOf (strAt (labsS g t)) false (pOf t 0 n) none = some o := by
        rw [← eo]
        exact boundOf_same fun z hz3 => labsS_at g t (by have := inP z hz3; rw [labsS_len] at this; exact this)
      refine ⟨_, rfl, _, rfl, a, b, labsS g t, pOf t 0 n, false, rfl, ea4S, pb4, inP, ?_⟩
      rw [eo2]
      obtain ⟨g1, g2, g3⟩ := setO o ho
      obtain ⟨f1, f2⟩ := setH H4 o (Same.refl _) e4
      exact ⟨_, rfl, _, rfl, q0, _, _, n, rfl, rfl, e4, ixn, _, _, _, os.set n o, rfl, f2, f1, g1, g2, g3⟩
    | dead =>
      refine ite_no (by decide +kernel) ⟨_, rfl, rfl, _, rfl, ite_no (by decide +kernel) ⟨_, rfl, rfl, _, rfl, ite_yes rfl ?_⟩⟩
      obtain ⟨ki, eo, ⟨bk, mk⟩, hk⟩ := owns_dead hn' el
      have eo2 : killerOf (strAt (labsS g t)) (pOf t 0 n) = some ki := by
        rw [← eo]
        exact killerOf_same fun z hz3 => labsS_at g t (by have := inP z hz3; rw [labsS_len] at this; exact this)
      have ho : Owns g t n (os.getD ki 0) := hk _ (by
        rw [hp] at hz2
        rcases pre_anc t 0 [] k n _ hz2 (ki, bk) mk with z | ⟨j, s', lt, e⟩
        · cases z
        · exact hB j ki s' lt e)
      have hki : ki < os.length := by
        have := inP _ mk
        rw [labsS_len] at this
        omega
      refine ⟨_, rfl, _, rfl, _, rfl, a, b, labsS g t, pOf t 0 n, rfl, ea4S, labsS_ok g t, pb4, inP, fun H5 s5 => ?_⟩
      rw [eo2]
      have e5 := s5 _ _ e4
      obtain ⟨g1, g2, g3⟩ := setO _ ho
      obtain ⟨f1, f2⟩ := setH H5 (os.getD ki 0) s5 e5
      refine ⟨q0, _, _, natV (os.getD ki 0), rfl, rfl, .of e5, at_of (z := (ki : Int)) (j := ki) rfl ?_, ?_⟩
      · rw [List.getElem?_map, List.getD_eq_getElem?_getD, List.getElem?_eq_getElem hki]
        rfl
      · exact ⟨_, rfl, _, rfl, q0, _, _, n, rfl, rfl, e5, ixn, _, _, _, os.set n (os.getD ki 0), rfl, f2, f1, g1, g2, g3⟩
    | found =>
      refine ite_no (by decide +kernel) ⟨_, rfl, rfl, _, rfl, ite_no (by decide +kernel) ⟨_, rfl, rfl, _, rfl, ite_no (by decide +kernel) ?_⟩⟩
      refine ⟨_, _, _, os, rfl, k4, e4, l4, hA, fun j m s hj e => ?_⟩
      by_cases c : j < k
      · exact hB j m s c e
      · have ej : j = k := by omega
        rw [ej, hz2] at e
        cases e
        rcases hA n hn' with z | z
        · rw [z]
          exact owns_found hn' el
        · exact z
  · obtain ⟨y3, y4, y5, os, rfl, k4, e4, l4, hA, hB⟩ := h4
    refine ⟨_, rfl, q H4 q0 os (Stay.same (X := [q0]) (s0.trans s3) (fun x hx => (List.mem_singleton.mp hx) ▸ hq0) k4) hq0 e4 l4 fun n hn => ?_⟩
    have hm := pre_mem t 0 [] n (Nat.zero_le _) (by omega)
    rw [List.nil_append] at hm
    obtain ⟨j, hj, ej⟩ := List.getElem_of_mem hm
    have lj : j < t.size := by rw [pre_len] at hj; exact hj
    refine hB j n _ ?_ (by rw [List.getElem?_eq_getElem hj, ej])
    rw [List.length_map, lrs]
    exact lj
/-! ### representative -/
theorem sc_rep : FnScope n_representative ["tree", "values"] (defScope s_representative) := ⟨rfl, rfl, rfl, by decide +kernel, rfl, by decide +kernel, by decide +kernel⟩
def spRep : Sp := fun vs H Q _ => ∃ (v : V) (t : Tr) (a : Addr) (ns : List Int), vs = [v, .ref a] ∧ TrAt H v t ∧ t.size ≤ 300 ∧ H a = some (.lst (ns.map V.int)) ∧ ns.length = t.size ∧ ∀ (H' : Hp) (q : Addr), Same H H' → H q = none → H' q = some (.lst ((repOf (valAt ns) t 0 none none).map V.int)) → Q (.ref q) H'
theorem okB_rep (C : Df P w K mg base "check_values" 3 ["tree", "values"] spChkV) (L : Df P w K mg base "labels_of" 4 ["tree", "values"] spLabels) (O : Df P w K mg base "owners_of" 3 ["tree", "pattern"] spOwners) (a : At K mg "representative" s_representative) :
    DfB P w K mg base "representative" 5 ["tree", "values"] ["values", "tree"] spRep := by
  refine DfB.mk' a sc_rep (fun vs H Q E h => ?_) (fun _ _ _ _ _ _ us hl => match us, hl with | [_, _], _ => rfl) (fun _ _ _ _ _ _ us hl => match us, hl with | [_, _], _ => rfl) (fun f cdv A outer s H vs Q E hr h => ?_)
  · obtain ⟨v, t, a, ns, rfl, _⟩ := h
    rfl
  obtain ⟨v, t, a, ns, rfl, ht, hz, ha, hn, q⟩ := h
  refine ⟨_, (pss_cons (ps_expr (pe_df C (hr.mono (by decide)) (pa_cons (pv 0) (pa_cons (pv 1) pa_nil))))
 (pss_one (ps_ret (pe_lc (own := [("owner", 2)]) (g := (gName 2)) (tt := tYes) (by rfl) sc_rep.nd (pi_list (pe_df O (hr.mono (by decide)) (pa_cons (pv 0) (pa_cons (pe_df L hr (pa_cons (pv 0) (pa_cons (pv 1) pa_nil))) pa_nil)))) (blkOk_by (N := n_representative) (sc := defScope s_representative) (by decide +kernel)) (fun _ _ _ _ _ => (pg_name (i := 2) sc_rep.nd rfl (.inl rfl))) (fun _ _ _ _ _ => pts_nil) (fun _ _ _ _ _ => (pe_ix (show IxR _ (rIxL K) from ix_list) (pv 1) (pv 2) (fun _ _ => rfl))))))), ?_⟩
  refine ⟨v, rfl, _, rfl, v, t, a, ns, rfl, ht, by omega, ha, hn, fun H1 s1 => ?_⟩
  refine ⟨v, rfl, v, rfl, _, rfl, v, t, a, ns, rfl, ht.same s1, hz, s1 _ _ ha, hn, fun H2 l s2 nl el => ?_⟩
  refine ⟨v, t, l, valAt ns, rfl, (ht.same s1).same s2, hz, el, fun H3 u os s3 nu eu lo how => ⟨u, rfl, ⟨_, .of eu⟩, fun D hD => ?_⟩⟩
  have ea3 := s3 _ _ (s2 _ _ (s1 _ _ ha))
  refine lc_list (xs := os.map natV) (fun i H' => Same H3 H' ∧ H' D = some (.lst (((repOf (valAt ns) t 0 none none).take i).map V.int))) ⟨Same.new hD, upd_same⟩ (fun i H4 _ h4 => .of (h4.1 _ _ eu)) (fun i x H4 hx h4 => ?_) (fun H4 h4 => ?_)
  · obtain ⟨s4, e4⟩ := h4
    rw [List.getElem?_map] at hx
    obtain ⟨o, ho, rfl⟩ := Option.map_eq_some_iff.mp hx
    have hi : i < os.length := (List.getElem?_eq_some_iff.mp ho).1
    have hi' : i < t.size := by omega
    have W := how i hi'
    have eo : os.getD i 0 = o := by rw [List.getD_eq_getElem?_getD, ho]; rfl
    rw [eo] at W
    refine ⟨rfl, ?_⟩
    have hol := W.lt
    refine ⟨_, rfl, _, rfl, a, _, _, _, rfl, rfl, .of (s4 _ _ ea3), at_of (z := (o : Int)) (j := o) rfl (valAt_get (by omega)), _, e4, ?_, fun b ob e => ?_, ?_⟩
    · rw [List.length_map, List.length_take, repOf_len]
      exact small1000 (by omega)
    · rw [upd_ne (ne_of_none e hD)]
      exact s4 _ _ e
    · rw [upd_same, List.take_add_one, rep_get (valAt ns) t hi', List.map_append, W.val]
      rfl
  · obtain ⟨s4, e4⟩ := h4
    rw [List.length_map, lo, ← repOf_len (valAt ns) t 0 none none, List.take_length] at e4
    have sA := s1.trans (s2.trans (s3.trans s4))
    exact q H4 D sA ((s1.trans (s2.trans s3)).free hD) e4
end
end HSP
namespace HSP
open PySem PySem.Spec PyProof.Rows L2
section
variable {X : Cx}
/-- sum(a list of lists of values, a list of values) -/
def rSumV (K : PySem.W.Frag) : List V → Hp → VK → Prop := fun vs H Q => ∃ (a b : Addr) (rows : List Addr) (parts : List (List V)) (ms : List V), vs = [V.ref a, V.ref b] ∧ H a = some (.lst (rows.map V.ref)) ∧ H b = some (.lst ms) ∧
  Paired (fun r ns => H r = some (.lst ns)) rows parts ∧ ms.length + parts.flatten.length ≤ sizeLine ∧ ∀ (H' : Hp) (p : Addr), Same H H' → (p = b ∨ H p = none) → H' p = some (.lst (ms ++ parts.flatten)) → Q (.ref p) H'
theorem rowsV_of {P : Program} {w : World} {H : Hp} {h : Heap} (ok : HOk P w H h) : ∀ {rows : List Addr} {parts : List (List V)}, Paired (fun r ns => H r = some (.lst ns)) rows parts →
    ∃ pits : List (List Value), pits.length = rows.length ∧ (∀ j (hj : j < rows.length), ∃ m, h.get? rows[j] = some (LO (pits.getD j []) m)) ∧ Vals parts.flatten pits.flatten ∧ (pits.map List.length).sum = parts.flatten.length
  | [], [], .nil => ⟨[], rfl, fun j hj => absurd hj (Nat.not_lt_zero j), .nil, rfl⟩
  | r :: rows, ns :: parts, .cons e t => by
    obtain ⟨pits, h1, h2, h3, h4⟩ := rowsV_of ok t
    obtain ⟨z, its, n, v, g⟩ : ObjOk P w H h r (.lst ns) := ok r _ e
    refine ⟨its :: pits, by rw [List.length_cons, h1, List.length_cons], fun j hj => ?_, ?_, ?_⟩
    · cases j with
      | zero => exact ⟨n, g⟩
      | succ j => exact h2 j (Nat.lt_of_succ_lt_succ hj)
    · rw [List.flatten_cons, List.flatten_cons]
      exact v.append h3
    · rw [List.map_cons, List.sum_cons, h4, List.flatten_cons, List.length_append, ← v.length]
theorem cr_sumV (hc : X.calm = true) : CallR X (.builtin "sum") (rSumV X.K) := by
  intro pins s σ H vs us Q I r h
  obtain ⟨a, b, rows, parts, ms, rfl, ha, hb, hp, hz, q⟩ := h
  cases r with
  | cons r1 t1 =>
    cases t1 with
    | cons r2 t2 =>
      cases t2
      cases r1
      cases r2
      obtain ⟨za, its, n, va, ea⟩ : ObjOk X.prog X.w H s.heap a (.lst (rows.map V.ref)) := I.hok a _ ha
      obtain ⟨zb, it0, n0, vb, eb⟩ : ObjOk X.prog X.w H s.heap b (.lst ms) := I.hok b _ hb
      obtain ⟨pits, hl2, hg2, hv2, hn2⟩ := rowsV_of I.hok hp
      have e1 : (List.range rows.length).map (fun j => pits.getD j []) = pits := by
        have q := range_map (fun x : List Value => x) [] pits
        rw [List.map_id', hl2] at q
        exact q
      have e2 : ((List.range rows.length).map fun j => (pits.getD j []).length).sum = parts.flatten.length := by
        have q := range_map (fun x : List Value => x.length) [] pits
        rw [hl2] at q
        rw [q, hn2]
      refine sumL_call (I.ok.hd hc) (lits := its) (acc := it0) (parts := fun j => pits.getD j []) ea (refs_of va) eb hg2 (by rw [e2, ← vb.length]; exact hz) fun s' T c kp hg ho hT hw => ?_
      rw [e1] at hT
      have hvals : Vals (ms ++ parts.flatten) (it0 ++ pits.flatten) := by
        exact vb.append hv2
      rcases hw with ⟨z1, z2⟩ | hnew
      · subst z1
        cases hp
        refine ⟨.ref T, H, I.call' (ch := []) ho (Un.kept kp) (I.hok.kept kp) (by rw [hg]; exact I.bare) (fun _ z => nomatch z), rfl, q H T (Same.refl H) (.inl z2) ?_⟩
        rw [z2, hb, List.flatten_nil, List.append_nil]
      · have hn : H T = none := by
          cases eo : H T with
          | none => rfl
          | some o =>
            obtain ⟨u, hu⟩ := objOk_get (I.hok T o eo)
            rw [hnew] at hu
            cases hu
        refine ⟨.ref T, upd H T (.lst (ms ++ parts.flatten)), I.call' (ch := []) ho (Un.laidN kp hnew hn) (I.hok.laidN kp hn ⟨?_, _, c, hvals, hT⟩) (by rw [hg]; exact I.bare) (fun _ z => nomatch z), rfl, q _ T (Same.new hn) (.inr hn) upd_same⟩
        rw [List.length_append]
        exact hz
end
end HSP
namespace HSP
open PySem PySem.Spec PyProof.Rows L2
/-! ## lists of lists of numbers -/
def RowsAt (H0 H : Hp) (q : Addr) (ls : List (List Int)) : Prop := H0 q = none ∧ ∃ rows : List Addr, H q = some (.lst (rows.map V.ref)) ∧ Paired (fun a (l : List Int) => H a = some (.lst (l.map V.int)) ∧ H0 a = none) rows ls
/-- lists of lists, in one heap -/
def Flat (H0 H : Hp) (D : Addr) (row : Addr) (ls : List (List Int)) : Prop := ∃ rows : List Addr, H row = some (.lst (rows.map V.ref)) ∧ row ≠ D ∧ Paired (fun a (l : List Int) => H a = some (.lst (l.map V.int)) ∧ a ≠ D ∧ H0 a = none) rows ls
theorem flat_all {H0 H : Hp} {D : Addr} : ∀ {rs : List Addr} {lss : List (List (List Int))}, Paired (Flat H0 H D) rs lss → ∃ parts : List (List Addr), Paired (fun r (ns : List V) => H r = some (.lst ns)) rs (parts.map fun p => p.map V.ref) ∧ Paired (fun a (l : List Int) => H a = some (.lst (l.map V.int)) ∧ H0 a = none) parts.flatten lss.flatten
  | _, _, .nil => ⟨[], .nil, .nil⟩
  | _, _, .cons ⟨rows, e, _, p⟩ t => by
    obtain ⟨parts, h1, h2⟩ := flat_all t
    refine ⟨rows :: parts, .cons e h1, ?_⟩
    rw [List.flatten_cons, List.flatten_cons]
    exact Paired.app (Paired.mapP p fun _ _ h => ⟨h.1, h.2.2⟩) h2
theorem flat_put {H0 H H' : Hp} {D row : Addr} {ls : List (List Int)} {xs : List V} (h : Flat H0 H D row ls) (s : Same H H') : Flat H0 (upd H' D (.lst xs)) D row ls := by
  obtain ⟨rows, e, n, p⟩ := h
  exact ⟨rows, by rw [upd_ne n]; exact s _ _ e, n, Paired.mapP p fun a l h => ⟨by rw [upd_ne h.2.1]; exact s _ _ h.1, h.2⟩⟩
end HSP
namespace HSP
open PySem PySem.Spec PyProof.Rows L2
section
variable {P : Program} {w : World} {K : PySem.W.Frag} {mg : Str → Option Value} {base : Heap}
/-! ### _law_room -/
theorem sc_law_room : FnScope n_law_room n_law_room (defScope s_law_room) := ⟨rfl, rfl, rfl, by decide +kernel, rfl, by decide +kernel, by decide +kernel⟩
theorem ok_room (a : At K mg "_law_room" s_law_room) : ∀ n, Df P w K mg base "_law_room" n n_law_room (spSize n)
  | 0 => Df.none' a (fun vs H Q E h => by obtain ⟨v, t, _, _, h, _⟩ := h; exact absurd h (Nat.not_lt_zero _)) (fun _ _ _ _ _ _ us hl => match us, hl with | [_], _ => rfl) 0
  | n + 1 => by
    have S := ok_room a n
    refine Df.mk' a sc_law_room (fun vs H Q E h => ?_) (fun _ _ _ _ _ _ us hl => match us, hl with | [_], _ => rfl) (fun f cdv A outer s H vs Q E hr h => ?_)
    · obtain ⟨v, t, rfl, _⟩ := h
      rfl
    obtain ⟨v, t, rfl, ht, hd, q⟩ := h
    refine ⟨_, (pss_one (ps_ret (pe_ifExp (pt_cmpR op_isN (pv 0) pe_non (nomark _)) pe_int (pe_op op_add (pe_op op_add (pe_df S hr (pa_cons (pe_ix ix_tup (pv 0) pe_int (fun _ _ => rfl)) pa_nil)) pe_int) (pe_df S hr (pa_cons (pe_ix ix_tup (pv 0) pe_int (fun _ _ => rfl)) pa_nil)))))), ?_⟩
    refine ⟨v, rfl, rfl, _, rfl, ?_⟩
    cases ht with
    | nil => exact iteT q
    | @nod b x1 x2 l r e hl hr2 =>
      have hd' : max l.ht r.ht + 1 < n + 1 := hd
      refine iteF ?_
      refine ⟨_, rfl, b, _, _, x1, rfl, rfl, .of e, atI_nat (j := 0) rfl, x1, l, rfl, hl, by omega, ?_⟩
      refine ⟨_, _, rfl, rfl, _, rfl, b, _, _, x2, rfl, rfl, .of e, atI_nat (j := 1) rfl, x2, r, rfl, hr2, by omega, ?_⟩
      refine ⟨_, _, rfl, rfl, ?_⟩
      have e2 : ((l.size : Int) + 1 + (r.size : Int)) = (((Tr.nod l r).size : Nat) : Int) := by
        show _ = ((l.size + 1 + r.size : Nat) : Int)
        omega
      rw [← e2] at q
      exact q
end
end HSP
namespace HSP
open PySem PySem.Spec PyProof.Rows L2
/-! ### all trees of so many nodes -/
def trees : Nat → Nat → List Tr
  | _, 0 => [.nil]
  | 0, _ + 1 => []
  | f + 1, n + 1 => (List.range (n + 1)).flatMap fun a => (trees f a).flatMap fun l => (trees f (n - a)).map fun r => .nod l r
theorem trees_all : ∀ (f : Nat) (t : Tr), t.size ≤ f → t ∈ trees f t.size
  | 0, .nil, _ => List.mem_singleton.mpr rfl
  | _ + 1, .nil, _ => List.mem_singleton.mpr rfl
  | 0, .nod l r, h => by
    have : l.size + 1 + r.size ≤ 0 := h
    omega
  | f + 1, .nod l r, h => by
    have h' : l.size + 1 + r.size ≤ f + 1 := h
    have e : (Tr.nod l r).size = (l.size + r.size) + 1 := by
      show l.size + 1 + r.size = _
      omega
    rw [e]
    show Tr.nod l r ∈ (List.range (l.size + r.size + 1)).flatMap fun a => (trees f a).flatMap fun l' => (trees f (l.size + r.size - a)).map fun r' => Tr.nod l' r'
    refine List.mem_flatMap.mpr ⟨l.size, List.mem_range.mpr (by omega), List.mem_flatMap.mpr ⟨l, trees_all f l (by omega), List.mem_map.mpr ⟨r, ?_, rfl⟩⟩⟩
    have e2 : l.size + r.size - l.size = r.size := by omega
    rw [e2]
    exact trees_all f r (by omega)
theorem trees_size : ∀ (f n : Nat) (t : Tr), t ∈ trees f n → t.size = n
  | 0, 0, t, h => by rw [List.mem_singleton.mp h]; rfl
  | _ + 1, 0, t, h => by rw [List.mem_singleton.mp h]; rfl
  | 0, _ + 1, t, h => by cases h
  | f + 1, n + 1, t, h => by
    obtain ⟨a, ha, h⟩ := List.mem_flatMap.mp h
    obtain ⟨l, hl, h⟩ := List.mem_flatMap.mp h
    obtain ⟨r, hr, rfl⟩ := List.mem_map.mp h
    have h1 := List.mem_range.mp ha
    have h2 := trees_size f a l hl
    have h3 := trees_size f (n - a) r hr
    show l.size + 1 + r.size = n + 1
    omega
theorem flatMap_same {α β : Type} {f g : α → List β} : ∀ {l : List α}, (∀ x, x ∈ l → f x = g x) → l.flatMap f = l.flatMap g
  | [], _ => rfl
  | x :: r, h => by rw [List.flatMap_cons, List.flatMap_cons, h x List.mem_cons_self, flatMap_same fun y hy => h y (List.mem_cons_of_mem _ hy)]
/-- more room makes no more trees -/
theorem trees_same : ∀ (f g n : Nat), n ≤ f → n ≤ g → trees f n = trees g n
  | 0, 0, 0, _, _ => rfl
  | 0, _ + 1, 0, _, _ => rfl
  | _ + 1, 0, 0, _, _ => rfl
  | _ + 1, _ + 1, 0, _, _ => rfl
  | 0, _, _ + 1, h, _ => absurd h (by omega)
  | _ + 1, 0, _ + 1, _, h => absurd h (by omega)
  | f + 1, g + 1, n + 1, h1, h2 => by
    show ((List.range (n + 1)).flatMap fun a => (trees f a).flatMap fun l => (trees f (n - a)).map fun r => Tr.nod l r) = (List.range (n + 1)).flatMap fun a => (trees g a).flatMap fun l => (trees g (n - a)).map fun r => Tr.nod l r
    refine flatMap_same fun a ha => ?_
    have ha' := List.mem_range.mp ha
    rw [trees_same f g a (by omega) (by omega), trees_same f g (n - a) (by omega) (by omega)]
/-- all trees of so many nodes -/
def shapesOf (n : Nat) : List Tr := trees n n
theorem shapes_succ (n : Nat) : shapesOf (n + 1) = (List.range (n + 1)).flatMap fun a => (shapesOf a).flatMap fun l => (shapesOf (n - a)).map fun r => Tr.nod l r := by
  show ((List.range (n + 1)).flatMap fun a => (trees n a).flatMap fun l => (trees n (n - a)).map fun r => Tr.nod l r) = _
  refine flatMap_same fun a ha => ?_
  have ha' := List.mem_range.mp ha
  rw [trees_same n a a (by omega) (by omega), trees_same n (n - a) (n - a) (by omega) (by omega)]
  rfl
theorem shapes_in (t : Tr) : t ∈ shapesOf t.size := trees_all _ t (Nat.le_refl _)
theorem shapes_size {n : Nat} {t : Tr} (h : t ∈ shapesOf n) : t.size = n := trees_size _ _ t h
theorem shapes_few : ((List.range 6).all fun n => decide ((shapesOf n).length ≤ 42)) = true := by decide +kernel
theorem shapes_le {n : Nat} (h : n < 6) : (shapesOf n).length ≤ 42 := of_decide_eq_true (List.all_eq_true.mp shapes_few n (List.mem_range.mpr h))
theorem len_flatMap_le {α β : Type} {f : α → List β} {c : Nat} : ∀ {l : List α}, (∀ x, x ∈ l → (f x).length ≤ c) → (l.flatMap f).length ≤ l.length * c
  | [], _ => Nat.zero_le _
  | x :: r, h => by
    have h1 := h x List.mem_cons_self
    have h2 := len_flatMap_le fun y hy => h y (List.mem_cons_of_mem _ hy)
    rw [List.flatMap_cons, List.length_append, List.length_cons, Nat.add_mul, Nat.one_mul]
    omega
end HSP
namespace HSP
open PySem PySem.Spec PyProof.Rows L2
/-! ## what hides an element, by the roots of all trees -/
def hides (g : Nat → Int) (i j : Nat) : Bool := (decide (j < i) && decide (g i ≤ g j)) || (decide (i < j) && decide (g j ≤ g i))
def hid (g : Nat → Int) (n i : Nat) : Option Nat := (List.range n).find? (hides g i)
theorem hid_some {g : Nat → Int} {n i j : Nat} (hj : j < n) (h : hides g i j = true) (no : ∀ k, k < j → hides g i k = false) : hid g n i = some j :=
  List.find?_range_eq_some.mpr ⟨h, List.mem_range.mpr hj, fun k hk => by rw [no k hk]; rfl⟩
theorem hid_none {g : Nat → Int} {n i : Nat} (no : ∀ k, k < n → hides g i k = false) : hid g n i = none :=
  List.find?_range_eq_none.mpr fun k hk => by rw [no k hk]; rfl
theorem size_nod' (l r : Tr) : (Tr.nod l r).size = l.size + 1 + r.size := rfl
theorem sEnd_at (g : Nat → Int) (tw : Int) : ∀ (t : Tr) (f j : Nat), sEnd g tw .fin t f = (true, j) → f ≤ j ∧ j < f + t.size
  | .nil, f, j, h => by cases h
  | .nod l r, f, j, h => by
    rw [sEnd_nod] at h
    rw [size_nod']
    cases w : wayOf tw (g (f + l.size)) .fin with
    | fin =>
      rw [w] at h
      have := (Prod.mk.inj h).2
      omega
    | lft =>
      rw [w] at h
      have := sEnd_at g tw l f j h
      omega
    | rgt =>
      rw [w] at h
      have := sEnd_at g tw r (f + l.size + 1) j h
      omega
theorem way_cases (tw v : Int) : (wayOf tw v .fin = .fin ∧ tw = 2 * v) ∨ (wayOf tw v .fin = .lft ∧ tw < 2 * v) ∨ (wayOf tw v .fin = .rgt ∧ 2 * v < tw) := by
  unfold wayOf
  by_cases c : tw = 2 * v
  · exact .inl ⟨by rw [if_pos c], c⟩
  · by_cases d : tw < 2 * v
    · exact .inr (.inl ⟨by rw [if_neg c, if_pos d], d⟩)
    · exact .inr (.inr ⟨by rw [if_neg c, if_neg d], by omega⟩)
/-- a tree of so many nodes -/
def comb : Nat → Tr
  | 0 => .nil
  | n + 1 => .nod .nil (comb n)
theorem comb_size : ∀ n, (comb n).size = n
  | 0 => rfl
  | n + 1 => by
    rw [comb, size_nod', comb_size n]
    show 0 + 1 + n = n + 1
    omega
def lsz : Tr → Nat
  | .nil => 0
  | .nod l _ => l.size
/-- the element is found under a tree -/
def hits (g : Nat → Int) (i : Nat) (t : Tr) : Bool := decide (sEnd g (2 * g i) .fin t 0 = (true, i))
theorem no_hit {g : Nat → Int} {i : Nat} {l r : Tr} (h : hides g i l.size = true) : hits g i (.nod l r) = false := by
  refine decide_eq_false fun e => ?_
  rw [sEnd_nod, Nat.zero_add] at e
  unfold hides at h
  rcases way_cases (2 * g i) (g l.size) with ⟨w, c⟩ | ⟨w, c⟩ | ⟨w, c⟩
  · rw [w] at e
    have e2 : l.size = i := (Prod.mk.inj e).2
    rw [e2] at h
    rw [decide_eq_false (show ¬ i < i by omega)] at h
    cases h
  · rw [w] at e
    have := sEnd_at _ _ _ _ _ e
    rw [decide_eq_false (show ¬ l.size < i by omega), decide_eq_false (show ¬ g l.size ≤ g i by omega), Bool.and_false] at h
    cases h
  · rw [w] at e
    have := sEnd_at _ _ _ _ _ e
    rw [decide_eq_false (show ¬ i < l.size by omega), decide_eq_false (show ¬ g i ≤ g l.size by omega), Bool.and_false] at h
    cases h
theorem way_fin (g : Int) : wayOf (2 * g) g .fin = .fin := by
  unfold wayOf
  rw [if_pos rfl]
theorem hit_any {g : Nat → Int} {i r n : Nat} (hi : i < n) (hr : r < n) (h : hides g i r = false) : ∃ t, t.size = n ∧ t ≠ .nil ∧ lsz t = r ∧ hits g i t = true := by
  unfold hides at h
  by_cases c : i = r
  · refine ⟨.nod (comb r) (comb (n - 1 - r)), by rw [size_nod', comb_size, comb_size]; omega, fun z => (by cases z), comb_size r, decide_eq_true ?_⟩
    rw [sEnd_nod, comb_size, Nat.zero_add, ← c, way_fin]
  by_cases d : i < r
  · rw [decide_eq_false (show ¬ r < i by omega), decide_eq_true d] at h
    have e : ¬ g r ≤ g i := of_decide_eq_false (by simpa using h)
    have s : (Tr.nod (comb i) (comb (r - 1 - i))).size = r := by rw [size_nod', comb_size, comb_size]; omega
    refine ⟨.nod (.nod (comb i) (comb (r - 1 - i))) (comb (n - 1 - r)), by rw [size_nod', s, comb_size]; omega, fun z => (by cases z), s, decide_eq_true ?_⟩
    have w : wayOf (2 * g i) (g r) .fin = .lft := by
      unfold wayOf
      rw [if_neg (by omega), if_pos (by omega)]
    rw [sEnd_nod, s, Nat.zero_add, w]
    show sEnd g (2 * g i) .fin (.nod (comb i) (comb (r - 1 - i))) 0 = _
    rw [sEnd_nod, comb_size, Nat.zero_add, way_fin]
  · rw [decide_eq_true (show r < i by omega), decide_eq_false (show ¬ i < r by omega)] at h
    have e : ¬ g i ≤ g r := of_decide_eq_false (by simpa using h)
    have s : (Tr.nod (comb (i - r - 1)) (comb (n - 1 - i))).size = n - 1 - r := by rw [size_nod', comb_size, comb_size]; omega
    refine ⟨.nod (comb r) (.nod (comb (i - r - 1)) (comb (n - 1 - i))), by rw [size_nod', s, comb_size]; omega, fun z => (by cases z), comb_size r, decide_eq_true ?_⟩
    have w : wayOf (2 * g i) (g r) .fin = .rgt := by
      unfold wayOf
      rw [if_neg (by omega), if_neg (by omega)]
    rw [sEnd_nod, comb_size, Nat.zero_add, w]
    show sEnd g (2 * g i) .fin (.nod (comb (i - r - 1)) (comb (n - 1 - i))) (r + 1) = _
    rw [sEnd_nod, comb_size, show r + 1 + (i - r - 1) = i by omega, way_fin]
def byRoots (g : Nat → Int) (ts : List Tr) (n i : Nat) : Option Nat := (List.range n).find? fun r => !((ts.filter fun t => lsz t == r).any (hits g i))
theorem find_same {α : Type} {p q : α → Bool} : ∀ {l : List α}, (∀ x, x ∈ l → p x = q x) → l.find? p = l.find? q
  | [], _ => rfl
  | x :: r, h => by
    rw [List.find?_cons, List.find?_cons, h x List.mem_cons_self, find_same fun y hy => h y (List.mem_cons_of_mem _ hy)]
theorem roots_hid {g : Nat → Int} {n i : Nat} (hi : i < n) : byRoots g (shapesOf n) n i = hid g n i := by
  refine find_same fun r hr => ?_
  have hr' := List.mem_range.mp hr
  cases h : hides g i r with
  | true =>
    rw [Bool.not_eq_true']
    refine List.any_eq_false.mpr fun t ht => ?_
    obtain ⟨h1, h2⟩ := List.mem_filter.mp ht
    have h3 : lsz t = r := eq_of_beq h2
    cases t with
    | nil =>
      have := shapes_size h1
      have e : Tr.nil.size = 0 := rfl
      omega
    | nod l r' =>
      have h4 : l.size = r := h3
      rw [no_hit (by rw [h4]; exact h)]
      exact Bool.false_ne_true
  | false =>
    rw [Bool.not_eq_false']
    obtain ⟨t, h1, h2, h3, h4⟩ := hit_any hi hr' h
    refine List.any_eq_true.mpr ⟨t, List.mem_filter.mpr ⟨?_, by rw [h3]; exact beq_self_eq_true _⟩, h4⟩
    rw [← h1]
    exact shapes_in t
theorem hit_all {g : Nat → Int} {i : Nat} : ∀ (t : Tr) (f : Nat), f ≤ i → i < f + t.size → (∀ j, f ≤ j → j < f + t.size → hides g i j = false) → sEnd g (2 * g i) .fin t f = (true, i)
  | .nil, f, h1, h2, _ => by
    have e : Tr.nil.size = 0 := rfl
    omega
  | .nod l r, f, h1, h2, h => by
    rw [size_nod'] at h2 h
    rw [sEnd_nod]
    have hk := h (f + l.size) (by omega) (by omega)
    unfold hides at hk
    rcases Nat.lt_trichotomy i (f + l.size) with c | c | c
    · rw [decide_eq_false (show ¬ f + l.size < i by omega), decide_eq_true c] at hk
      have e : ¬ g (f + l.size) ≤ g i := of_decide_eq_false (by simpa using hk)
      have w : wayOf (2 * g i) (g (f + l.size)) .fin = .lft := by
        unfold wayOf
        rw [if_neg (by omega), if_pos (by omega)]
      rw [w]
      exact hit_all l f h1 c fun j a b => h j a (by omega)
    · rw [← c, way_fin]
    · rw [decide_eq_true c, decide_eq_false (show ¬ i < f + l.size by omega)] at hk
      have e : ¬ g i ≤ g (f + l.size) := of_decide_eq_false (by simpa using hk)
      have w : wayOf (2 * g i) (g (f + l.size)) .fin = .rgt := by
        unfold wayOf
        rw [if_neg (by omega), if_neg (by omega)]
      rw [w]
      exact hit_all r (f + l.size + 1) (by omega) (by omega) fun j a b => h j (by omega) (by omega)
theorem every_hid {g : Nat → Int} {n i : Nat} (hi : i < n) : ((shapesOf n).filter fun t => !hits g i t).isEmpty = (hid g n i).isNone := by
  cases e : hid g n i with
  | none =>
    show _ = true
    rw [List.isEmpty_iff, List.filter_eq_nil_iff]
    intro t ht
    have no := List.find?_range_eq_none.mp e
    have sz := shapes_size ht
    have h : hits g i t = true := decide_eq_true (hit_all t 0 (Nat.zero_le _) (by omega) fun j _ hj => by simpa using no j (by omega))
    rw [h]
    exact Bool.false_ne_true
  | some r =>
    show _ = false
    obtain ⟨h1, h2, _⟩ := List.find?_range_eq_some.mp e
    have hr := List.mem_range.mp h2
    refine Bool.eq_false_iff.mpr fun z => ?_
    rw [List.isEmpty_iff, List.filter_eq_nil_iff] at z
    have s : (Tr.nod (comb r) (comb (n - 1 - r))).size = n := by rw [size_nod', comb_size, comb_size]; omega
    have mem := shapes_in (Tr.nod (comb r) (comb (n - 1 - r)))
    rw [s] at mem
    refine z _ mem ?_
    rw [no_hit (by rw [comb_size]; exact h1)]
    rfl
/-- by the values themselves -/
theorem head_hid {g : Nat → Int} {n i : Nat} (hi : i < n) :
    ((((List.range i).filter fun j => decide (g j ≥ g i)).map natV ++ ((List.range (n - (i + 1))).filter fun j => decide (g (i + 1 + j) ≤ g i)).map fun j => natV (i + 1 + j)) ++ [V.non])[0]? = some (optNV (hid g n i)) := by
  rw [← List.head?_eq_getElem?]
  cases e1 : (List.range i).find? (fun j => decide (g j ≥ g i)) with
  | some x =>
    have e1' := e1
    rw [← List.head?_filter] at e1'
    obtain ⟨h1, h2, h3⟩ := List.find?_range_eq_some.mp e1
    have hx := List.mem_range.mp h2
    rw [hid_some (j := x) (by omega) (by unfold hides; rw [decide_eq_true hx, h1]; rfl) (fun k hk => by
      have q := h3 k hk
      have q2 : decide (g k ≥ g i) = false := by simpa using q
      unfold hides
      rw [show decide (g i ≤ g k) = false from q2, decide_eq_false (show ¬ i < k by omega), Bool.and_false]
      rfl)]
    cases e2 : (List.range i).filter fun j => decide (g j ≥ g i) with
    | nil => rw [e2] at e1'; cases e1'
    | cons y r =>
      rw [e2] at e1'
      cases (show some y = some x from e1')
      rfl
  | none =>
    have no1 := List.find?_range_eq_none.mp e1
    have e2 : (List.range i).filter (fun j => decide (g j ≥ g i)) = [] := List.filter_eq_nil_iff.mpr fun k hk => by simpa using no1 k (List.mem_range.mp hk)
    rw [e2, List.map_nil, List.nil_append]
    have low : ∀ k, k ≤ i → hides g i k = false := fun k hk => by
      unfold hides
      rw [decide_eq_false (show ¬ i < k by omega)]
      by_cases c : k < i
      · have q : decide (g k ≥ g i) = false := by simpa using no1 k c
        rw [show decide (g i ≤ g k) = false from q, Bool.and_false]
        rfl
      · rw [decide_eq_false c]
        rfl
    cases e3 : (List.range (n - (i + 1))).find? (fun j => decide (g (i + 1 + j) ≤ g i)) with
    | some x =>
      have e3' := e3
      rw [← List.head?_filter] at e3'
      obtain ⟨h1, h2, h3⟩ := List.find?_range_eq_some.mp e3
      have hx := List.mem_range.mp h2
      rw [hid_some (j := i + 1 + x) (by omega) (by unfold hides; rw [h1, decide_eq_true (show i < i + 1 + x by omega), Bool.and_true, Bool.or_true]) (fun k hk => by
        by_cases c : k ≤ i
        · exact low k c
        · have q : decide (g (i + 1 + (k - (i + 1))) ≤ g i) = false := by simpa using h3 (k - (i + 1)) (by omega)
          rw [show i + 1 + (k - (i + 1)) = k by omega] at q
          unfold hides
          rw [q, decide_eq_false (show ¬ k < i by omega), Bool.and_false]
          rfl)]
      cases e4 : (List.range (n - (i + 1))).filter fun j => decide (g (i + 1 + j) ≤ g i) with
      | nil => rw [e4] at e3'; cases e3'
      | cons y r =>
        rw [e4] at e3'
        cases (show some y = some x from e3')
        rfl
    | none =>
      have no3 := List.find?_range_eq_none.mp e3
      have e4 : (List.range (n - (i + 1))).filter (fun j => decide (g (i + 1 + j) ≤ g i)) = [] := List.filter_eq_nil_iff.mpr fun k hk => by simpa using no3 k (List.mem_range.mp hk)
      rw [e4, hid_none (fun k hk => by
        by_cases c : k ≤ i
        · exact low k c
        · have q : decide (g (i + 1 + (k - (i + 1))) ≤ g i) = false := by simpa using no3 (k - (i + 1)) (by omega)
          rw [show i + 1 + (k - (i + 1)) = k by omega] at q
          unfold hides
          rw [q, decide_eq_false (show ¬ k < i by omega), Bool.and_false]
          rfl)]
      rfl
/-! ### lists of trees as data -/
theorem treeD_can : ∀ t : Tr, PyData.canLay0 (treeD t) = true
  | .nil => by simp only [treeD, PyData.canLay0]
  | .nod l r => by simp only [treeD, PyData.canLay0, PyData.canLayAll0, treeD_can l, treeD_can r, Bool.and_self]
def treesD (ts : List Tr) : PyData := .list (ts.map treeD)
theorem trees_can : ∀ l : List Tr, PyData.canLayAll0 (l.map treeD) = true
  | [] => by simp [PyData.canLayAll0]
  | x :: r => by
    have ih := trees_can r
    have h1 := treeD_can x
    simp only [List.map_cons, PyData.canLayAll0, h1, ih, Bool.and_self]
theorem trees_deep (c : Nat) : ∀ l : List Tr, (∀ t, t ∈ l → t.ht ≤ c) → PyData.depthAll (l.map treeD) ≤ c + 1
  | [], _ => by simp [PyData.depthAll]
  | x :: r, h => by
    have ih := trees_deep c r fun t ht => h t (List.mem_cons_of_mem _ ht)
    have h1 := treeD_deep x
    have h2 := h x List.mem_cons_self
    simp only [List.map_cons, PyData.depthAll]
    omega
theorem treesD_shaped {l : List Tr} (h : ∀ t, t ∈ l → t.ht ≤ 20) : SeqAt.shaped (treesD l) = true := by
  unfold SeqAt.shaped
  rw [Bool.and_eq_true]
  have h1 := trees_deep 20 l h
  refine ⟨?_, decide_eq_true ?_⟩
  · unfold treesD
    simp only [PyData.canLay0]
    exact trees_can l
  · unfold treesD
    simp only [PyData.depth]
    omega
theorem trees_dp {K : PySem.W.Frag} {H : Hp} {xs : List V} {ts : List Tr} (p : Paired (fun v t => TrAt H v t) xs ts) : DpAll K H xs (ts.map treeD) := by
  induction p with
  | nil => exact .nil
  | cons h _ ih => exact .cons h.dp ih
theorem trees_nil (ts : List Tr) : PyData.eqv (treesD ts) (treesD []) = ts.isEmpty := by
  cases ts with
  | nil => simp [treesD, PyData.eqv, PyData.eqvAll]
  | cons t r => simp [treesD, PyData.eqv, PyData.eqvAll]
/-- among how some searches ended -/
theorem ends_any (i : Nat) : ∀ rs : List (Bool × Nat), ((rs.map fun r => rowD (endRow r)).any fun z => PyData.eqv z (rowD [.str "found", natV i])) = rs.any fun r => decide (r = (true, i))
  | [] => rfl
  | r :: rs => by rw [List.map_cons, List.any_cons, List.any_cons, end_eqv, ends_any i rs]
end HSP
namespace HSP
open PySem PySem.Spec PyProof.Rows L2
section
variable {P : Program} {w : World} {K : PySem.W.Frag} {mg : Str → Option Value} {base : Heap}
/-! ### _law_all_shapes -/
/-- a list of trees -/
def TreesAt (H : Hp) (q : Addr) (ts : List Tr) : Prop := ∃ xs : List V, H q = some (.lst xs) ∧ Paired (fun v t => TrAt H v t) xs ts
theorem TreesAt.same {H H' : Hp} {q : Addr} {ts : List Tr} (h : TreesAt H q ts) (s : Same H H') : TreesAt H' q ts := by
  obtain ⟨xs, e, p⟩ := h
  exact ⟨xs, s _ _ e, Paired.mapP p fun v t h => h.same s⟩
def spShapes (n : Nat) : Sp := fun vs H Q _ => ∃ m : Nat, vs = [natV m] ∧ m < n ∧ m < 6 ∧ ∀ (H' : Hp) (q : Addr), Same H H' → H q = none → TreesAt H' q (shapesOf m) → Q (.ref q) H'
end
end HSP
namespace HSP
open PySem PySem.Spec PyProof.Rows L2
section
variable {P : Program} {w : World} {K : PySem.W.Frag} {mg : Str → Option Value} {base : Heap}
/-! ### _law_ended -/
theorem sc_law_ended : FnScope n_law_ended p_law_ended (defScope s_law_ended) := ⟨rfl, rfl, rfl, by decide +kernel, rfl, by decide +kernel, by decide +kernel⟩
def spEnded (n : Nat) : Sp := fun vs H Q _ => ∃ (v : V) (t : Tr) (a : Addr) (ns : List Int) (tw : Int), vs = [v, .ref a, .int tw] ∧ TrAt H v t ∧ t.ht < n ∧ H a = some (.lst (ns.map V.int)) ∧ ns.length = t.size ∧
  ∀ (H' : Hp) (r : Addr), Same H H' → H r = none → H' r = some (.tup (endRow (sEnd (valAt ns) tw .fin t 0))) → Q (.ref r) H'
theorem ok_ended {n : Nat} (Z : Df P w K mg base "_law_room" n n_law_room (spSize n)) (a : At K mg "_law_ended" s_law_ended) : Df P w K mg base "_law_ended" (n + 1) p_law_ended (spEnded n) := by
  refine Df.mk' a sc_law_ended (fun vs H Q E h => ?_) (fun _ _ _ _ _ _ us hl => match us, hl with | [_, _, _], _ => rfl) (fun f cdv A outer s H vs Q E hr h => ?_)
  · obtain ⟨v, t, a, ns, tw, rfl, _⟩ := h
    rfl
  obtain ⟨v, t, a, ns, tw, rfl, ht, hd, ha, hn, q⟩ := h
  refine ⟨_, (pss_cons (ps_set (i := 3) sc_law_ended.nd rfl (.inl rfl) pe_int)
 (pss_cons (ps_while PassesOwn.never (pt_cmpR op_notN (pv 0) pe_non (nomark _)) (pss_cons (ps_set (i := 4) sc_law_ended.nd rfl (.inl rfl) (pe_op op_add (pv 3) (pe_df Z hr (pa_cons (pe_ix ix_tup (pv 0) pe_int (fun _ _ => rfl)) pa_nil))))
 (pss_cons (ps_if (pt_cmpR op_eq (pe_op op_mul pe_int (pe_ix ix_list (pv 1) (pv 4) (fun _ _ => rfl))) (pv 2) (nomark _)) (pss_one (ps_ret (pe_tup (pa_cons pe_str (pa_cons (pv 4) pa_nil))))) pss_nil)
 (pss_one (ps_asg (pe_ifExp (pt_cmpR op_gt (pe_op op_mul pe_int (pe_ix ix_list (pv 1) (pv 4) (fun _ _ => rfl))) (pv 2) (nomark _)) (pe_tup (pa_cons (pv 3) (pa_cons (pe_ix ix_tup (pv 0) pe_int (fun _ _ => rfl)) pa_nil))) (pe_tup (pa_cons (pe_op op_add (pv 4) pe_int) (pa_cons (pe_ix ix_tup (pv 0) pe_int (fun _ _ => rfl)) pa_nil)))) (pg_tup rfl (pgs_cons (pg_name (i := 3) sc_law_ended.nd rfl (.inl rfl)) (pgs_cons (pg_name (i := 0) sc_law_ended.nd rfl (.inl rfl)) pgs_nil))))))))
 (pss_one (ps_ret (pe_tup (pa_cons pe_str (pa_cons (pv 3) pa_nil))))))), ?_⟩
  have two : 2 ≤ sizeLine := by show 2 ≤ sizeLine; decide
  refine ⟨fun m σ H1 => ∃ (x : V) (u : Tr) (f : Nat) (y : Option V), σ = [some x, some (.ref a), some (.int tw), some (.int (f : Int)), y] ∧ Same H H1 ∧ TrAt H x u ∧ u.ht < n ∧ f + u.size ≤ t.size ∧ sEnd (valAt ns) tw .fin t 0 = sEnd (valAt ns) tw .fin u f ∧ m = u.size,
    ⟨_, v, t, 0, none, rfl, Same.refl _, ht, hd, by omega, rfl, rfl⟩, fun m σ H1 hW => ?_⟩
  obtain ⟨x, u, f, y, rfl, sm, hx, hux, hf, hE, rfl⟩ := hW
  refine ⟨x, rfl, rfl, _, rfl, ?_⟩
  cases hx with
  | nil =>
    refine iteF ?_
    refine ⟨_, rfl, two, fun e he => q _ e (sm.trans (Same.new he)) (sm.free he) ?_⟩
    rw [hE, upd_same]
    rfl
  | @nod b x1 x2 t1 t2 eb g1 g2 =>
    refine iteT ⟨fun σ' H' => ∃ m', m' < (Tr.nod t1 t2).size ∧ ∃ (x : V) (u : Tr) (f : Nat) (y : Option V), σ' = [some x, some (.ref a), some (.int tw), some (.int (f : Int)), y] ∧ Same H H' ∧ TrAt H x u ∧ u.ht < n ∧ f + u.size ≤ t.size ∧ sEnd (valAt ns) tw .fin t 0 = sEnd (valAt ns) tw .fin u f ∧ m' = u.size,
      fun σ' H' hN => hN, ?_⟩
    have hsz : (Tr.nod t1 t2).size = t1.size + 1 + t2.size := rfl
    have hht : (Tr.nod t1 t2).ht = max t1.ht t2.ht + 1 := rfl
    rw [hsz] at hf
    rw [hht] at hux
    rw [sEnd_nod] at hE
    refine ⟨_, rfl, _, rfl, b, _, _, x1, rfl, rfl, .of (sm _ _ eb), atI_nat (j := 0) rfl, x1, t1, rfl, g1.same sm, by omega, _, _, rfl, rfl, ?_⟩
    have item := at_of (z := (f : Int) + (t1.size : Int)) (j := f + t1.size) (by omega) (valAt_get (ns := ns) (by omega))
    have en : V.int ((f : Int) + (t1.size : Int)) = natV (f + t1.size) := congrArg V.int (by omega)
    have ha1 := sm _ _ ha
    refine ⟨_, rfl, _, rfl, a, _, _, _, rfl, rfl, .of ha1, item, _, _, rfl, rfl, .inl ⟨by decide, by decide⟩, _, rfl, rfl, _, rfl, ite2 (fun c => ?_) (fun c => ?_)⟩
    · have c1 : 2 * valAt ns (f + t1.size) = tw := V.int.inj (of_decide_eq_true c)
      refine ⟨_, rfl, two, fun e he => q _ e (sm.trans (Same.new he)) (sm.free he) ?_⟩
      have ew : wayOf tw (valAt ns (f + t1.size)) .fin = .fin := by
        unfold wayOf
        rw [if_pos c1.symm]
      rw [hE, ew, upd_same]
      exact congrArg (fun q => some (HO.tup [V.str "found", q])) en
    have c1 : ¬ 2 * valAt ns (f + t1.size) = tw := fun z => c (decide_eq_true (congrArg V.int z))
    refine ⟨_, rfl, _, rfl, a, _, _, _, rfl, rfl, .of ha1, item, _, _, rfl, rfl, .inl ⟨by decide, by decide⟩, _, rfl, _, _, rfl, rfl, _, rfl, ite2 (fun d => ?_) (fun d => ?_)⟩
    · have d1 : tw < 2 * valAt ns (f + t1.size) := of_decide_eq_true d
      have ew : wayOf tw (valAt ns (f + t1.size)) .fin = .lft := by
        unfold wayOf
        rw [if_neg (Ne.symm c1), if_pos d1]
      rw [ew] at hE
      refine ⟨_, rfl, _, rfl, b, _, _, x1, rfl, rfl, .of (sm _ _ eb), atI_nat (j := 0) rfl, two, fun P2 hP2 => ⟨P2, _, rfl, .of upd_same, rfl, _, _, rfl, _, [], rfl, rfl, ?_⟩⟩
      have sP := Same.new (o := .tup [V.int (f : Int), x1]) hP2
      exact ⟨t1.size, by rw [hsz]; omega, x1, t1, f, _, rfl, sm.trans sP, g1, by omega, by omega, hE, rfl⟩
    · have d1 : ¬ tw < 2 * valAt ns (f + t1.size) := fun z => d (decide_eq_true z)
      have ew : wayOf tw (valAt ns (f + t1.size)) .fin = .rgt := by
        unfold wayOf
        rw [if_neg (Ne.symm c1), if_neg d1]
      rw [ew] at hE
      refine ⟨_, rfl, _, _, rfl, rfl, _, rfl, b, _, _, x2, rfl, rfl, .of (sm _ _ eb), atI_nat (j := 1) rfl, two, fun P2 hP2 => ⟨P2, _, rfl, .of upd_same, rfl, _, _, rfl, _, [], rfl, rfl, ?_⟩⟩
      have sP := Same.new (o := .tup [V.int ((f : Int) + (t1.size : Int) + 1), x2]) hP2
      refine ⟨t2.size, by rw [hsz]; omega, x2, t2, f + t1.size + 1, some (.int ((f : Int) + (t1.size : Int))), ?_, sm.trans sP, g2, by omega, by omega, hE, rfl⟩
      exact congrArg (fun q => [some x2, some (V.ref a), some (V.int tw), some (V.int q), some (V.int ((f : Int) + (t1.size : Int)))]) (by omega : (f : Int) + (t1.size : Int) + 1 = ((f + t1.size + 1 : Nat) : Int))
end
end HSP
namespace HSP
open PySem PySem.Spec PyProof.Rows L2
section
variable {P : Program} {w : World} {K : PySem.W.Frag} {mg : Str → Option Value} {base : Heap}
/-! ### _law_lists -/
theorem sc_law_lists : FnScope n_law_lists ["nodes", "a_least", "a_most"] (defScope s_law_lists) := ⟨rfl, rfl, rfl, by decide +kernel, rfl, by decide +kernel, by decide +kernel⟩
theorem lists_few {lo : Int} {m n : Nat} (hn : n < 5) (hm : m < 6) : (listsOf lo m n).length ≤ 625 := by
  rw [lists_many]
  have h : ∀ n, n < 5 → ∀ m, m < 6 → m ^ n ≤ 625 := by decide
  exact h n hn m hm
def spLists : Sp := fun vs H Q _ => ∃ (n : Nat) (lo mo : Int), vs = [natV n, .int lo, .int mo] ∧ n < 5 ∧ (mo + 1 - lo).toNat < 6 ∧ -1000 ≤ lo ∧ mo ≤ 1000 ∧ -1000 ≤ mo ∧ lo ≤ 1000 ∧ ∀ (H' : Hp) (q : Addr), Same H H' → RowsAt H H' q (listsOf lo (mo + 1 - lo).toNat n) → Q (.ref q) H'
theorem ok_lists (B : Bl mg) (a : At K mg "_law_lists" s_law_lists) : Df P w K mg base "_law_lists" 1 ["nodes", "a_least", "a_most"] spLists := by
  refine Df.mk' a sc_law_lists (fun vs H Q E h => ?_) (fun _ _ _ _ _ _ us hl => match us, hl with | [_, _, _], _ => rfl) (fun f cdv A outer s H vs Q E hr h => ?_)
  · obtain ⟨n, lo, mo, rfl, _⟩ := h
    rfl
  obtain ⟨n, lo, mo, rfl, hn, hm, f1, f2, f3, f4, q⟩ := h
  obtain ⟨m, em⟩ : ∃ m : Nat, m = (mo + 1 - lo).toNat := ⟨_, rfl⟩
  rw [← em] at q hm
  refine ⟨_, (pss_cons (ps_set (i := 3) sc_law_lists.nd rfl (.inl rfl) (pe_lst (pa_cons (pe_lst pa_nil) pa_nil)))
 (pss_cons (ps_for PassesOwn.never rfl (pi_range1 (by rfl) B.range (pa_cons (pv 0) pa_nil)) (pg_name (i := 4) sc_law_lists.nd rfl (.inl rfl)) (pss_one (ps_set (i := 3) sc_law_lists.nd rfl (.inl rfl) (pe_callB (cr_sumV rfl) (by rfl) B.sum (by decide +kernel) (pa_cons (pe_lc (own := [("some", 5)]) (g := (gName 5)) (tt := tYes) (by rfl) sc_law_lists.nd (pi_list (pv 3)) (blkOk_by (N := n_law_lists) (sc := defScope s_law_lists) (by decide +kernel)) (fun _ _ _ _ _ => (pg_name (i := 5) sc_law_lists.nd rfl (.inr rfl))) (fun _ _ _ _ _ => pts_nil) (fun _ _ _ _ _ => (pe_lc (own := [("value", 6)]) (g := (gName 6)) (tt := tYes) (by rfl) sc_law_lists.nd (pi_range2 (by rfl) B.range (pa_cons (pv 1) (pa_cons (pe_op op_add (pv 2) pe_int) pa_nil))) (blkOk_by (N := n_law_lists) (sc := ({ kind := .function, names := [(".0", .local), ("some", .cell), ("range", .globalImplicit), ("a_least", .cell), ("a_most", .cell)], isGenerator := false, isCoroutine := false } : Scope)) (by decide +kernel)) (fun _ _ _ _ _ => (pg_name (i := 6) sc_law_lists.nd rfl (.inl rfl))) (fun _ _ _ _ _ => pts_nil) (fun _ _ _ _ _ => (pe_op op_cat (pv 5) (pe_lst (pa_cons (pv 6) pa_nil))))))) (pa_cons (pe_lst pa_nil) pa_nil))))))
 (pss_one (ps_ret (pv 3))))), ?_⟩
  have one : 1 ≤ sizeLine := by show 1 ≤ sizeLine; decide
  have zero : 0 ≤ sizeLine := by show 0 ≤ sizeLine; decide
  refine ⟨zero, fun E0 hE0 => ⟨one, fun L0 hL0 => ?_⟩⟩
  have sE0 := Same.new (o := .lst []) hE0
  have sL0 := Same.new (o := .lst [V.ref E0]) hL0
  refine ⟨_, rfl, _, rfl, by omega, by omega, for_range (lo := 0) (n := ((n : Nat) : Int).toNat) (fun k σ H' => ∃ (r : Addr) (y3 y4 y5 : Option V), σ = [some (natV n), some (.int lo), some (.int mo), some (.ref r), y3, y4, y5] ∧ Same H H' ∧ RowsAt H H' r (listsOf lo m k)) ⟨L0, _, _, _, rfl, sE0.trans sL0, sE0.free hL0, [E0], upd_same, .cons ⟨sL0 _ _ upd_same, hE0⟩ .nil⟩ (fun k σ H1 hk h1 => ?_) (fun σ H1 h1 => ?_)⟩
  · obtain ⟨r, y3, y4, y5, rfl, s1, fr, rows, er, pr⟩ := h1
    have hk4 : k < 5 := by omega
    have few := lists_few (lo := lo) hk4 hm
    have lr := Paired.length pr
    refine ⟨_, rfl, r, rfl, ⟨_, .of er⟩, fun D hD => ?_⟩
    refine lc_list (xs := rows.map V.ref) (fun i H' => Same H1 H' ∧ ∃ rs : List Addr, H' D = some (.lst (rs.map V.ref)) ∧ rs.length = i ∧ Paired (Flat H H' D) rs (((listsOf lo m k).take i).map fun s => (List.range m).map fun (i : Nat) => s ++ [lo + (i : Int)])) ⟨Same.new hD, [], upd_same, rfl, .nil⟩ (fun i H2 _ h2 => .of (h2.1 _ _ er)) (fun i x H2 hx h2 => ?_) (fun H2 h2 => ?_)
    · obtain ⟨s2, rs, e2, l2, p2⟩ := h2
      rw [List.getElem?_map] at hx
      obtain ⟨c, hc, rfl⟩ := Option.map_eq_some_iff.mp hx
      obtain ⟨s, hs, ec, _⟩ := Paired.getL pr hc
      have hi : i < rows.length := (List.getElem?_eq_some_iff.mp hc).1
      have ec2 := s2 _ _ ec
      refine ⟨rfl, ?_⟩
      have ee : ∀ n0 : Nat, ((List.range (n0 + 1)).map fun (i : Nat) => s ++ [lo + (i : Int)]) = ((List.range n0).map fun (i : Nat) => s ++ [lo + (i : Int)]) ++ [s ++ [lo + (n0 : Int)]] := fun n0 => by
        rw [List.range_succ, List.map_append]
        rfl
      have et : (listsOf lo m k).take (i + 1) = (listsOf lo m k).take i ++ [s] := by
        rw [List.take_add_one, hs]
        rfl
      have lensmall : s.length < 7 := by rw [lists_len k s (List.mem_of_getElem? hs)]; omega
      have nDD0 : ∀ {D2 : Addr}, H2 D2 = none → D ≠ D2 := fun hD2 => ne_of_none e2 hD2
      refine ⟨_, rfl, _, rfl, _, _, rfl, rfl, lo, mo + 1, rfl, ⟨by omega, by omega, by omega, by omega⟩, fun D2 hD2 => ?_⟩
      have nDD := nDD0 hD2
      refine lc_range (lo := lo) (n := (mo + 1 - lo).toNat) (fun j H' => Same H2 H' ∧ ∃ es : List Addr, H' D2 = some (.lst (es.map V.ref)) ∧ es.length = j ∧ Paired (fun a (l : List Int) => H' a = some (.lst (l.map V.int)) ∧ a ≠ D2 ∧ a ≠ D ∧ H a = none) es ((List.range j).map fun (i : Nat) => s ++ [lo + (i : Int)])) ⟨Same.new hD2, [], upd_same, rfl, .nil⟩ (fun j H4 hj h4 => ?_) (fun H4 h4 => ?_)
      · obtain ⟨s4, es, e4, l4, p4⟩ := h4
        refine ⟨rfl, ?_⟩
        refine ⟨_, rfl, _, rfl, one, fun Y hY => ⟨c, Y, _, _, rfl, rfl, Same.new hY _ _ (s4 _ _ ec2), upd_same, ?_, fun C hC => ?_⟩⟩
        · rw [List.length_map]
          have := lensmall
          show s.length + 1 ≤ sizeLine
          exact Nat.le_of_lt (small1000 (by omega))
        have sY := Same.new (o := .lst [V.int (lo + (j : Int))]) hY
        have sC := Same.new (o := .lst (s.map V.int ++ [V.int (lo + (j : Int))])) hC
        have sYC := sY.trans sC
        have nCD2 : D2 ≠ C := ne_of_none (sY _ _ e4) hC
        have nCD : D ≠ C := ne_of_none (sY _ _ (s4 _ _ e2)) hC
        refine ⟨_, sYC _ _ e4, ?_, fun b o e => ?_, es ++ [C], ?_, ?_, ?_⟩
        · rw [List.length_map]
          exact small1000 (by omega)
        · rw [upd_ne (ne_of_none e hD2)]
          exact sYC _ _ (s4 _ _ e)
        · rw [upd_same, List.map_append]
          rfl
        · rw [List.length_append, List.length_singleton, l4]
        · rw [ee]
          refine Paired.app (Paired.mapP p4 fun a l h => ⟨?_, h.2⟩) (.cons ⟨?_, nCD2.symm, nCD.symm, s1.free (s2.free (s4.free (sY.free hC)))⟩ .nil)
          · rw [upd_ne h.2.1]
            exact sYC _ _ h.1
          · rw [upd_ne nCD2.symm, upd_same, List.map_append]
            rfl
      · obtain ⟨s4, es, e4, l4, p4⟩ := h4
        rw [← em] at p4
        have s14 := s2.trans s4
        refine ⟨_, s4 _ _ e2, ?_, fun b o e => ?_, rs ++ [D2], ?_, ?_, ?_⟩
        · rw [List.length_map]
          exact small1000 (by omega)
        · rw [upd_ne (ne_of_none e hD)]
          exact s14 _ _ e
        · rw [upd_same, List.map_append]
          rfl
        · rw [List.length_append, List.length_singleton, l2]
        · rw [et, List.map_append]
          refine Paired.app (Paired.mapP p2 fun a l h => flat_put h s4) (.cons ⟨es, ?_, nDD.symm, Paired.mapP p4 fun a l h => ⟨?_, h.2.2⟩⟩ .nil)
          · rw [upd_ne nDD.symm]
            exact e4
          · rw [upd_ne h.2.2.1]
            exact h.1
    · obtain ⟨s2, rs, e2, l2, p2⟩ := h2
      rw [List.length_map, lr, List.take_length] at p2
      refine ⟨zero, fun Z hZ => ?_⟩
      have sZ := Same.new (o := .lst []) hZ
      obtain ⟨parts, f1, f2⟩ := flat_all p2
      have e0 : ((listsOf lo m k).map fun s => (List.range m).map fun (i : Nat) => s ++ [lo + (i : Int)]).flatten = listsOf lo m (k + 1) := (List.flatMap_def).symm
      rw [e0] at f2
      have few2 := lists_few (lo := lo) (show k + 1 < 5 by omega) hm
      refine ⟨D, Z, rs, parts.map fun p => p.map V.ref, [], rfl, sZ _ _ e2, upd_same, Paired.mapP f1 fun _ _ h => sZ _ _ h, ?_, fun H4 M s4 wM eM => ?_⟩
      · rw [← List.map_flatten, List.length_map, Paired.length f2]
        exact Nat.le_of_lt (small1000 (by show 0 + (listsOf lo m (k + 1)).length ≤ _; omega))
      · refine ⟨M, _, _, _, rfl, s1.trans (s2.trans (sZ.trans s4)), ?_, parts.flatten, ?_, Paired.mapP f2 fun _ _ h => ⟨(sZ.trans s4) _ _ h.1, h.2⟩⟩
        · rcases wM with z | z
          · rw [z]
            exact s1.free (s2.free hZ)
          · exact s1.free (s2.free (sZ.free z))
        rw [eM, ← List.map_flatten]
        rfl
  · obtain ⟨r, y3, y4, y5, rfl, s1, h⟩ := h1
    exact ⟨_, rfl, q _ r s1 (by rw [show ((n : Nat) : Int).toNat = n by omega] at h; exact h)⟩
end
end HSP
namespace HSP
open PySem PySem.Spec PyProof.Rows L2
section
variable {P : Program} {w : World} {K : PySem.W.Frag} {mg : Str → Option Value} {base : Heap}
/-! ### _law_grown_tree -/
theorem sc_law_grown_tree : FnScope n_law_grown_tree ["draws", "nodes"] (defScope s_law_grown_tree) := ⟨rfl, rfl, rfl, by decide +kernel, rfl, by decide +kernel, by decide +kernel⟩
def spGrown (n : Nat) : Sp := fun vs H Q _ => ∃ (p : Addr) (m k : Nat), vs = [.ref p, .int (m : Int)] ∧ m < n ∧ DrAt H p k ∧ k + m ≤ 100000 ∧ ∀ (H' : Hp) (v : V) (t : Tr), Keep p H H' → DrAt H' p (k + m) → TrAt H' v t → t.size = m → Q v H'
theorem ok_grown (B : Bl mg) (N : Df P w K mg base "_law_next" 1 ["draws"] spNext) (a : At K mg "_law_grown_tree" s_law_grown_tree) : ∀ n, Df P w K mg base "_law_grown_tree" (n + 1) ["draws", "nodes"] (spGrown n)
  | 0 => Df.none' a (fun vs H Q E h => by obtain ⟨p, m, k, _, h, _⟩ := h; exact absurd h (Nat.not_lt_zero _)) (fun _ _ _ _ _ _ us hl => match us, hl with | [_, _], _ => rfl) 1
  | n + 1 => by
    have D := ok_grown B N a n
    refine Df.mk' a sc_law_grown_tree (fun vs H Q E h => ?_) (fun _ _ _ _ _ _ us hl => match us, hl with | [_, _], _ => rfl) (fun f cdv A outer s H vs Q E hr h => ?_)
    · obtain ⟨p, m, k, rfl, _⟩ := h
      rfl
    obtain ⟨p, m, k, rfl, hm, hd, hk, q⟩ := h
    refine ⟨_, (pss_cons (ps_if (pt_cmpR op_eq (pv 1) pe_int (nomark _)) (pss_one (ps_ret pe_non)) pss_nil)
 (pss_cons (ps_set (i := 2) sc_law_grown_tree.nd rfl (.inl rfl) (pe_df N (hr.mono (by omega)) (pa_cons (pv 0) pa_nil)))
 (pss_cons (ps_set (i := 3) sc_law_grown_tree.nd rfl (.inl rfl) (pe_ix ix_list (pe_lst (pa_cons (pe_op op_fdiv (pv 1) pe_int) (pa_cons (pe_op op_fdiv (pe_op op_sub (pv 1) pe_int) pe_int) (pa_cons (pe_op op_mod (pe_callTy call_int1 (by rfl) B.int (by decide +kernel) (pa_cons (pe_op op_fdiv (pv 2) pe_int) pa_nil)) (pv 1)) (pa_cons (pe_op op_mod (pe_callTy call_int1 (by rfl) B.int (by decide +kernel) (pa_cons (pe_op op_fdiv (pv 2) pe_int) pa_nil)) (pv 1)) pa_nil))))) (pe_op op_mod (pe_callTy call_int1 (by rfl) B.int (by decide +kernel) (pa_cons (pv 2) pa_nil)) pe_int) (fun _ _ => rfl)))
 (pss_one (ps_ret (pe_tup (pa_cons (pe_df D hr (pa_cons (pv 0) (pa_cons (pv 3) pa_nil))) (pa_cons (pe_df D hr (pa_cons (pv 0) (pa_cons (pe_op op_sub (pe_op op_sub (pv 1) pe_int) (pv 3)) pa_nil))) pa_nil)))))))), ?_⟩
    refine ⟨_, rfl, rfl, _, rfl, ?_⟩
    refine ite2 (fun c => ?_) (fun c => ?_)
    · have m0 : (m : Int) = 0 := V.int.inj (of_decide_eq_true c)
      exact q H .non .nil (Keep.refl _ _) (hd.mono (by omega)) .nil (by show 0 = m; omega)
    have m1 : ¬ (m : Int) = 0 := fun z => c (decide_eq_true (congrArg V.int z))
    have mp : (0 : Int) < (m : Int) := by omega
    refine ⟨_, rfl, p, k, rfl, hd, by omega, fun H1 r1 kp1 d1 a1 a2 => ?_⟩
    refine ⟨_, rfl, _, _, rfl, rfl, ⟨by decide, by decide⟩, _, rfl, _, _, rfl, rfl, _, _, rfl, rfl, ⟨by decide, by decide⟩, _, rfl, _, _, rfl, rfl, ⟨by decide, by decide⟩, .inl ⟨_, rfl, _, rfl, _, _, rfl, rfl, mp, _, rfl, _, _, rfl, rfl, ⟨by decide, by decide⟩, .inl ⟨_, rfl, _, rfl, _, _, rfl, rfl, mp, (by show 4 ≤ sizeLine; decide), fun L hL => ?_⟩⟩⟩
    refine ⟨_, rfl, .inl ⟨_, rfl, _, _, rfl, rfl, (by show (0 : Int) < 4; decide), ?_⟩⟩
    obtain ⟨x, hx, j, rfl, hj⟩ := at_any (xs := [V.int ((m : Int) / 2), V.int (((m : Int) - 1) / 2), V.int (r1 / 4 % (m : Int)), V.int (r1 / 4 % (m : Int))]) (C := fun x => ∃ j : Nat, x = V.int (j : Int) ∧ j < m) (fun x hx => by
      have nat : ∀ z : Int, 0 ≤ z → z < (m : Int) → ∃ j : Nat, V.int z = V.int (j : Int) ∧ j < m := fun z z0 z1 => ⟨z.toNat, congrArg V.int (by omega), by omega⟩
      simp only [List.mem_cons, List.not_mem_nil, or_false] at hx
      rcases hx with rfl | rfl | rfl | rfl
      · exact nat _ (by omega) (by omega)
      · exact nat _ (by omega) (by omega)
      · exact nat _ (Int.emod_nonneg _ (by omega)) (Int.emod_lt_of_pos _ mp)
      · exact nat _ (Int.emod_nonneg _ (by omega)) (Int.emod_lt_of_pos _ mp)) (i := r1 % 4) (Int.emod_nonneg _ (by decide)) (Int.emod_lt_of_pos _ (by decide))
    refine ⟨L, _, _, _, rfl, rfl, .of upd_same, hx, ?_⟩
    have d2 := d1.same (Same.new (o := .lst [V.int ((m : Int) / 2), V.int (((m : Int) - 1) / 2), V.int (r1 / 4 % (m : Int)), V.int (r1 / 4 % (m : Int))]) hL)
    have kp2 := kp1.trans (Keep.new (p := p) (o := .lst [V.int ((m : Int) / 2), V.int (((m : Int) - 1) / 2), V.int (r1 / 4 % (m : Int)), V.int (r1 / 4 % (m : Int))]) hL)
    refine ⟨_, rfl, _, rfl, p, j, k + 1, rfl, by omega, d2, by omega, fun H3 v3 t3 kp3 d3 b3 s3 => ?_⟩
    refine ⟨_, rfl, _, rfl, _, _, rfl, rfl, _, rfl, _, _, rfl, rfl, p, m - 1 - j, k + 1 + j, congrArg (fun z => [V.ref p, V.int z]) (by omega : (m : Int) - 1 - (j : Int) = ((m - 1 - j : Nat) : Int)), by omega, d3, by omega, fun H4 v4 t4 kp4 d4 b4 s4 => ?_⟩
    refine ⟨(by show 2 ≤ sizeLine; decide), fun T hT => ?_⟩
    have s5 := Same.new (o := .tup [v3, v4]) hT
    refine q _ (.ref T) (.nod t3 t4) (kp2.trans (kp3.trans (kp4.trans (Keep.new hT)))) ((d4.mono (by omega)).same s5) (.nod upd_same ((d3.tree kp4 b3).same s5) (b4.same s5)) ?_
    show t3.size + 1 + t4.size = m
    omega
end
end HSP
namespace HSP
open PySem PySem.Spec PyProof.Rows L2
/-! ## a tree for a goal -/
def hiT (high : Nat) : Tr := if 0 < high then .nod .nil (halv 8 (high - 1)) else .nil
def passT (low high : Nat) : Tr := if 0 < low then .nod (halv 8 (low - 1)) (hiT high) else hiT high
theorem hiT_size {m : Nat} (h : m ≤ 64) : (hiT m).size = m := by
  unfold hiT
  by_cases c : 0 < m
  · rw [if_pos c]
    show 0 + 1 + (halv 8 (m - 1)).size = m
    rw [halv_size 7 _ (by show m - 1 < 128; omega)]
    omega
  · rw [if_neg c]
    show 0 = m
    omega
theorem passT_size {a b : Nat} (ha : a ≤ 64) (hb : b ≤ 64) : (passT a b).size = a + b := by
  unfold passT
  by_cases c : 0 < a
  · rw [if_pos c]
    show (halv 8 (a - 1)).size + 1 + (hiT b).size = a + b
    rw [halv_size 7 _ (by show a - 1 < 128; omega), hiT_size hb]
    omega
  · rw [if_neg c, hiT_size hb]
    omega
theorem passT_ht (a b : Nat) : (passT a b).ht ≤ 10 := by
  have h1 := halv_ht 8 (a - 1)
  have h2 := halv_ht 8 (b - 1)
  have h3 : (hiT b).ht ≤ 9 := by
    unfold hiT
    split
    · show max 0 (halv 8 (b - 1)).ht + 1 ≤ 9
      omega
    · exact Nat.zero_le _
  unfold passT
  split
  · show max (halv 8 (a - 1)).ht (hiT b).ht + 1 ≤ 10
    omega
  · omega
theorem rep_dead (g : Nat → Int) (v : Int) : ∀ (t : Tr) (f : Nat), repOf g t f (some v) (some v) = List.replicate t.size v
  | .nil, _ => rfl
  | .nod l r, f => by
    have c : ∀ x, clamp (some v) (some v) x = v := fun x => by
      show (if x ≤ v then v else if x ≥ v then v else x) = v
      split
      · rfl
      · split
        · rfl
        · omega
    rw [repOf_nod, c, rep_dead g v l, rep_dead g v r]
    show _ = List.replicate (l.size + 1 + r.size) v
    rw [show v :: List.replicate r.size v = List.replicate (1 + r.size) v by rw [Nat.add_comm]; rfl, List.replicate_append_replicate, Nat.add_assoc]
theorem rep_hi {g : Nat → Int} {f m : Nat} {lo hi : Option Int} {b : Int} (hm : m ≤ 64) (s : Straight lo hi) (h : 0 < m → hi = some b ∧ b ≤ g f) : repOf g (hiT m) f lo hi = List.replicate m b := by
  unfold hiT
  by_cases c : 0 < m
  · obtain ⟨e, h2⟩ := h c
    rw [if_pos c, repOf_nod]
    have ec : clamp lo hi (g (f + Tr.nil.size)) = b := by
      show clamp lo hi (g (f + 0)) = b
      rw [e, Nat.add_zero]
      cases lo with
      | none =>
        show (if g f ≥ b then b else g f) = b
        rw [if_pos h2]
      | some l =>
        have := s l b rfl e
        show (if g f ≤ l then l else if g f ≥ b then b else g f) = b
        by_cases c2 : g f ≤ l
        · rw [if_pos c2]
          omega
        · rw [if_neg c2, if_pos h2]
    rw [ec, e, rep_dead, halv_size 7 _ (by show m - 1 < 128; omega)]
    show b :: List.replicate (m - 1) b = _
    rw [show m = (m - 1) + 1 by omega]
    rfl
  · rw [if_neg c, show m = 0 by omega]
    rfl
theorem rep_pass {g : Nat → Int} {f low high : Nat} {lo hi : Option Int} {a b : Int} (h1 : low ≤ 64) (h2 : high ≤ 64) (s : Straight lo hi) (hl : 0 < low → lo = some a ∧ g (f + low - 1) ≤ a) (hh : 0 < high → hi = some b ∧ b ≤ g (f + low)) :
    repOf g (passT low high) f lo hi = List.replicate low a ++ List.replicate high b := by
  unfold passT
  by_cases c : 0 < low
  · obtain ⟨e, q⟩ := hl c
    have hs : (halv 8 (low - 1)).size = low - 1 := halv_size 7 _ (by show low - 1 < 128; omega)
    rw [if_pos c, repOf_nod, hs]
    have ec : clamp lo hi (g (f + (low - 1))) = a := by
      rw [e, show f + (low - 1) = f + low - 1 by omega]
      cases hi with
      | none =>
        show (if g (f + low - 1) ≤ a then a else g (f + low - 1)) = a
        rw [if_pos q]
      | some d =>
        show (if g (f + low - 1) ≤ a then a else _) = a
        rw [if_pos q]
    rw [ec, e, rep_dead, hs, rep_hi h2 (fun l h x y => by cases x; exact s a h e y) (fun q => by rw [show f + (low - 1) + 1 = f + low by omega]; exact hh q)]
    rw [show a :: List.replicate high b = [a] ++ List.replicate high b from rfl, ← List.append_assoc, show List.replicate (low - 1) a ++ [a] = List.replicate low a by
      rw [show low = (low - 1) + 1 by omega, List.replicate_succ']
      rfl]
  · rw [if_neg c, show low = 0 by omega]
    exact rep_hi h2 s fun q => by
      have := hh q
      rw [show low = 0 by omega] at this
      exact this
/-! ### parts put together -/
def flatRep (g : Nat → Int) : Nat → Option Int → Option Int → List Tr → List Int
  | _, _, _, [] => []
  | f, lo, hi, [t] => repOf g t f lo hi
  | f, lo, hi, t :: u :: r => repOf g t f lo (some (g (f + t.size))) ++ g (f + t.size) :: flatRep g (f + t.size + 1) (some (g (f + t.size))) hi (u :: r)
def IncG (g : Nat → Int) : Nat → Option Int → Option Int → List Tr → Prop
  | _, _, _, [] => True
  | _, _, _, [_] => True
  | f, lo, hi, t :: u :: r => downTo lo (g (f + t.size)) ∧ upTo hi (g (f + t.size)) ∧ IncG g (f + t.size + 1) (some (g (f + t.size))) hi (u :: r)
theorem inc_app {g : Nat → Int} : ∀ (a b : List Tr) (f : Nat) (lo hi : Option Int), a ≠ [] → b ≠ [] → IncG g f lo hi (a ++ b) →
    downTo lo (g (f + wide a)) ∧ upTo hi (g (f + wide a)) ∧ IncG g f lo (some (g (f + wide a))) a ∧ IncG g (f + wide a + 1) (some (g (f + wide a))) hi b
  | [], _, _, _, _, h, _, _ => absurd rfl h
  | [t], [], _, _, _, _, h, _ => absurd rfl h
  | [t], u :: r, f, lo, hi, _, _, h => ⟨h.1, h.2.1, trivial, h.2.2⟩
  | t :: u :: r, b, f, lo, hi, _, hb, h => by
    have h' : downTo lo (g (f + t.size)) ∧ upTo hi (g (f + t.size)) ∧ IncG g (f + t.size + 1) (some (g (f + t.size))) hi ((u :: r) ++ b) := h
    obtain ⟨h1, h2, h3⟩ := h'
    obtain ⟨i1, i2, i3, i4⟩ := inc_app (u :: r) b (f + t.size + 1) (some (g (f + t.size))) hi (List.cons_ne_nil _ _) hb h3
    have e : f + wide (t :: u :: r) = f + t.size + 1 + wide (u :: r) := by
      show f + (t.size + 1 + wide (u :: r)) = _
      omega
    rw [e]
    have le := i1 _ rfl
    exact ⟨fun l q => Int.le_trans (h1 l q) le, i2, ⟨h1, fun x q => by cases q; exact le, i3⟩, i4⟩
theorem flat_app {g : Nat → Int} : ∀ (a b : List Tr) (f : Nat) (lo hi : Option Int), a ≠ [] → b ≠ [] → flatRep g f lo hi (a ++ b) = flatRep g f lo (some (g (f + wide a))) a ++ g (f + wide a) :: flatRep g (f + wide a + 1) (some (g (f + wide a))) hi b
  | [], _, _, _, _, h, _ => absurd rfl h
  | [t], [], _, _, _, _, h => absurd rfl h
  | [t], u :: r, f, lo, hi, _, _ => rfl
  | t :: u :: r, b, f, lo, hi, _, hb => by
    have ih := flat_app (g := g) (u :: r) b (f + t.size + 1) (some (g (f + t.size))) hi (List.cons_ne_nil _ _) hb
    have e : f + wide (t :: u :: r) = f + t.size + 1 + wide (u :: r) := by
      show f + (t.size + 1 + wide (u :: r)) = _
      omega
    show repOf g t f lo (some (g (f + t.size))) ++ g (f + t.size) :: flatRep g (f + t.size + 1) (some (g (f + t.size))) hi ((u :: r) ++ b) = _
    rw [ih, e]
    show _ = (repOf g t f lo (some (g (f + t.size))) ++ g (f + t.size) :: flatRep g (f + t.size + 1) (some (g (f + t.size))) (some (g (f + t.size + 1 + wide (u :: r)))) (u :: r)) ++ _
    rw [List.append_assoc]
    rfl
theorem join_rep {g : Nat → Int} (n : Nat) (ts : List Tr) (h : ts ≠ []) (hl : ts.length ≤ 2 ^ n) (f : Nat) (lo hi : Option Int) (hi' : IncG g f lo hi ts) : repOf g (joinT (n + 1) ts) f lo hi = flatRep g f lo hi ts := by
  have z := join_ind (P := fun _ ts t => t.size = wide ts ∧ ∀ f lo hi, IncG g f lo hi ts → repOf g t f lo hi = flatRep g f lo hi ts) (fun _ t => ⟨rfl, fun f lo hi _ => rfl⟩) (fun k a b s t ha hb ⟨z1, h1⟩ ⟨z2, h2⟩ => by
    refine ⟨by show s.size + 1 + t.size = wide (a ++ b); rw [wide_app a b ha hb, z1, z2], fun f lo hi q => ?_⟩
    obtain ⟨i1, i2, i3, i4⟩ := inc_app a b f lo hi ha hb q
    rw [flat_app a b f lo hi ha hb, repOf_nod, z1, clamp_id i1 i2, h1 f lo _ i3, h2 _ _ hi i4]) n ts h hl
  exact z.2 f lo hi hi'
/-! ### the blocks of a goal -/
def Chain (r : Nat → Int) : Nat → List (Nat × Nat) → Nat → Prop
  | a, [], n => a = n
  | a, (x, y) :: rest, n => x = a ∧ a < y ∧ y ≤ n ∧ (∀ i, a ≤ i → i < y → r i = r a) ∧ (y < n → r y ≠ r (y - 1)) ∧ Chain r y rest n
def isFirst (r : Nat → Int) (i : Nat) : Bool := decide (i = 0) || !decide (r (i - 1) = r i)
def firstsOf (r : Nat → Int) (n : Nat) : List Nat := (List.range n).filter (isFirst r)
def pairsOf (r : Nat → Int) (n : Nat) : List (Nat × Nat) := (firstsOf r n).zip ((firstsOf r n).drop 1 ++ [n])
theorem const_to {r : Nat → Int} {a y : Nat} (h : ∀ i, a < i → i < y → r (i - 1) = r i) : ∀ (k i : Nat), i = a + k → i < y → r i = r a
  | 0, i, e, _ => by rw [e]; rfl
  | k + 1, i, e, hy => by
    have ih := const_to h k (i - 1) (by omega) (by omega)
    rw [← h i (by omega) hy]
    exact ih
theorem chain_of {r : Nat → Int} {n : Nat} : ∀ (l : List Nat) (a : Nat), a < n → (a :: l).Pairwise (· < ·) → (∀ i, i ∈ l → i < n) → (∀ i, a < i → i < n → (r (i - 1) ≠ r i ↔ i ∈ l)) → Chain r a ((a :: l).zip (l ++ [n])) n
  | [], a, ha, _, _, h => by
    refine ⟨rfl, ha, Nat.le_refl _, fun i h1 h2 => const_to (fun i h3 h4 => ?_) (i - a) i (by omega) h2, fun q => absurd q (Nat.lt_irrefl _), rfl⟩
    by_cases e : r (i - 1) = r i
    · exact e
    · exact absurd ((h i h3 h4).mp e) (by simp)
  | b :: l, a, ha, hp, hl, h => by
    obtain ⟨p1, p2⟩ := List.pairwise_cons.mp hp
    obtain ⟨p3, p4⟩ := List.pairwise_cons.mp p2
    have ab := p1 b List.mem_cons_self
    have bn := hl b List.mem_cons_self
    have ih := chain_of l b bn p2 (fun i hi => hl i (List.mem_cons_of_mem _ hi)) fun i h1 h2 => by
      rw [h i (by omega) h2]
      constructor
      · intro q
        rcases List.mem_cons.mp q with q | q
        · omega
        · exact q
      · exact fun q => List.mem_cons_of_mem _ q
    refine ⟨rfl, ab, Nat.le_of_lt bn, fun i h1 h2 => const_to (fun i h3 h4 => ?_) (i - a) i (by omega) h2, fun _ => fun z => ((h b ab bn).mpr List.mem_cons_self) z.symm, ih⟩
    by_cases e : r (i - 1) = r i
    · exact e
    · rcases List.mem_cons.mp ((h i h3 (by omega)).mp e) with q | q
      · omega
      · have := p3 i q
        omega
theorem chain_pairs (r : Nat → Int) (n : Nat) : Chain r 0 (pairsOf r n) n := by
  by_cases c : n = 0
  · rw [c]
    rfl
  have hp : (firstsOf r n).Pairwise (· < ·) := (List.pairwise_lt_range (n := n)).sublist List.filter_sublist
  have h0 : 0 ∈ firstsOf r n := List.mem_filter.mpr ⟨List.mem_range.mpr (by omega), rfl⟩
  unfold pairsOf
  have mem : ∀ i, i ∈ firstsOf r n → i < n := fun i hi => List.mem_range.mp (List.mem_filter.mp hi).1
  have iff : ∀ i, 0 < i → i < n → (r (i - 1) ≠ r i ↔ i ∈ firstsOf r n) := fun i h1 h2 => by
    unfold firstsOf
    rw [List.mem_filter, List.mem_range]
    unfold isFirst
    rw [decide_eq_false (show ¬ i = 0 by omega), Bool.false_or]
    simp [h2]
  cases e : firstsOf r n with
  | nil =>
    rw [e] at h0
    cases h0
  | cons x l =>
    rw [e] at hp h0 mem iff
    have x0 : x = 0 := by
      rcases List.mem_cons.mp h0 with q | q
      · exact q.symm
      · have := (List.pairwise_cons.mp hp).1 0 q
        omega
    rw [x0] at hp mem iff ⊢
    refine chain_of l 0 (by omega) hp (fun i hi => mem i (List.mem_cons_of_mem _ hi)) fun i h1 h2 => ?_
    rw [iff i h1 h2]
    constructor
    · intro q
      rcases List.mem_cons.mp q with q | q
      · omega
      · exact q
    · exact fun q => List.mem_cons_of_mem _ q
/-! ### the tree -/
def findIn (g r : Nat → Int) (a b : Nat) : Option Nat := if g a < r a ∨ g (b - 1) > r a then none else (List.range (b - a)).find? fun k => decide (g (a + k) = r a)
def partsFrom (g r : Nat → Int) : List (Nat × Nat) → Nat → Option (List Tr)
  | [], low => some [passT low 0]
  | (a, b) :: rest, low => match findIn g r a b with
    | none => none
    | some p => (partsFrom g r rest (b - a - p - 1)).map (passT low p :: ·)
theorem find_in {g r : Nat → Int} {a b p : Nat} (h : findIn g r a b = some p) : r a ≤ g a ∧ g (b - 1) ≤ r a ∧ p < b - a ∧ g (a + p) = r a := by
  unfold findIn at h
  by_cases c : g a < r a ∨ g (b - 1) > r a
  · rw [if_pos c] at h
    cases h
  · rw [if_neg c] at h
    obtain ⟨h1, h2, _⟩ := List.find?_range_eq_some.mp h
    exact ⟨by omega, by omega, List.mem_range.mp h2, of_decide_eq_true h1⟩
theorem parts_ne {g r : Nat → Int} : ∀ {ps : List (Nat × Nat)} {low : Nat} {ts : List Tr}, partsFrom g r ps low = some ts → ts ≠ []
  | [], low, ts, h => by
    cases h
    exact List.cons_ne_nil _ _
  | (a, b) :: rest, low, ts, h => by
    have h' : (match findIn g r a b with | none => none | some p => (partsFrom g r rest (b - a - p - 1)).map (passT low p :: ·)) = some ts := h
    cases e : findIn g r a b with
    | none => rw [e] at h'; cases h'
    | some p =>
      rw [e] at h'
      obtain ⟨ts', _, rfl⟩ := Option.map_eq_some_iff.mp h'
      exact List.cons_ne_nil _ _
theorem parts_rep {g r : Nat → Int} {n : Nat} (hn : n ≤ 64) (up : ∀ i, i + 1 < n → r i ≤ r (i + 1)) : ∀ (ps : List (Nat × Nat)) (a low : Nat) (lo : Option Int) (v : Int) (ts : List Tr), Chain r a ps n → partsFrom g r ps low = some ts → low ≤ a →
    (a < n → downTo lo (r a)) → (0 < low → lo = some v ∧ g (a - 1) ≤ v) → IncG g (a - low) lo none ts ∧ flatRep g (a - low) lo none ts = List.replicate low v ++ (List.range (n - a)).map (fun i => r (a + i)) ∧ a - low + wide ts = n ∧ ts.length ≤ n - a + 1 ∧ ∀ t, t ∈ ts → t.ht ≤ 10
  | [], a, low, lo, v, ts, hc, h, hla, _, hl => by
    cases h
    have e : a = n := hc
    refine ⟨trivial, ?_, ?_, Nat.le_add_left _ _, fun t ht => by rw [List.mem_singleton.mp ht]; exact passT_ht low 0⟩
    · show repOf g (passT low 0) (a - low) lo none = _
      rw [rep_pass (a := v) (b := 0) (by omega) (Nat.zero_le _) (fun l h _ q => by cases q) (fun q => by rw [show a - low + low - 1 = a - 1 by omega]; exact hl q) (fun q => absurd q (Nat.lt_irrefl 0)), show n - a = 0 by omega]
      rfl
    · show a - low + (passT low 0).size = n
      rw [passT_size (by omega) (Nat.zero_le _)]
      omega
  | (x, y) :: rest, a, low, lo, v, ts, hc, h, hla, hd, hl => by
    obtain ⟨rfl, c1, c2, c3, c4, c5⟩ := hc
    have h' : (match findIn g r x y with | none => none | some p => (partsFrom g r rest (y - x - p - 1)).map (passT low p :: ·)) = some ts := h
    cases e : findIn g r x y with
    | none => rw [e] at h'; cases h'
    | some p =>
      rw [e] at h'
      obtain ⟨ts', ht', rfl⟩ := Option.map_eq_some_iff.mp h'
      obtain ⟨f1, f2, f3, f4⟩ := find_in e
      have last : r (y - 1) = r x := c3 (y - 1) (by omega) (by omega)
      obtain ⟨i1, i2, i3, i4, i5⟩ := parts_rep hn up rest y (y - x - p - 1) (some (r x)) (r x) ts' c5 ht' (by omega) (fun q l z => by
        cases z
        have := up (y - 1) (by omega)
        rw [last, show y - 1 + 1 = y by omega] at this
        exact this) (fun _ => ⟨rfl, f2⟩)
      have ne := parts_ne ht'
      have ea : y - (y - x - p - 1) = x + p + 1 := by omega
      rw [ea] at i1 i2 i3
      have sz : (passT low p).size = low + p := passT_size (by omega) (by omega)
      have es : x - low + (passT low p).size = x + p := by
        rw [sz]
        omega
      cases ts' with
      | nil => exact absurd rfl ne
      | cons u w =>
        refine ⟨?_, ?_, ?_, ?_, fun t ht => ?_⟩
        · show downTo lo (g (x - low + (passT low p).size)) ∧ upTo none (g (x - low + (passT low p).size)) ∧ IncG g (x - low + (passT low p).size + 1) (some (g (x - low + (passT low p).size))) none (u :: w)
          rw [es, f4]
          exact ⟨hd (by omega), fun l z => (by cases z), i1⟩
        · show repOf g (passT low p) (x - low) lo (some (g (x - low + (passT low p).size))) ++ g (x - low + (passT low p).size) :: flatRep g (x - low + (passT low p).size + 1) (some (g (x - low + (passT low p).size))) none (u :: w) = _
          rw [es, f4, i2, rep_pass (a := v) (b := r x) (by omega) (by omega) (fun l h z1 z2 => by cases z2; exact hd (by omega) l z1) (fun q => by rw [show x - low + low - 1 = x - 1 by omega]; exact hl q) (fun _ => ⟨rfl, by rw [show x - low + low = x by omega]; exact f1⟩)]
          rw [List.append_assoc]
          congr 1
          have split : (List.range (n - x)).map (fun i => r (x + i)) = List.replicate (y - x) (r x) ++ (List.range (n - y)).map (fun i => r (y + i)) := by
            rw [show n - x = (y - x) + (n - y) by omega, List.range_add, List.map_append, List.map_map]
            congr 1
            · refine List.ext_getElem (by simp) fun i q1 q2 => ?_
              rw [List.length_map, List.length_range] at q1
              rw [List.getElem_map, List.getElem_range, List.getElem_replicate]
              exact c3 (x + i) (by omega) (by omega)
            · exact List.map_congr_left fun i _ => congrArg r (by show x + (y - x + i) = y + i; omega)
          rw [split, show y - x = p + (1 + (y - x - p - 1)) by omega, ← List.replicate_append_replicate, ← List.replicate_append_replicate, show p + (1 + (y - x - p - 1)) - p - 1 = y - x - p - 1 by omega, List.append_assoc, List.append_assoc]
          rfl
        · show x - low + ((passT low p).size + 1 + wide (u :: w)) = n
          omega
        · rw [List.length_cons]
          omega
        · rcases List.mem_cons.mp ht with q | q
          · rw [q]
            exact passT_ht low p
          · exact i5 t q
def treeFor (g r : Nat → Int) (n : Nat) : Option Tr := (partsFrom g r (pairsOf r n) 0).map (joinT 8)
theorem tree_for {g r : Nat → Int} {n : Nat} {t : Tr} (hn : n ≤ 64) (up : ∀ i, i + 1 < n → r i ≤ r (i + 1)) (h : treeFor g r n = some t) : repOf g t 0 none none = (List.range n).map r ∧ t.size = n ∧ t.ht ≤ 17 := by
  obtain ⟨ts, ht, rfl⟩ := Option.map_eq_some_iff.mp h
  obtain ⟨i1, i2, i3, i4, i5⟩ := parts_rep hn up (pairsOf r n) 0 0 none 0 ts (chain_pairs r n) ht (Nat.le_refl _) (fun _ l z => by cases z) (fun q => absurd q (Nat.lt_irrefl 0))
  have ne := parts_ne ht
  have few : ts.length ≤ 2 ^ 7 := by
    show ts.length ≤ 128
    omega
  rw [Nat.sub_zero] at i1 i2 i3 i4
  refine ⟨?_, ?_, ?_⟩
  · rw [join_rep 7 ts ne few 0 none none i1, i2]
    show [] ++ _ = _
    rw [List.nil_append]
    exact List.map_congr_left fun i _ => congrArg r (Nat.zero_add i)
  · rw [join_size 7 ts ne few]
    omega
  · exact join_ht 10 7 ts ne few i5
/-- where the three looks at each block succeed, there is one -/
theorem parts_some {g r : Nat → Int} {n : Nat} (ok : GoalOk g r n) : ∀ (ps : List (Nat × Nat)) (a low : Nat), Chain r a ps n → (a = 0 ∨ a = n ∨ r (a - 1) ≠ r a) → partsFrom g r ps low ≠ none
  | [], a, low, _, _ => fun z => by cases z
  | (x, y) :: rest, a, low, hc, hs => by
    obtain ⟨rfl, c1, c2, c3, c4, c5⟩ := hc
    have xn : x < n := by omega
    have mono : ∀ (k i : Nat), i + k < n → r i ≤ r (i + k) := fun k => by
      induction k with
      | zero => intro i _; exact Int.le_refl _
      | succ k ih =>
        intro i h
        exact Int.le_trans (ih i (by omega)) (ok.up (i + k) h)
    have st : r x ≤ g x := ok.st x xn (by
      rcases hs with q | q | q
      · exact .inl q
      · omega
      · exact .inr q)
    have last : r (y - 1) = r x := c3 (y - 1) (by omega) (by omega)
    have en : g (y - 1) ≤ r x := by
      rw [← last]
      refine ok.en (y - 1) (by omega) ?_
      by_cases q : y < n
      · refine .inr ?_
        rw [show y - 1 + 1 = y by omega]
        exact c4 q
      · exact .inl (by omega)
    obtain ⟨j, j1, j2, j3⟩ := ok.ex x xn
    have hj : x ≤ j ∧ j < y := by
      constructor
      · by_cases q : x ≤ j
        · exact q
        · have h1 := mono (x - 1 - j) j (by omega)
          rw [show j + (x - 1 - j) = x - 1 by omega] at h1
          have h2 := mono 1 (x - 1) (by omega)
          rw [show x - 1 + 1 = x by omega] at h2
          rcases hs with z | z | z
          · omega
          · omega
          · exact absurd (by omega) z
      · by_cases q : j < y
        · exact q
        · have h1 := mono (j - y) y (by omega)
          rw [show y + (j - y) = j by omega] at h1
          have h2 := mono 1 (y - 1) (by omega)
          rw [show y - 1 + 1 = y by omega] at h2
          exact absurd (by omega) (c4 (by omega))
    have e : findIn g r x y ≠ none := by
      unfold findIn
      rw [if_neg (by omega)]
      intro z
      have := List.find?_range_eq_none.mp z (j - x) (by omega)
      rw [show x + (j - x) = j by omega, decide_eq_true j3] at this
      cases this
    intro z
    have z' : (match findIn g r x y with | none => none | some p => (partsFrom g r rest (y - x - p - 1)).map (passT low p :: ·)) = none := z
    cases e2 : findIn g r x y with
    | none => exact e e2
    | some p =>
      rw [e2] at z'
      exact parts_some ok rest y (y - x - p - 1) c5 (by
        by_cases q : y < n
        · exact .inr (.inr (Ne.symm (c4 q)))
        · exact .inr (.inl (by omega))) (Option.map_eq_none_iff.mp z')
theorem tree_some {g r : Nat → Int} {n : Nat} (ok : GoalOk g r n) : treeFor g r n ≠ none := fun z =>
  parts_some ok (pairsOf r n) 0 0 (chain_pairs r n) (.inl rfl) (Option.map_eq_none_iff.mp z)
end HSP
namespace HSP
open PySem PySem.Spec PyProof.Rows L2
/-! ## the representative, cut from the root down -/
def capHi (c : Int) : Option Int → Int
  | none => c
  | some h => if h < c then h else c
def minI (v c : Int) : Int := if c < v then c else v
def maxI (v c : Int) : Int := if c > v then c else v
def capLo (c : Int) : Option Int → Int
  | none => c
  | some l => if l > c then l else c
theorem clamp_cap {lo hi : Option Int} {c v : Int} (s : Straight lo hi) : clamp (lo.map fun l => minI l c) (some (capHi c hi)) v = minI (clamp lo hi v) c := by
  cases lo with
  | none => cases hi with
    | none =>
      show (if v ≥ c then c else v) = if c < v then c else v
      split <;> split <;> omega
    | some h =>
      show (if v ≥ (if h < c then h else c) then (if h < c then h else c) else v) = if c < (if v ≥ h then h else v) then c else if v ≥ h then h else v
      repeat' split
      all_goals omega
  | some l => cases hi with
    | none =>
      show (if v ≤ (if c < l then c else l) then (if c < l then c else l) else if v ≥ c then c else v) = if c < (if v ≤ l then l else v) then c else if v ≤ l then l else v
      repeat' split
      all_goals omega
    | some h =>
      have := s l h rfl rfl
      show (if v ≤ (if c < l then c else l) then (if c < l then c else l) else if v ≥ (if h < c then h else c) then (if h < c then h else c) else v) = if c < (if v ≤ l then l else if v ≥ h then h else v) then c else if v ≤ l then l else if v ≥ h then h else v
      repeat' split
      all_goals omega
theorem rep_cap {g : Nat → Int} {c : Int} : ∀ (t : Tr) (f : Nat) (lo hi : Option Int), Straight lo hi → repOf g t f (lo.map fun l => minI l c) (some (capHi c hi)) = (repOf g t f lo hi).map fun v => minI v c
  | .nil, _, _, _, _ => rfl
  | .nod l r, f, lo, hi, s => by
    obtain ⟨s1, s2⟩ := clamp_in s (g (f + l.size))
    have h1 := rep_cap (g := g) (c := c) l f lo (some (clamp lo hi (g (f + l.size)))) s1
    have h2 := rep_cap (g := g) (c := c) r (f + l.size + 1) (some (clamp lo hi (g (f + l.size)))) hi s2
    rw [repOf_nod, repOf_nod, clamp_cap s, List.map_append, List.map_cons]
    have e1 : capHi c (some (clamp lo hi (g (f + l.size)))) = minI (clamp lo hi (g (f + l.size))) c := by
      show (if clamp lo hi (g (f + l.size)) < c then clamp lo hi (g (f + l.size)) else c) = if c < clamp lo hi (g (f + l.size)) then c else clamp lo hi (g (f + l.size))
      repeat' split
      all_goals omega
    rw [e1] at h1
    rw [h1]
    exact congrArg (fun z => _ ++ _ :: z) h2
theorem clamp_floor {lo hi : Option Int} {c v : Int} (s : Straight lo hi) : clamp (some (capLo c lo)) (hi.map fun h => maxI h c) v = maxI (clamp lo hi v) c := by
  cases lo with
  | none => cases hi with
    | none =>
      show (if v ≤ c then c else v) = if c > v then c else v
      split <;> split <;> omega
    | some h =>
      show (if v ≤ c then c else if v ≥ (if c > h then c else h) then (if c > h then c else h) else v) = if c > (if v ≥ h then h else v) then c else if v ≥ h then h else v
      repeat' split
      all_goals omega
  | some l => cases hi with
    | none =>
      show (if v ≤ (if l > c then l else c) then (if l > c then l else c) else v) = if c > (if v ≤ l then l else v) then c else if v ≤ l then l else v
      repeat' split
      all_goals omega
    | some h =>
      have := s l h rfl rfl
      show (if v ≤ (if l > c then l else c) then (if l > c then l else c) else if v ≥ (if c > h then c else h) then (if c > h then c else h) else v) = if c > (if v ≤ l then l else if v ≥ h then h else v) then c else if v ≤ l then l else if v ≥ h then h else v
      repeat' split
      all_goals omega
theorem rep_floor {g : Nat → Int} {c : Int} : ∀ (t : Tr) (f : Nat) (lo hi : Option Int), Straight lo hi → repOf g t f (some (capLo c lo)) (hi.map fun h => maxI h c) = (repOf g t f lo hi).map fun v => maxI v c
  | .nil, _, _, _, _ => rfl
  | .nod l r, f, lo, hi, s => by
    obtain ⟨s1, s2⟩ := clamp_in s (g (f + l.size))
    have h1 := rep_floor (g := g) (c := c) l f lo (some (clamp lo hi (g (f + l.size)))) s1
    have h2 := rep_floor (g := g) (c := c) r (f + l.size + 1) (some (clamp lo hi (g (f + l.size)))) hi s2
    rw [repOf_nod, repOf_nod, clamp_floor s, List.map_append, List.map_cons]
    have e1 : capLo c (some (clamp lo hi (g (f + l.size)))) = maxI (clamp lo hi (g (f + l.size))) c := by
      show (if clamp lo hi (g (f + l.size)) > c then clamp lo hi (g (f + l.size)) else c) = if c > clamp lo hi (g (f + l.size)) then c else clamp lo hi (g (f + l.size))
      repeat' split
      all_goals omega
    rw [e1] at h2
    rw [h2]
    exact congrArg (fun z => z ++ _) h1
theorem rep_congr {g g' : Nat → Int} : ∀ (t : Tr) (f f' : Nat) (lo hi : Option Int), (∀ i, i < t.size → g (f + i) = g' (f' + i)) → repOf g t f lo hi = repOf g' t f' lo hi
  | .nil, _, _, _, _, _ => rfl
  | .nod l r, f, f', lo, hi, h => by
    have z : (Tr.nod l r).size = l.size + 1 + r.size := rfl
    rw [z] at h
    rw [repOf_nod, repOf_nod, h l.size (by omega), rep_congr l f f' lo _ (fun i hi => h i (by omega)), rep_congr r (f + l.size + 1) (f' + l.size + 1) _ hi (fun i hi => by
      have := h (l.size + 1 + i) (by omega)
      rw [show f + (l.size + 1 + i) = f + l.size + 1 + i by omega, show f' + (l.size + 1 + i) = f' + l.size + 1 + i by omega] at this
      exact this)]
/-- the cut of a tree and a list -/
def cutT (t : Tr) (ns : List Int) : List Int := repOf (valAt ns) t 0 none none
theorem cut_len (t : Tr) (ns : List Int) : (cutT t ns).length = t.size := repOf_len _ _ _ _ _
theorem cut_nod {l r : Tr} {ns : List Int} (h : ns.length = l.size + 1 + r.size) :
    cutT (.nod l r) ns = ((cutT l (ns.take l.size)).map fun v => minI v (valAt ns l.size)) ++ valAt ns l.size :: (cutT r (ns.drop (l.size + 1))).map fun v => maxI v (valAt ns l.size) := by
  unfold cutT
  rw [repOf_nod, Nat.zero_add]
  have ec : clamp none none (valAt ns l.size) = valAt ns l.size := rfl
  rw [ec]
  have h1 := rep_cap (g := valAt ns) (c := valAt ns l.size) l 0 none none straight_none
  have h2 := rep_floor (g := valAt ns) (c := valAt ns l.size) r (l.size + 1) none none straight_none
  have h1 : repOf (valAt ns) l 0 none (some (valAt ns l.size)) = (repOf (valAt ns) l 0 none none).map fun v => minI v (valAt ns l.size) := h1
  have h2 : repOf (valAt ns) r (l.size + 1) (some (valAt ns l.size)) none = (repOf (valAt ns) r (l.size + 1) none none).map fun v => maxI v (valAt ns l.size) := h2
  rw [h1, h2, rep_congr (g := valAt ns) (g' := valAt (ns.take l.size)) l 0 0 none none (fun i hi => by
    unfold valAt
    rw [List.getD_eq_getElem?_getD, List.getD_eq_getElem?_getD, List.getElem?_take, if_pos (by omega)]), rep_congr (g := valAt ns) (g' := valAt (ns.drop (l.size + 1))) r (l.size + 1) 0 none none (fun i hi => by
    unfold valAt
    rw [List.getD_eq_getElem?_getD, List.getD_eq_getElem?_getD, List.getElem?_drop, Nat.zero_add])]
/-! ### equal lists of numbers -/
theorem ints_eqv : ∀ a b : List Int, PyData.eqv (intsD a) (intsD b) = decide (a = b) := by
  have key : ∀ a b : List Int, PyData.eqvAll (a.map PyData.int) (b.map PyData.int) = decide (a = b) := fun a => by
    induction a with
    | nil =>
      intro b
      cases b with
      | nil => simp [PyData.eqvAll]
      | cons => simp [PyData.eqvAll]
    | cons x r ih =>
      intro b
      cases b with
      | nil => simp [PyData.eqvAll]
      | cons y s =>
        have := ih s
        simp only [List.map_cons, PyData.eqvAll, PyData.eqv, this]
        by_cases c : x = y
        · by_cases d : r = s
          · rw [c, d]
            simp
          · rw [decide_eq_false d, Bool.and_false, decide_eq_false (fun z => d (List.cons.inj z).2)]
        · rw [decide_eq_false (fun z => c (List.cons.inj z).1)]
          have : (x == y) = false := beq_eq_false_iff_ne.mpr c
          rw [this, Bool.false_and]
  intro a b
  unfold intsD
  simp only [PyData.eqv]
  exact key a b
theorem ints_any (x : List Int) : ∀ E : List (List Int), ((E.map intsD).any fun z => PyData.eqv z (intsD x)) = decide (x ∈ E)
  | [] => rfl
  | e :: E => by
    rw [List.map_cons, List.any_cons, ints_eqv, ints_any x E]
    by_cases c : e = x
    · rw [decide_eq_true c, Bool.true_or, decide_eq_true (List.mem_cons.mpr (.inl c.symm))]
    · rw [decide_eq_false c, Bool.false_or]
      by_cases d : x ∈ E
      · rw [decide_eq_true d, decide_eq_true (List.mem_cons_of_mem _ d)]
      · rw [decide_eq_false d, decide_eq_false (fun z => (List.mem_cons.mp z).elim (fun q => c q.symm) d)]
def listsD (E : List (List Int)) : PyData := .list (E.map intsD)
theorem lists_can : ∀ E : List (List Int), PyData.canLayAll0 (E.map intsD) = true
  | [] => by simp [PyData.canLayAll0]
  | e :: E => by
    have ih := lists_can E
    have h1 : PyData.canLay0 (intsD e) = true := by
      unfold intsD
      simp only [PyData.canLay0]
      exact ints_can e
    simp only [List.map_cons, PyData.canLayAll0, h1, ih, Bool.and_self]
theorem lists_deep : ∀ E : List (List Int), PyData.depthAll (E.map intsD) ≤ 3
  | [] => by simp [PyData.depthAll]
  | e :: E => by
    have ih := lists_deep E
    have h1 := ints_deep e
    have h2 : (intsD e).depth ≤ 2 := by
      unfold intsD
      simp only [PyData.depth]
      omega
    simp only [List.map_cons, PyData.depthAll]
    omega
theorem lists_shaped (E : List (List Int)) : SeqAt.shaped (listsD E) = true := by
  unfold SeqAt.shaped
  rw [Bool.and_eq_true]
  have h1 := lists_deep E
  refine ⟨?_, decide_eq_true ?_⟩
  · unfold listsD
    simp only [PyData.canLay0]
    exact lists_can E
  · unfold listsD
    simp only [PyData.depth]
    omega
theorem lists_dp {K : PySem.W.Frag} {H : Hp} {as : List Addr} {E : List (List Int)} (p : Paired (fun a (l : List Int) => H a = some (.lst (l.map V.int))) as E) : DpAll K H (as.map V.ref) (E.map intsD) := by
  induction p with
  | nil => exact .nil
  | cons e _ ih => exact .cons (.lst (.of e) (ints_dpAll _)) ih
end HSP
namespace HSP
open PySem PySem.Spec PyProof.Rows L2
/-- the numbers that the law asks for -/
def asked : List Int := (List.range 31).map fun (i : Nat) => -11 + (i : Int)
def edge15 : List Int := (List.range 15).map fun (i : Nat) => -5 + (i : Int)
theorem asked_edge : ∀ e, e ∈ edge15 → 2 * e ∈ asked ∧ 2 * e + 1 ∈ asked := by decide +kernel
def sameEnds (ns : List Int) (t : Tr) (s : List Int) : Bool := decide (endsL (valAt s) t asked = endsL (valAt ns) t asked)
theorem cnt_max (least most : Int) (p : Option Int × Option Int) : cntOf least most p ≤ 0 ∨ cntOf least most p ≤ most - least + 1 := by
  have h1 : toOf most p.2 ≤ most := by
    unfold toOf
    split
    · exact Int.le_refl _
    · split <;> omega
  have h2 : least ≤ fromOf least p.1 := by
    unfold fromOf
    split
    · exact Int.le_refl _
    · split <;> omega
  unfold cntOf
  split
  · exact .inr (by omega)
  · exact .inl (Int.le_refl _)
theorem edge_in {z : Int} (h1 : -5 ≤ z) (h2 : z ≤ 9) : z ∈ edge15 := by
  refine List.mem_map.mpr ⟨(z + 5).toNat, List.mem_range.mpr (by omega), by omega⟩
section
variable {P : Program} {w : World} {K : PySem.W.Frag} {mg : Str → Option Value} {base : Heap}
/-! ### _law_ends -/
theorem sc_law_ends : FnScope n_law_ends ["a_tree", "a_values"] (defScope s_law_ends) := ⟨rfl, rfl, rfl, by decide +kernel, rfl, by decide +kernel, by decide +kernel⟩
def spEnds31 (n : Nat) : Sp := fun vs H Q _ => ∃ (v : V) (t : Tr) (a : Addr) (ns : List Int), vs = [v, .ref a] ∧ TrAt H v t ∧ t.ht < n ∧ H a = some (.lst (ns.map V.int)) ∧ ns.length = t.size ∧
  ∀ (H' : Hp) (q : Addr), Same H H' → H q = none → TableAt H' q (endsL (valAt ns) t asked) → Q (.ref q) H'
theorem ok_ends31 {n m : Nat} (B : Bl mg) (En : Df P w K mg base "_law_ended" m p_law_ended (spEnded n)) (a : At K mg "_law_ends" s_law_ends) : Df P w K mg base "_law_ends" (m + 1) ["a_tree", "a_values"] (spEnds31 n) := by
  refine Df.mk' a sc_law_ends (fun vs H Q E h => ?_) (fun _ _ _ _ _ _ us hl => match us, hl with | [_, _], _ => rfl) (fun f cdv A outer s H vs Q E hr h => ?_)
  · obtain ⟨_, _, _, _, rfl, _⟩ := h
    rfl
  obtain ⟨v, t, a, ns, rfl, ht, hh, ea, hn, q⟩ := h
  refine ⟨_, (pss_one (ps_ret (pe_lc (own := [("twice", 2)]) (g := (gName 2)) (tt := tYes) (by rfl) sc_law_ends.nd (pi_range2 (by rfl) B.range (pa_cons (pe_un un_neg pe_int) (pa_cons pe_int pa_nil))) (blkOk_by (N := n_law_ends) (sc := defScope s_law_ends) (by decide +kernel)) (fun _ _ _ _ _ => (pg_name (i := 2) sc_law_ends.nd rfl (.inl rfl))) (fun _ _ _ _ _ => pts_nil) (fun _ _ _ _ _ => (pe_df En hr (pa_cons (pv 0) (pa_cons (pv 1) (pa_cons (pv 2) pa_nil)))))))), ?_⟩
  refine ⟨11, rfl, -11, 20, rfl, ⟨by decide, by decide, by decide, by decide⟩, fun D hD => ?_⟩
  refine lc_range (lo := -11) (n := 31) (fun i H' => ∃ rows : List Addr, Same H H' ∧ H' D = some (.lst (rows.map V.ref)) ∧ Paired (fun r xs => H' r = some (.tup xs)) rows (endsL (valAt ns) t (asked.take i))) ⟨[], Same.new hD, upd_same, .nil⟩ (fun i H3 hi h3 => ?_) (fun H3 h3 => ?_)
  · obtain ⟨rows, s3, e3, p3⟩ := h3
    have lp := Paired.length p3
    unfold endsL at lp
    rw [List.length_map, List.length_take] at lp
    have htw : asked[i]? = some (-11 + (i : Int)) := by
      unfold asked
      rw [List.getElem?_map, List.getElem?_range hi]
      rfl
    refine ⟨rfl, ?_⟩
    refine ⟨_, rfl, _, rfl, _, rfl, v, t, a, ns, -11 + (i : Int), rfl, ht.same s3, hh, s3 _ _ ea, hn, fun H4 e s4 n4 e4 => ?_⟩
    have eD4 := s4 _ _ e3
    have nDe : D ≠ e := ne_of_none e3 n4
    refine ⟨_, eD4, ?_, rows ++ [e], fun b o eb => ?_, ?_, ?_⟩
    · rw [List.length_map]
      exact small1000 (by omega)
    · rw [upd_ne (ne_of_none eb hD)]
      exact s4 _ _ (s3 _ _ eb)
    · rw [upd_same, List.map_append]
      rfl
    · unfold endsL
      rw [List.take_add_one, htw, List.map_append]
      refine Paired.app (Paired.mapP p3 fun r xs h => ?_) (.cons ?_ .nil)
      · rw [upd_ne (tup_ne h e3)]
        exact s4 _ _ h
      · rw [upd_ne nDe.symm]
        exact e4
  · obtain ⟨rows, s3, e3, p3⟩ := h3
    exact q _ D s3 hD ⟨rows, e3, p3⟩
/-! ### _law_small_right -/
theorem sc_law_small_right : FnScope n_law_small_right ["draws"] (defScope s_law_small_right) := ⟨rfl, rfl, rfl, by decide +kernel, rfl, by decide +kernel, by decide +kernel⟩
theorem ok_small (B : Bl mg) (N : Df P w K mg base "_law_next" 1 ["draws"] spNext) (Gt : Df P w K mg base "_law_grown_tree" 14 ["draws", "nodes"] (spGrown 13)) (Ls : Df P w K mg base "_law_lists" 1 ["nodes", "a_least", "a_most"] spLists) (En : Df P w K mg base "_law_ends" 15 ["a_tree", "a_values"] (spEnds31 13))
    (Ca : Df P w K mg base "count_alike" 5 ["tree", "values", "least", "most"] spCountAlike) (Cn : CaN P w K mg base) (a : At K mg "_law_small_right" s_law_small_right) : DfG P w K mg base "_law_small_right" 16 ["draws"] spRight := by
  refine DfG.mk' a sc_law_small_right (fun vs H Q E h => ?_) (fun _ _ _ _ _ _ us hl => match us, hl with | [_], _ => rfl) (fun f cdv A outer s H vs Q E hg hr h => ?_)
  · obtain ⟨p, k, rfl, _⟩ := h
    rfl
  obtain ⟨p, k, rfl, hd, hk, q⟩ := h
  refine ⟨_, (pss_cons (ps_set (i := 1) sc_law_small_right.nd rfl (.inl rfl) (pe_op op_mod (pe_callTy call_int1 (by rfl) B.int (by decide +kernel) (pa_cons (pe_df N (hr.mono (by decide)) (pa_cons (pv 0) pa_nil)) pa_nil)) pe_int))
 (pss_cons (ps_set (i := 2) sc_law_small_right.nd rfl (.inr rfl) (pe_df Gt (hr.mono (by decide)) (pa_cons (pv 0) (pa_cons (pv 1) pa_nil))))
 (pss_cons (ps_setLc (i := 3) (own := [("k", 8)]) (g := (gName 8)) (tt := tYes) (by rfl) sc_law_small_right.nd rfl rfl (sw_true rfl rfl rfl (by decide +kernel)) (pi_range1 (by rfl) B.range (pa_cons (pv 1) pa_nil)) (blkOk_by (N := n_law_small_right) (sc := defScope s_law_small_right) (by decide +kernel)) (fun _ _ _ _ _ => (pg_name (i := 8) sc_law_small_right.nd rfl (.inl rfl))) (fun _ _ _ _ _ => pts_nil) (fun _ _ _ _ _ => (pe_op op_mod (pe_callTy call_int1 (by rfl) B.int (by decide +kernel) (pa_cons (pe_df N (hr.mono (by decide)) (pa_cons (pv 0) pa_nil)) pa_nil)) pe_int)))
 (pss_cons (ps_set (i := 4) sc_law_small_right.nd rfl (.inl rfl) (pe_op op_sub (pe_op op_mod (pe_callTy call_int1 (by rfl) B.int (by decide +kernel) (pa_cons (pe_df N (hr.mono (by decide)) (pa_cons (pv 0) pa_nil)) pa_nil)) pe_int) pe_int))
 (pss_cons (ps_set (i := 5) sc_law_small_right.nd rfl (.inl rfl) (pe_op op_sub (pe_op op_add (pv 4) (pe_op op_mod (pe_callTy call_int1 (by rfl) B.int (by decide +kernel) (pa_cons (pe_df N (hr.mono (by decide)) (pa_cons (pv 0) pa_nil)) pa_nil)) pe_int)) pe_int))
 (pss_cons (ps_set (i := 6) sc_law_small_right.nd rfl (.inr rfl) (pe_df En hr (pa_cons (pv 2) (pa_cons (pv 3) pa_nil))))
 (pss_cons (ps_set (i := 7) sc_law_small_right.nd rfl (.inl rfl) (pe_callB call_len_seq (by rfl) B.len PySem.boot_len (pa_cons (pe_lc (own := [("some", 9)]) (g := (gName 9)) (by rfl) sc_law_small_right.nd (pi_list (pe_df Ls (hr.mono (by decide)) (pa_cons (pv 1) (pa_cons (pv 4) (pa_cons (pv 5) pa_nil))))) (blkOk_by (N := n_law_small_right) (sc := defScope s_law_small_right) (by decide +kernel)) (fun _ _ _ _ _ => (pg_name (i := 9) sc_law_small_right.nd rfl (.inl rfl))) (fun _ _ _ _ _ => (pts_one (pt_cmpR (show OpR _ (compareOp .Eq) (rEqD K) from op_eqD hr.units) (pe_df En hr (pa_cons (pv 2) (pa_cons (pv 9) pa_nil))) (pv 6) (nomark _)))) (fun _ _ _ _ _ => (pv 9))) pa_nil)))
 (pss_cons (ps_if (pt_cmpR op_ne (pe_df Ca (hr.mono (by decide)) (pa_cons (pv 2) (pa_cons (pv 3) (pa_cons (pv 4) (pa_cons (pv 5) pa_nil))))) (pv 7) (nomark _)) (pss_one (ps_ret pe_bl)) pss_nil)
 (pss_one (ps_ret (pe_cmpR op_eq (pe_caN Cn (hr.mono (by decide)) (pk_cons (pv 4) (pk_cons (pv 5) (pk_cons (pv 3) (pk_cons (pv 2) pk_nil))))) (pv 7) (nomark _)))))))))))), ?_⟩
  have zero : 0 ≤ sizeLine := by show 0 ≤ sizeLine; decide
  -- nodes, the tree
  refine ⟨_, rfl, p, k, rfl, hd, by omega, fun H1 r1 kp1 d1 a1 a2 => .inl ⟨_, rfl, _, _, rfl, rfl, (by show (0 : Int) < 5; decide), ?_⟩⟩
  have m1 := Int.emod_nonneg r1 (show (5 : Int) ≠ 0 by decide)
  have m2 := Int.emod_lt_of_pos r1 (show (0 : Int) < 5 by decide)
  have em : r1 % 5 = (((r1 % 5).toNat : Nat) : Int) := by omega
  refine ⟨_, rfl, _, rfl, p, (r1 % 5).toNat, k + 1, congrArg (fun z => [V.ref p, V.int z]) em, by omega, d1, by omega, fun H2 v t kp2 d2 ht hs => ?_⟩
  rw [← hs] at em d2
  have hs5 : t.size < 5 := by omega
  have hht : t.ht < 13 := Nat.lt_of_le_of_lt t.ht_le (by omega)
  have kpA : Keep p H H2 := kp1.trans kp2
  -- the values
  refine ⟨_, rfl, _, rfl, by omega, by omega, fun D hD => ?_⟩
  have nDp : D ≠ p := d2.ne hD
  have nD0 : H D = none := by
    cases e : H D with
    | none => rfl
    | some o => cases hD.symm.trans (kpA D o nDp e)
  refine lc_range (lo := 0) (n := (r1 % 5).toNat) (fun i H' => ∃ ns : List Int, Keep p H H' ∧ TrAt H' v t ∧ DrAt H' p (k + 1 + t.size + i) ∧ H' D = some (.lst (ns.map V.int)) ∧ ns.length = i ∧ ∀ z, z ∈ ns → 0 ≤ z ∧ z < 4) ⟨[], kpA.trans (Keep.new hD), ht.same (Same.new hD), d2.same (Same.new hD), upd_same, rfl, fun z hz => nomatch hz⟩ (fun i H3 hi h3 => ?_) (fun H3 h3 => ?_)
  · obtain ⟨ns, kp3, tv3, d3, e3, l3, w3⟩ := h3
    refine ⟨rfl, ?_⟩
    refine ⟨_, rfl, p, k + 1 + t.size + i, rfl, d3, by omega, fun H4 r2 kp4 d4 b1 b2 => .inl ⟨_, rfl, _, _, rfl, rfl, (by show (0 : Int) < 4; decide), _, kp4 D _ nDp e3, ?_, ?_⟩⟩
    · rw [List.length_map]
      exact small1000 (by omega)
    · have v1 := Int.emod_nonneg r2 (show (4 : Int) ≠ 0 by decide)
      have v2 := Int.emod_lt_of_pos r2 (show (0 : Int) < 4 by decide)
      refine ⟨ns ++ [r2 % 4], Keep.put nD0 (kp3.trans kp4), ?_, d4.put nDp, ?_, ?_, fun z hz => ?_⟩
      · exact (d3.tree kp4 tv3).put (kp4 D _ nDp e3)
      · rw [upd_same, List.map_append]
        rfl
      · rw [List.length_append, List.length_singleton, l3]
      · rcases List.mem_append.mp hz with hz | hz
        · exact w3 z hz
        · rw [List.mem_singleton.mp hz]
          exact ⟨v1, v2⟩
  obtain ⟨ns, kp3, tv3, d3, e3, l3, w3⟩ := h3
  have hn : ns.length = t.size := by omega
  clear kp1 kp2 d1 d2 ht kpA nD0 hD
  -- least, most
  refine ⟨_, rfl, p, _, rfl, d3, by omega, fun H4 r2 kp4 d4 _ _ => .inl ⟨_, rfl, _, _, rfl, rfl, (by show (0 : Int) < 6; decide), _, _, rfl, rfl, ?_⟩⟩
  have b1 := Int.emod_nonneg r2 (show (6 : Int) ≠ 0 by decide)
  have b2 := Int.emod_lt_of_pos r2 (show (0 : Int) < 6 by decide)
  refine ⟨_, rfl, _, rfl, p, _, rfl, d4, by omega, fun H5 r3 kp5 d5 _ _ => .inl ⟨_, rfl, _, _, rfl, rfl, (by show (0 : Int) < 6; decide), _, _, rfl, rfl, _, _, rfl, rfl, ?_⟩⟩
  have c1 := Int.emod_nonneg r3 (show (6 : Int) ≠ 0 by decide)
  have c2 := Int.emod_lt_of_pos r3 (show (0 : Int) < 6 by decide)
  have tv5 := d4.tree kp5 (d3.tree kp4 tv3)
  have e5 := kp5 D _ nDp (kp4 D _ nDp e3)
  have kpB := (kp3.trans kp4).trans kp5
  obtain ⟨wd, hw⟩ : ∃ wd : Nat, wd = (((r2 % 6 - 2) + r3 % 6 - 1) + 1 - (r2 % 6 - 2)).toNat := ⟨_, rfl⟩
  -- due
  refine ⟨_, rfl, _, rfl, v, t, D, ns, rfl, tv5, hht, e5, hn, fun H6 du s6 n6 t6 => ?_⟩
  have tv6 := tv5.same s6
  have e6 := s6 _ _ e5
  -- the lists
  refine ⟨_, rfl, _, rfl, _, rfl, t.size, (r2 % 6 - 2), ((r2 % 6 - 2) + r3 % 6 - 1), congrArg (fun z => [V.int z, V.int (r2 % 6 - 2), V.int ((r2 % 6 - 2) + r3 % 6 - 1)]) em, by omega, by omega, by omega, by omega, by omega, by omega, fun H7 R s7 ⟨nR, rows, eR, pR⟩ => ?_⟩
  rw [← hw] at pR
  have lR := Paired.length pR
  have few := lists_few (lo := (r2 % 6 - 2)) (m := wd) hs5 (by omega)
  have tv7 := tv6.same s7
  have e7 := s7 _ _ e6
  have t7 := t6.same s7
  refine ⟨R, rfl, ⟨_, .of eR⟩, fun C hC => ?_⟩
  have sC := Same.new (o := .lst []) hC
  refine lc_list (xs := rows.map V.ref) (fun i H' => Same H7 H' ∧ ∃ zs : List V, H' C = some (.lst zs) ∧ zs.length = (((listsOf (r2 % 6 - 2) wd t.size).take i).filter (sameEnds ns t)).length) ⟨sC, [], upd_same, rfl⟩ (fun i H' _ h' => .of (h'.1 _ _ eR)) (fun i x H8 hx h8 => ?_) (fun H8 h8 => ?_)
  · obtain ⟨s8, zs, e8, l8⟩ := h8
    rw [List.getElem?_map] at hx
    obtain ⟨c, hc, rfl⟩ := Option.map_eq_some_iff.mp hx
    obtain ⟨s, hs9, ec, _⟩ := Paired.getL pR hc
    have hi : i < rows.length := (List.getElem?_eq_some_iff.mp hc).1
    have ls := lists_len _ s (List.mem_of_getElem? hs9)
    have et : (listsOf (r2 % 6 - 2) wd t.size).take (i + 1) = (listsOf (r2 % 6 - 2) wd t.size).take i ++ [s] := by
      rw [List.take_add_one, hs9]
      rfl
    refine ⟨rfl, ?_⟩
    refine ⟨_, rfl, _, rfl, v, t, c, s, rfl, tv7.same s8, hht, s8 _ _ ec, ls, fun H9 e9 s9 n9 t9 => ?_⟩
    have s79 := s8.trans s9
    obtain ⟨ra, ea, pa⟩ := t9
    obtain ⟨rb, eb, pb⟩ := t7.same s79
    have p1 := endsL_plainS (valAt s) t asked
    have p2 := endsL_plainS (valAt ns) t asked
    refine ⟨_, rfl, rowsD (endsL (valAt s) t asked), rowsD (endsL (valAt ns) t asked), rowsDS_dp ea pa p1, rowsDS_dp eb pb p2, rowsDS_shaped p1, rowsDS_shaped p2, _, rfl, ?_⟩
    rw [rowsDS_eqv p1 p2, et, List.filter_append, List.length_append]
    have e9C := s9 _ _ e8
    have lzs : zs.length ≤ 625 := by
      rw [l8]
      refine Nat.le_trans (List.length_filter_le _ _) ?_
      rw [List.length_take]
      omega
    rw [show decide (endsL (valAt s) t asked = endsL (valAt ns) t asked) = sameEnds ns t s from rfl]
    cases cc : sameEnds ns t s with
    | true =>
      rw [List.filter_cons_of_pos cc]
      refine iteT ?_
      refine ⟨_, rfl, _, e9C, small1000 (by omega), fun b o e => ?_, _, upd_same, ?_⟩
      · rw [upd_ne (ne_of_none e hC)]
        exact s79 _ _ e
      · rw [List.length_append, l8]
        rfl
    | false =>
      rw [List.filter_cons_of_neg (by rw [cc]; exact Bool.false_ne_true)]
      exact iteF ⟨s79, zs, e9C, l8⟩
  obtain ⟨s8, zs, e8, l8⟩ := h8
  rw [List.length_map, lR, List.take_length] at l8
  have oft : ((zs.length : Nat) : Int) = prodC (valAt ns) t (r2 % 6 - 2) ((r2 % 6 - 2) + r3 % 6 - 1) t.size := by
    rw [l8, show (sameEnds ns t) = fun s => decide (endsL (valAt s) t asked = endsL (valAt ns) t asked) from rfl]
    have z := often_eq (lo := (r2 % 6 - 2)) (w := wd) (ks := asked) (E := edge15) hn (fun z hz => edge_in (by have := w3 z hz; omega) (by have := w3 z hz; omega)) (fun z h1 h2 => edge_in (by omega) (by omega)) asked_edge
    rw [z]
    by_cases c : (r2 % 6 - 2) ≤ ((r2 % 6 - 2) + r3 % 6 - 1) + 1
    · rw [show (r2 % 6 - 2) + (wd : Int) - 1 = ((r2 % 6 - 2) + r3 % 6 - 1) by omega]
    · omega
  have fewC : ∀ i, i < t.size → cntOf (r2 % 6 - 2) ((r2 % 6 - 2) + r3 % 6 - 1) (alwAt (valAt ns) t i) < 2 ^ 100 := fun i _ => by
    rcases cnt_max (r2 % 6 - 2) ((r2 % 6 - 2) + r3 % 6 - 1) (alwAt (valAt ns) t i) with h | h <;> omega
  have tv8 := tv7.same s8
  have e8D := s8 _ _ e7
  refine ⟨C, zs, rfl, .inl (.of e8), ?_⟩
  refine ⟨_, rfl, _, rfl, _, rfl, _, rfl, v, t, D, ns, (r2 % 6 - 2), ((r2 % 6 - 2) + r3 % 6 - 1), rfl, tv8, by omega, e8D, hn, fewC, fun H9 s9 => ?_⟩
  refine ⟨_, rfl, rfl, _, rfl, ?_⟩
  rw [oft, decide_eq_true (show V.int (prodC (valAt ns) t (r2 % 6 - 2) ((r2 % 6 - 2) + r3 % 6 - 1) t.size) = V.int (prodC (valAt ns) t (r2 % 6 - 2) ((r2 % 6 - 2) + r3 % 6 - 1) t.size) from rfl)]
  refine iteF ?_
  refine ⟨_, rfl, _, rfl, _, rfl, _, rfl, rfl, rfl, v, t, D, ns, (r2 % 6 - 2), ((r2 % 6 - 2) + r3 % 6 - 1), rfl, tv8.same s9, by omega, s9 _ _ e8D, hn, fewC, fun H10 s10 => ?_⟩
  refine ⟨_, rfl, rfl, ?_⟩
  rw [decide_eq_true (show V.int (prodC (valAt ns) t (r2 % 6 - 2) ((r2 % 6 - 2) + r3 % 6 - 1) t.size) = V.int (prodC (valAt ns) t (r2 % 6 - 2) ((r2 % 6 - 2) + r3 % 6 - 1) t.size) from rfl)]
  exact q _ (kpB.trans (.of (s6.trans (s7.trans (s8.trans (s9.trans s10)))))) (((((((d5.same s6).same s7).same s8).same s9).same s10)).mono (by omega))
end
end HSP
namespace HSP
open PySem PySem.Spec PyProof.Rows L2
theorem dict4 (least most b : Int) (l : Lb) : valV (mergeK [] [((Sum.inr ("found" : Str) : Key), .int 1), (Sum.inr ("low" : Str), .int (b - least + 1)), (Sum.inr ("high" : Str), .int (most - b + 1)), (Sum.inr ("dead" : Str), .int (most - least + 1))]) (Sum.inr l.str) = some (.int (roomOf least most b l)) := by
  cases l <;> rfl
section
variable {P : Program} {w : World} {K : PySem.W.Frag} {mg : Str → Option Value} {base : Heap}
/-! ### _law_great_right -/
theorem sc_law_great_right : FnScope n_law_great_right ["draws"] (defScope s_law_great_right) := ⟨rfl, rfl, rfl, by decide +kernel, rfl, by decide +kernel, by decide +kernel⟩
theorem ok_great (B : Bl mg) (Rp : mg "repr" = none) (N : Df P w K mg base "_law_next" 1 ["draws"] spNext) (Et : Df P w K mg base "_law_even_tree" 11 ["draws", "nodes"] (spEven 10)) (Nu : Df P w K mg base "_law_numbers" 2 ["draws", "nodes"] spNumbers) (Lb : DfB P w K mg base "labels" 5 ["tree", "values"] ["values", "tree"] spLabels) (Re : DfB P w K mg base "representative" 5 ["tree", "values"] ["values", "tree"] spRep)
    (Ca : Df P w K mg base "count_alike" 5 ["tree", "values", "least", "most"] spCountAlike) (a : At K mg "_law_great_right" s_law_great_right) : DfG P w K mg base "_law_great_right" 12 ["draws"] spRight := by
  refine DfG.mk' a sc_law_great_right (fun vs H Q E h => ?_) (fun _ _ _ _ _ _ us hl => match us, hl with | [_], _ => rfl) (fun f cdv A outer s H vs Q E hg hr h => ?_)
  · obtain ⟨p, k, rfl, _⟩ := h
    rfl
  obtain ⟨p, k, rfl, hd, hk, q⟩ := h
  refine ⟨_, (pss_cons (ps_set (i := 1) sc_law_great_right.nd rfl (.inl rfl) (pe_op op_mod (pe_callTy call_int1 (by rfl) B.int (by decide +kernel) (pa_cons (pe_df N (hr.mono (by decide)) (pa_cons (pv 0) pa_nil)) pa_nil)) pe_int))
 (pss_cons (ps_set (i := 2) sc_law_great_right.nd rfl (.inl rfl) (pe_df Et hr (pa_cons (pv 0) (pa_cons (pv 1) pa_nil))))
 (pss_cons (ps_set (i := 3) sc_law_great_right.nd rfl (.inl rfl) (pe_df Nu (hr.mono (by decide)) (pa_cons (pv 0) (pa_cons (pv 1) pa_nil))))
 (C8.pss_cut (ps_if (pt_cmpR op_eq (pe_op op_mod (pe_callTy call_int1 (by rfl) B.int (by decide +kernel) (pa_cons (pe_df N (hr.mono (by decide)) (pa_cons (pv 0) pa_nil)) pa_nil)) pe_int) pe_int (nomark _)) (pss_one (ps_setLc (i := 3) (own := [("value", 11)]) (g := (gName 11)) (tt := tYes) (by rfl) sc_law_great_right.nd rfl rfl (sw_true rfl rfl rfl (by decide +kernel)) (pi_list (pv 3)) (blkOk_by (N := n_law_great_right) (sc := defScope s_law_great_right) (by decide +kernel)) (fun _ _ _ _ _ => (pg_name (i := 11) sc_law_great_right.nd rfl (.inl rfl))) (fun _ _ _ _ _ => pts_nil) (fun _ _ _ _ _ => (pe_op op_mul (pe_op op_mul (pv 11) pe_int) (pe_op op_pow pe_int pe_int))))) pss_nil)
 (pss_cons (ps_par (i := 4) (j := 5) (by rfl) sc_law_great_right.nd rfl rfl (by decide) rfl rfl (pa_cons (pe_op op_sub (pe_callB (cr_min rfl) (by rfl) B.min (by decide +kernel) (pa_cons (pe_op op_cat (pv 3) (pe_lst (pa_cons pe_int pa_nil))) pa_nil)) (pe_op op_mod (pe_callTy call_int1 (by rfl) B.int (by decide +kernel) (pa_cons (pe_df N (hr.mono (by decide)) (pa_cons (pv 0) pa_nil)) pa_nil)) pe_int)) (pa_cons (pe_op op_add (pe_callB (cr_max rfl) (by rfl) B.max (by decide +kernel) (pa_cons (pe_op op_cat (pv 3) (pe_lst (pa_cons pe_int pa_nil))) pa_nil)) (pe_op op_mod (pe_callTy call_int1 (by rfl) B.int (by decide +kernel) (pa_cons (pe_df N (hr.mono (by decide)) (pa_cons (pv 0) pa_nil)) pa_nil)) pe_int)) pa_nil)) (by rfl))
 (C8.pss_cut (ps_if (pt_cmpR op_eq (pe_op op_mod (pe_callTy call_int1 (by rfl) B.int (by decide +kernel) (pa_cons (pe_df N (hr.mono (by decide)) (pa_cons (pv 0) pa_nil)) pa_nil)) pe_int) pe_int (nomark _)) (pss_one (ps_par (i := 4) (j := 5) (by rfl) sc_law_great_right.nd rfl rfl (by decide) rfl rfl (pa_cons (pe_op op_sub (pv 4) (pe_op op_pow pe_int pe_int)) (pa_cons (pe_op op_add (pv 5) (pe_op op_pow pe_int pe_int)) pa_nil)) (by rfl))) pss_nil)
 (pss_cons (ps_set (i := 6) sc_law_great_right.nd rfl (.inl rfl) (pe_callB (cr_reprD hg hr.units) (by rfl) Rp (by decide +kernel) (pa_cons (pv 3) pa_nil)))
 (pss_cons (ps_set (i := 7) sc_law_great_right.nd rfl (.inl rfl) pe_int)
 (pss_cons (ps_for PassesOwn.never rfl (pi_zip (by rfl) B.zip (pa_cons (pe_df Lb.df (hr.mono (by decide)) (pa_cons (pv 2) (pa_cons (pv 3) pa_nil))) (pa_cons (pe_df Re.df (hr.mono (by decide)) (pa_cons (pv 2) (pa_cons (pv 3) pa_nil))) pa_nil))) (pg_tup rfl (pgs_cons (pg_name (i := 8) sc_law_great_right.nd rfl (.inl rfl)) (pgs_cons (pg_name (i := 9) sc_law_great_right.nd rfl (.inl rfl)) pgs_nil))) (pss_cons (ps_set (i := 10) sc_law_great_right.nd rfl (.inl rfl) (pe_disp (pps_cons pe_str pe_int (pps_cons pe_str (pe_op op_add (pe_op op_sub (pv 9) (pv 4)) pe_int) (pps_cons pe_str (pe_op op_add (pe_op op_sub (pv 5) (pv 9)) pe_int) (pps_cons pe_str (pe_op op_add (pe_op op_sub (pv 5) (pv 4)) pe_int) pps_nil)))) rfl rfl (by intro z; cases z) (by decide)))
 (pss_one (ps_set (i := 7) sc_law_great_right.nd rfl (.inl rfl) (pe_op op_mulW (pv 7) (pe_dget (Nat.lt_of_le_of_lt (Nat.add_le_add_left (by decide) _) hr.units) (pv 10) (pv 8) (fun _ _ => rfl)))))))
 (pss_one (ps_ret (pe_and (pe_cmpR op_eq (pe_df Ca (hr.mono (by decide)) (pa_cons (pv 2) (pa_cons (pv 3) (pa_cons (pv 4) (pa_cons (pv 5) pa_nil))))) (pv 7) (nomark _)) (pe_one (pe_cmpR op_eq (pe_callB (cr_reprD hg hr.units) (by rfl) Rp (by decide +kernel) (pa_cons (pv 3) pa_nil)) (pv 6) (nomark _))))))))))))))), ?_⟩
  have one : 1 ≤ sizeLine := by show 1 ≤ sizeLine; decide
  -- nodes, the tree, the values
  refine ⟨_, rfl, p, k, rfl, hd, by omega, fun H1 r1 kp1 d1 _ _ => .inl ⟨_, rfl, _, _, rfl, rfl, (by show (0 : Int) < 61; decide), ?_⟩⟩
  have m1 := Int.emod_nonneg r1 (show (61 : Int) ≠ 0 by decide)
  have m2 := Int.emod_lt_of_pos r1 (show (0 : Int) < 61 by decide)
  obtain ⟨n, en⟩ : ∃ n : Nat, r1 % 61 = (n : Int) := ⟨(r1 % 61).toNat, by omega⟩
  have e61 : (fun i j => V.int (i % j)) r1 61 = natV n := congrArg V.int en
  rw [e61]
  have b10 : n < evenB 10 := by
    have : evenB 10 = 92 := by decide
    omega
  refine ⟨_, rfl, _, rfl, p, n, k + 1, rfl, b10, d1, by omega, fun H2 v t kp2 d2 tv sz => ?_⟩
  refine ⟨_, rfl, _, rfl, p, n, k + 1 + n, rfl, by omega, d2, by omega, fun H3 D0 ns0 kp3 d3 nD0 eD0 lD0 near0 => ?_⟩
  have tv3 := d2.tree kp3 tv
  have kpA := (kp1.trans kp2).trans kp3
  have hn60 : n ≤ 60 := by omega
  -- greater values
  refine ⟨fun σ H5 => ∃ (D : Addr) (ns : List Int), σ = [some (.ref p), some (natV n), some v, some (.ref D), none, none, none, none, none, none, none, none] ∧ Keep p H H5 ∧ DrAt H5 p (k + 123) ∧ TrAt H5 v t ∧ D ≠ p ∧ H5 D = some (.lst (ns.map V.int)) ∧ ns.length = n ∧ ∀ z, z ∈ ns → -(10 ^ 25) ≤ z ∧ z ≤ 10 ^ 25, ?_, ?_⟩
  · refine ⟨_, rfl, p, k + 1 + n + n + 1, rfl, d3, by omega, fun H4 r4 kp4 d4 _ _ => .inl ⟨_, rfl, _, _, rfl, rfl, (by show (0 : Int) < 3; decide), rfl, _, rfl, ?_⟩⟩
    have kpB := kpA.trans kp4
    have tv4 := d3.tree kp4 tv3
    have nDp : D0 ≠ p := d3.neOf eD0
    have eD4 := kp4 _ _ nDp eD0
    refine ite2 (fun _ => ?_) (fun _ => ⟨D0, ns0, rfl, kpB, d4.mono (by omega), tv4, nDp, eD4, lD0, fun z hz => by have := near0 z hz; omega⟩)
    refine ⟨_, rfl, D0, rfl, ⟨_, .of eD4⟩, fun D hD => ?_⟩
    refine lc_list (xs := ns0.map V.int) (fun i H' => ∃ ms : List Int, Same H4 H' ∧ H' D = some (.lst (ms.map V.int)) ∧ ms.length = i ∧ ∀ z, z ∈ ms → -(10 ^ 25) ≤ z ∧ z ≤ 10 ^ 25) ⟨[], Same.new hD, upd_same, rfl, fun z hz => nomatch hz⟩ (fun i H' _ h' => ?_) (fun i x H' hx h' => ?_) (fun H' h' => ?_)
    · obtain ⟨_, s', _⟩ := h'
      exact .of (s' _ _ eD4)
    · obtain ⟨ms, s', e', l', b'⟩ := h'
      rw [List.getElem?_map] at hx
      obtain ⟨z, hz, rfl⟩ := Option.map_eq_some_iff.mp hx
      have hi := (List.getElem?_eq_some_iff.mp hz).1
      have nz := near0 z (List.mem_of_getElem? hz)
      refine ⟨rfl, _, rfl, _, _, rfl, rfl, .inr ⟨by decide, by decide⟩, _, _, rfl, rfl, ⟨by decide, by decide, by decide⟩, _, _, rfl, rfl, .inr ⟨by decide +kernel, by decide +kernel⟩, _, e', ?_, ms ++ [z * 7 * (10 : Int) ^ (17 : Int).toNat], fun b o e => ?_, ?_, ?_, fun y hy => ?_⟩
      · rw [List.length_map]
        exact small1000 (by omega)
      · rw [upd_ne (ne_of_none e hD)]
        exact s' _ _ e
      · rw [upd_same, List.map_append]
        rfl
      · rw [List.length_append, List.length_singleton, l']
      · rcases List.mem_append.mp hy with hy | hy
        · exact b' y hy
        · rw [List.mem_singleton.mp hy, show (17 : Int).toNat = 17 from rfl]
          omega
    · obtain ⟨ms, s', e', l', b'⟩ := h'
      rw [List.length_map] at l'
      exact ⟨D, ms, rfl, kpB.trans (.of s'), (d4.same s').mono (by omega), tv4.same s', d4.ne hD, e', by omega, b'⟩
  rintro σ H5 ⟨D, ns, rfl, kp5, d5, tv5, nDp, eD, lD, big⟩
  clear kp1 kp2 kp3 d1 d2 d3 tv tv3 kpA nD0 eD0 lD0 near0
  -- least, most
  refine ⟨_, rfl, one, fun Z1 hZ1 => ?_⟩
  have sZ1 := Same.new (o := .lst [V.int 0]) hZ1
  refine ⟨D, Z1, _, _, rfl, rfl, sZ1 _ _ eD, upd_same, ?_, fun C1 hC1 => ?_⟩
  · rw [List.length_map]
    exact Nat.le_of_lt (small1000 (by show ns.length + 1 ≤ 1000; omega))
  have sC1 := sZ1.trans (Same.new (o := .lst (ns.map V.int ++ [V.int 0])) hC1)
  have eC1 : (upd (upd H5 Z1 (.lst [V.int 0])) C1 (.lst (ns.map V.int ++ [V.int 0]))) C1 = some (.lst ((ns ++ [0]).map V.int)) := by
    rw [upd_same, List.map_append]
    rfl
  refine ⟨C1, ns ++ [0], rfl, .of eC1, (by rw [List.length_append]; exact Nat.succ_pos _), fun lo lo1 lo2 => ?_⟩
  generalize upd (upd H5 Z1 (.lst [V.int 0])) C1 (.lst (ns.map V.int ++ [V.int 0])) = H6 at sC1 ⊢
  refine ⟨_, rfl, p, _, rfl, d5.same sC1, by omega, fun H7 r7 kp7 d7 _ _ => .inl ⟨_, rfl, _, _, rfl, rfl, (by show (0 : Int) < 5; decide), _, _, rfl, rfl, ?_⟩⟩
  have b1 := Int.emod_nonneg r7 (show (5 : Int) ≠ 0 by decide)
  have b2 := Int.emod_lt_of_pos r7 (show (0 : Int) < 5 by decide)
  have eD7 := kp7 _ _ nDp (sC1 _ _ eD)
  have tv7 := (d5.same sC1).tree kp7 (tv5.same sC1)
  refine ⟨_, rfl, one, fun Z2 hZ2 => ?_⟩
  have sZ2 := Same.new (o := .lst [V.int 0]) hZ2
  refine ⟨D, Z2, _, _, rfl, rfl, sZ2 _ _ eD7, upd_same, ?_, fun C2 hC2 => ?_⟩
  · rw [List.length_map]
    exact Nat.le_of_lt (small1000 (by show ns.length + 1 ≤ 1000; omega))
  have sC2 := sZ2.trans (Same.new (o := .lst (ns.map V.int ++ [V.int 0])) hC2)
  have eC2 : (upd (upd H7 Z2 (.lst [V.int 0])) C2 (.lst (ns.map V.int ++ [V.int 0]))) C2 = some (.lst ((ns ++ [0]).map V.int)) := by
    rw [upd_same, List.map_append]
    rfl
  refine ⟨C2, ns ++ [0], rfl, .of eC2, (by rw [List.length_append]; exact Nat.succ_pos _), fun hi hi1 hi2 => ?_⟩
  generalize upd (upd H7 Z2 (.lst [V.int 0])) C2 (.lst (ns.map V.int ++ [V.int 0])) = H8 at sC2 ⊢
  refine ⟨_, rfl, p, _, rfl, d7.same sC2, by omega, fun H9 r9 kp9 d9 _ _ => .inl ⟨_, rfl, _, _, rfl, rfl, (by show (0 : Int) < 5; decide), _, _, rfl, rfl, ?_⟩⟩
  have c1 := Int.emod_nonneg r9 (show (5 : Int) ≠ 0 by decide)
  have c2 := Int.emod_lt_of_pos r9 (show (0 : Int) < 5 by decide)
  have eD9 := kp9 _ _ nDp (sC2 _ _ eD7)
  have tv9 := (d7.same sC2).tree kp9 (tv7.same sC2)
  have kpC := ((kp5.trans (.of sC1)).trans kp7).trans ((Keep.of sC2).trans kp9)
  have big0 : ∀ z, z ∈ ns ++ [0] → -(10 ^ 25) ≤ z ∧ z ≤ 10 ^ 25 := fun z hz => by
    rcases List.mem_append.mp hz with hz | hz
    · exact big z hz
    · rw [List.mem_singleton.mp hz]
      decide
  have lob := big0 lo lo1
  have hib := big0 hi hi1
  have low : ∀ z, z ∈ ns → lo ≤ z ∧ z ≤ hi := fun z hz => ⟨lo2 z (List.mem_append_left _ hz), hi2 z (List.mem_append_left _ hz)⟩
  clear eC1 eC2 sC1 sC2 kp7 d7 sZ1 sZ2 hZ1 hZ2 hC1 hC2 tv5 eD d5 kp5 eD7 tv7
  refine ⟨_, _, rfl, ?_⟩
  -- wider bounds
  refine ⟨fun σ H5 => ∃ (least most : Int), σ = [some (.ref p), some (natV n), some v, some (.ref D), some (.int least), some (.int most), none, none, none, none, none, none] ∧ Keep p H H5 ∧ DrAt H5 p (k + 126) ∧ TrAt H5 v t ∧ H5 D = some (.lst (ns.map V.int)) ∧ (∀ z, z ∈ ns → least ≤ z ∧ z ≤ most) ∧ -(10 ^ 26) ≤ least ∧ most ≤ 10 ^ 26, ?_, ?_⟩
  · refine ⟨_, rfl, p, _, rfl, d9, by omega, fun H4 r4 kp4 d4 _ _ => .inl ⟨_, rfl, _, _, rfl, rfl, (by show (0 : Int) < 2; decide), rfl, _, rfl, ?_⟩⟩
    have kpB := kpC.trans kp4
    have tv4 := d9.tree kp4 tv9
    have eD4 := kp4 _ _ nDp eD9
    refine ite2 (fun _ => ?_) (fun _ => ⟨_, _, rfl, kpB, d4.mono (by omega), tv4, eD4, fun z hz => by have := low z hz; omega, by omega, by omega⟩)
    refine ⟨_, rfl, _, _, rfl, rfl, ⟨by decide, by decide, by decide⟩, _, _, rfl, rfl, _, rfl, _, _, rfl, rfl, ⟨by decide, by decide, by decide⟩, _, _, rfl, rfl, ?_⟩
    refine ⟨_, _, rfl, _, _, rfl, kpB, d4.mono (by omega), tv4, eD4, fun z hz => ?_, ?_, ?_⟩
    all_goals (try have := low z hz)
    all_goals (rw [show (19 : Int).toNat = 19 from rfl]; omega)
  rintro σ H6 ⟨least, most, rfl, kp6, d6, tv6, eD6, inn, lb, mb⟩
  clear kpC d9 tv9 eD9 low lob hib lo2 hi2
  -- repr
  have tame : Tame ns := fun z hz => by have := big z hz; omega
  have fine := ints_fine tame (by omega)
  refine ⟨_, rfl, D, intsD ns, rfl, .lst (.of eD6) (ints_dpAll _), fine.show_, fine.dict, fine.deep, fine.len, ?_⟩
  -- each node
  refine ⟨_, rfl, _, rfl, v, t, D, ns, rfl, tv6, by omega, eD6, by omega, fun H7 L s7 nL eL => ?_⟩
  have tv7 := tv6.same s7
  have eD7 := s7 _ _ eD6
  refine ⟨_, rfl, _, rfl, v, t, D, ns, rfl, tv7, by omega, eD7, by omega, fun H8 R s8 nR eR => ?_⟩
  have tv8 := tv7.same s8
  have eD8 := s8 _ _ eD7
  have eL8 := s8 _ _ eL
  have kp8 := kp6.trans (.of (s7.trans s8))
  have d8 := (d6.same s7).same s8
  have lenR := repOf_len (valAt ns) t 0 none none
  have many : t.size = min (labsV (valAt ns) t t.size).length ((repOf (valAt ns) t 0 none none).map V.int).length := by
    rw [labsV_len, List.length_map, lenR, Nat.min_self]
  have fewC : ∀ i, i < t.size → cntOf least most (alwAt (valAt ns) t i) < 2 ^ 100 := fun i _ => by
    rcases cnt_max least most (alwAt (valAt ns) t i) with h | h <;> omega
  refine ⟨L, R, _, _, rfl, .of eL8, .of eR, ?_⟩
  refine for_it (walk_zip (K := K) (a := L) (b := R) (xs := labsV (valAt ns) t t.size) (ys := (repOf (valAt ns) t 0 none none).map V.int) many) (fun i σ H' => ∃ y8 y9 y10 : Option V, σ = [some (.ref p), some (natV n), some v, some (.ref D), some (.int least), some (.int most), some (.str (intsD ns).shown), some (.int (prodC (valAt ns) t least most i)), y8, y9, y10, none] ∧ Same H8 H') ⟨_, _, _, rfl, Same.refl _⟩ (fun i σ H' _ h' => ?_) (fun i x σ H9 H10 hi h9 hy => ?_) (fun σ H9 h9 => ?_)
  · obtain ⟨_, _, _, _, s'⟩ := h'
    exact ⟨.of (s' _ _ eL8), .of (s' _ _ eR)⟩
  · obtain ⟨y8, y9, y10, rfl, s9⟩ := h9
    obtain ⟨T, x1, x2, rfl, nT, rfl, g1, g2⟩ := hy
    obtain ⟨b, eb⟩ : ∃ b, b = clamp (stOf (valAt ns) none none (pOf t 0 i)).1 (stOf (valAt ns) none none (pOf t 0 i)).2 (valAt ns i) := ⟨_, rfl⟩
    have rb : (repOf (valAt ns) t 0 none none)[i]? = some b := by
      rw [eb]
      exact repOf_at (valAt ns) t 0 none none i (Nat.zero_le _) (by omega)
    have w1 : (labsV (valAt ns) t t.size)[i]? = some (V.str (labAt (valAt ns) t i).str) := by
      unfold labsV
      rw [List.getElem?_map, List.getElem?_range hi]
      rfl
    have w2 : ((repOf (valAt ns) t 0 none none).map V.int)[i]? = some (V.int b) := by
      rw [List.getElem?_map, rb]
      rfl
    cases w1.symm.trans g1
    cases w2.symm.trans g2
    have vin : ∀ j, j < t.size → least ≤ valAt ns j ∧ valAt ns j ≤ most := fun j hj => inn _ (valAt_mem (by omega))
    have bin := rep_near t 0 none none (A := least) (B := most) (fun l h => nomatch h) (fun l h => nomatch h) (fun j _ hj => vin j (by omega)) b (List.mem_of_getElem? rb)
    have room := cnt_room eb (vin i hi) bin
    have ep : prodC (valAt ns) t least most (i + 1) = prodC (valAt ns) t least most i * roomOf least most b (labAt (valAt ns) t i) := by
      show _ * cntOf _ _ _ = _
      rw [room]
    have cm : CMulW (prodC (valAt ns) t least most i) (roomOf least most b (labAt (valAt ns) t i)) := by
      have h1 := prod_log (g := valAt ns) (t := t) (least := least) (most := most) (k := i) (by omega) fun j hj => fewC j (by omega)
      have h2 := log_pow (cnt_nn least most (alwAt (valAt ns) t i)) (Int.le_of_lt (fewC i hi))
      rw [room] at h2
      show _ + _ < 1000000
      omega
    rw [ep]
    have sT := Same.new (o := .tup [V.str (labAt (valAt ns) t i).str, V.int b]) nT
    refine ⟨T, _, rfl, .of upd_same, rfl, _, _, rfl, _, [], rfl, rfl, ?_⟩
    intro P3 hP3
    have sP := Same.new (o := .dK (mergeK [] [(Sum.inr ("found" : Str), .int 1), (Sum.inr ("low" : Str), .int (b - least + 1)), (Sum.inr ("high" : Str), .int (most - b + 1)), (Sum.inr ("dead" : Str), .int (most - least + 1))])) hP3
    refine ⟨_, rfl, _, rfl, _, _, rfl, rfl, _, _, rfl, rfl, _, rfl, _, rfl, _, _, rfl, rfl, _, _, rfl, rfl, _, rfl, _, rfl, _, _, rfl, rfl, _, _, rfl, rfl, upd_same, [(Sum.inr ("found" : Str), .int 1), (Sum.inr ("low" : Str), .int (b - least + 1)), (Sum.inr ("high" : Str), .int (most - b + 1)), (Sum.inr ("dead" : Str), .int (most - least + 1))], rfl, (by show 4 ≤ 15; decide), ?_⟩
    rw [upd_upd]
    have z := DGet.k (H := upd (upd H9 T (.tup [V.str (labAt (valAt ns) t i).str, V.int b])) P3 (.dK (mergeK [] [(Sum.inr ("found" : Str), .int 1), (Sum.inr ("low" : Str), .int (b - least + 1)), (Sum.inr ("high" : Str), .int (most - b + 1)), (Sum.inr ("dead" : Str), .int (most - least + 1))]))) (a := P3) (k := Sum.inr (labAt (valAt ns) t i).str) upd_same
    rw [dict4] at z
    refine ⟨_, rfl, _, rfl, _, rfl, P3, .int (roomOf least most b (labAt (valAt ns) t i)), rfl, z, _, _, rfl, rfl, cm, ?_⟩
    exact ⟨_, _, _, rfl, s9.trans (sT.trans sP)⟩
  · obtain ⟨y8, y9, y10, rfl, s9⟩ := h9
    have tv9 := tv8.same s9
    have eD9 := s9 _ _ eD8
    refine ⟨_, rfl, _, rfl, _, rfl, _, rfl, v, t, D, ns, least, most, rfl, tv9, by omega, eD9, by omega, fewC, fun H10 s10 => ?_⟩
    refine ⟨_, rfl, rfl, _, rfl, ?_⟩
    rw [decide_eq_true (show V.int (prodC (valAt ns) t least most t.size) = V.int (prodC (valAt ns) t least most t.size) from rfl)]
    refine iteT ?_
    refine ⟨_, rfl, D, intsD ns, rfl, .lst (.of (s10 _ _ eD9)) (ints_dpAll _), fine.show_, fine.dict, fine.deep, fine.len, ?_⟩
    refine ⟨_, rfl, rfl, ?_⟩
    rw [decide_eq_true (show V.str (intsD ns).shown = V.str (intsD ns).shown from rfl)]
    exact q _ (kp8.trans (.of (s9.trans s10))) (((d8.same s9).same s10).mono (by omega))
end
end HSP
set_option maxHeartbeats 2000000
namespace HSP
open PySem PySem.Spec PyProof.Rows L2
/-! ### try: body, except (A, B) as n: suite -/
section
variable {X : Cx}
/-- a class's name is read, the state stays -/
theorem ld_name {x : Str} {c : Value} {pins : List (Addr × Obj)} {s : Shared} {σ : L2.St} {H : Hp} {q0 : Pos} {Q : Value → Shared → Prop} {E : Value → Shared → Prop} (hc : Names X x c) (I : Inv X pins σ H s) (q : Q c s) : wpAny (model X.prog X.w) X.A (eval (.Name x q0) X.env) Q E s := by
  obtain ⟨g, nd, m | ⟨m, v, n⟩⟩ := hc
  · exact ld_glob I g m q nd
  · exact ld_blt I g m v q n nd
/-- (A, B) is made anew, the heap grows by it alone -/
theorem ld_pair {x1 x2 : Str} {c1 c2 : Value} {pins : List (Addr × Obj)} {s : Shared} {σ : L2.St} {H : Hp} {p1 p2 p3 : Pos} {kk : Nat} {Q : Value → Shared → Prop} {E : Value → Shared → Prop} (h1 : Names X x1 c1) (h2 : Names X x2 c2) (I : Inv X pins σ H s)
    (q : Q (.ref s.heap.objs.size) { s with heap := s.heap.push { cls := .type "tuple", data := .seq [c1, c2].toArray } }) : wpAny (model X.prog X.w) X.A (eval (.Tuple [.Name x1 p1, .Name x2 p2] kk p3) X.env) Q E s := by
  refine wpAny_Tuple_spliced ?_
  show wpAny _ _ (spliced ((false, eval (.Name x1 p1) X.env) :: backTo p3 (starEach [.Name x2 p2] X.env))) _ _ s
  refine Calls.spliced_cons (ld_name h1 I ?_)
  show wpAny _ _ (spliced ((false, eval (.Name x2 p2) X.env) :: backTo p3 (starEach [] X.env))) _ _ s
  refine Calls.spliced_cons (ld_name h2 I ?_)
  exact Calls.spliced_nil ⟨(by show 2 ≤ sizeLine; decide), q⟩
theorem flying_push {B : Heap} {l : List Env} {e : Addr} {Z : Obj → Prop} {h : Heap} (o : Obj) (f : HandSPX.FlyingZ B l e Z h) : HandSPX.FlyingZ B l e Z (h.push o) := by
  obtain ⟨f1, f2, f3, oe, vs, T, oT, ts, g1, g2, g3, g4, g5, g6, g7, g8, g9⟩ := f
  exact ⟨fun b u z => Heap.get?_push_of_some _ (f1 b u z), f2, Heap.FunFrames.of_keeps (fun b u z _ => ⟨u, Heap.get?_push_of_some _ z, rfl⟩) f3, oe, vs, T, oT, ts, Heap.get?_push_of_some _ g1, g2, g3, g4, g5, g6, Heap.get?_push_of_some _ g7, g8, g9⟩
end
/-- a caught exception that is kept: its class, its dict -/
def exK (cls : Value) (d : Option Addr) (e : Addr) : HO := .ext fun h => ∃ (o : Obj) (vs : Array Value), h.get? e = some o ∧ Zc cls d o ∧ o.data = .fields vs
theorem exK_ok {P : Program} {w : World} {H : Hp} {h : Heap} {e : Addr} {cls : Value} {d : Option Addr} {o : Obj} {vs : Array Value} (g : h.get? e = some o) (z : Zc cls d o) (f : o.data = .fields vs) : ObjOk P w H h e (exK cls d e) :=
  ⟨⟨o, vs, g, z, f⟩, ⟨o, g⟩, fun h1 h2 q same => by
    obtain ⟨o1, v1, g1, z1, f1⟩ := q
    exact ⟨o1, v1, same o1 g1, z1, f1⟩⟩
theorem exK_at {P : Program} {w : World} {H : Hp} {h : Heap} {e : Addr} {cls : Value} {d : Option Addr} (ok : HOk P w H h) (q : H e = some (exK cls d e)) : ∃ (o : Obj) (vs : Array Value), h.get? e = some o ∧ Zc cls d o ∧ o.data = .fields vs := (ok e _ q).1
/-- what the clause wishes, the exception kept in the heap -/
def wKeep2 (K : PySem.W.Frag) (c1 c2 : Value) (i : Nat) (ts : Addr → TS) (Wo : WX) (D : Ends) : WX := fun cls d σ H =>
  ∃ b, PySem.W.exmAny K cls [c1, c2] = some b ∧
    (b = true → ∀ a, H a = none → ts a ⟨fun τ G => D.nx (τ.set i none) G, D.rt, fun τ G => D.bk (τ.set i none) G, fun τ G => D.ct (τ.set i none) G⟩ (σ.set i (some (.ref a))) (upd H a (exK cls d a))) ∧ (b = false → Wo cls d σ H)
section
variable {X : Cx} {pins : List (Addr × Obj)} {σ : L2.St} {H : Hp} {s s' sI : Shared} {B : Heap}
theorem _root_.L2.Inv.bareSuite (I : L2.Inv X pins σ H s) (e : Addr) : L2.Inv (X.suite e (X.pn ++ pins)) [] σ H s :=
  ⟨I.ok.suite _ _, I.os, I.bare, I.base, I.loc, I.cell, I.free, I.freeC, fun p hp => I.pin p (by rw [List.append_nil] at hp; exact hp), I.hok, I.len⟩
theorem _root_.L2.Inv.offSuite {e : Addr} {pn' : List (Addr × Obj)} (I : L2.Inv (X.suite e (X.pn ++ pins)) pn' σ H s) (ok : X.Ok) : L2.Inv X pins σ H s :=
  ⟨ok, I.os, I.bare, I.base, I.loc, I.cell, I.free, I.freeC, fun p hp => I.pin p (List.mem_append_left _ hp), I.hok, I.len⟩
/-- back on the ground, and the exception is of our heap -/
theorem _root_.L2.Inv.keptNew {e : Addr} {o : HO} (I : L2.Inv X pins σ H sI) (nb : ∀ b u, sI.heap.get? b = some u → b ∉ frs X.stack → B.get? b = some u) (st : B.StaysIn s'.heap) (up : sI.heap.UpToSlots s'.heap) (os : s'.os = sI.os) (ag : AllBare s'.gens)
    (new : sI.heap.get? e = none) (ne : H e = none) (k : ObjOk X.prog X.w (upd H e o) s'.heap e o) : L2.Inv X pins σ (upd H e o) s' := by
  have frame : ∀ b ∈ frs X.stack, ∀ u, sI.heap.get? b = some u → ∃ sl, s'.heap.get? b = some { u with slots := sl } := fun b m u g => by
    obtain ⟨_, u', g', plain⟩ := I.stack.mem m
    rw [g] at g'
    cases g'
    exact up b u g plain
  have other : ∀ b u, sI.heap.get? b = some u → b ≠ e := fun b u g z => by rw [z, new] at g; cases g
  have was : HOk X.prog X.w H s'.heap := (I.inGround nb).kept st
  have J := I.call (ch := []) (h' := s'.heap) (g' := s'.gens) (t' := s'.toks) (d' := s'.drawn) (H' := upd H e o)
    ⟨fun b u g _ m _ => st b u (nb b u g m), fun b u g _ m _ => frame b m u g, fun b u g n _ => by rw [upd_ne (other b u g)]; exact n, fun b u g _ => by
      by_cases m : b ∈ frs X.stack
      · exact ⟨_, (frame b m u g).choose_spec⟩
      · exact ⟨u, st b u (nb b u g m)⟩, fun b xs q => by rw [upd_ne (ne_of_none q ne)]; exact q, fun b u xs q => by rw [upd_ne (ne_of_none q ne)]; exact q, fun b ps q => ⟨#[], by rw [upd_ne (ne_of_none q ne), q]; simp⟩⟩
    (was.laidN (fun _ _ q => q) ne k) ag (fun _ z => nomatch z)
  obtain ⟨a1, a2, a3, a4, a5⟩ := s'
  have e5 : a5 = sI.os := os
  subst e5
  exact J
end
section
variable {X : Cx}
variable {x1 x2 n : Str} {c1 c2 : Value} {i kk : Nat} {body suite : List Stmt} {b₀ : Stmt} {p1 p2 p3 pos pos' : Pos} {tb : WX → TS} {ts : Addr → TS} {Wo : WX}
theorem ps_try_keep2 (stk : X.stack = X.env :: X.outer) (fr : X.env.frame = some X.env.locals) (nod : X.N.Nodup) (at_i : X.N[i]? = some n) (lc : X.env.kindOf n = some .local) (nm1 : Names X x1 c1) (nm2 : Names X x2 c2) (out : Takes X Wo)
    (does : ∀ (W : WX) (pn : List (Addr × Obj)) (xe : Value → Shared → Prop), Takes (X.tr pn xe) W → PassesOwn (model X.prog X.w) X.A X.env xe → PSs (X.tr pn xe) body (tb W))
    (then_ : ∀ (e : Addr) (pn : List (Addr × Obj)), PSs (X.suite e pn) (b₀ :: suite) (ts e)) :
    PS X (.Try body [.ExceptHandler (some (.Tuple [.Name x1 p1, .Name x2 p2] kk p3)) (some n) (b₀ :: suite) pos'] [] [] pos) (fun D σ H => tb (wKeep2 X.K c1 c2 i ts Wo D) D σ H) := by
  refine ⟨fun pins s σ H D I rd => ?_⟩
  have okX := I.ok
  have frs0 : X.A.frames = some (X.env :: X.outer) := okX.frames.trans (congrArg some stk)
  refine wpAny_Try_except ?_
  have run := (does (wKeep2 X.K c1 c2 i ts Wo D) (X.pn ++ pins) (fun v z => wpAny (model X.prog X.w) X.A (noteFrame v X.env) (fun _ z2 => wpAny (model X.prog X.w) X.A (setFlight v none) (fun _ z3 =>
    wpAny (model X.prog X.w) X.A (handleBy v X.env [.ExceptHandler (some (.Tuple [.Name x1 p1, .Name x2 p2] kk p3)) (some n) (b₀ :: suite) pos']) (SP X pins D) X.xe z3) X.xe z2) X.xe z)
    (fun u z flown => ?caught) PassesOwn.looking).run [] s σ H D (I.toTry _) rd
  case caught =>
    obtain ⟨e, B, z0, pins', τ, G, cls, d, rfl, J0, nb, up0, sky0, ne, os0, bare0, b, hit, yes, no⟩ := flown
    have J := J0.ofTry okX
    rw [show (X.tr (X.pn ++ pins) _).stack = X.env :: X.outer from stk] at sky0
    refine Sky.land Zc.steady frs0 fr sky0 fun g fl upg => ?_
    have Jg := J.landed (s' := { z with heap := g }) nb fl.1 (up0.trans upg) os0 bare0
    obtain ⟨o3, v3, got3, z3, dat3⟩ := fl.there
    have off : ∀ {h : Heap} {o : Obj} {vs : Array Value}, h.FunFrames B (X.env :: X.outer) → h.get? e = some o → o.data = .fields vs → ¬ e ∈ frs (X.env :: X.outer) := fun {h o vs} ff ge dd m => by
      obtain ⟨_, o', ge', bad⟩ := ff.mem m
      rw [ge] at ge'
      cases ge'
      exact bad vs dd
    have none_of := off fl.2.2.1 got3 dat3
    have n1 : e ≠ X.env.locals := fun z => none_of (List.mem_filterMap.mpr ⟨X.env, List.mem_cons_self, fr.trans (congrArg some z.symm)⟩)
    have n2 : e ∉ X.fs := fun m => by
      obtain ⟨y, my, ey⟩ := List.mem_filterMap.mp m
      exact none_of (List.mem_filterMap.mpr ⟨y, List.mem_cons_of_mem _ my, ey⟩)
    have Sg := Jg.suite got3 dat3 ne n1 n2
    refine wpAny_handleBy_cons (codeAny_handlers_test ?_) (fun q => by cases q)
    refine ld_pair (X := X.suite e ((e, o3) :: (X.pn ++ pins))) nm1 nm2 Sg ?_
    have keeps : ∀ b o, g.get? b = some o → (g.push { cls := .type "tuple", data := .seq [c1, c2].toArray }).get? b = some o := fun b o q => Heap.get?_push_of_some _ q
    have fl' := flying_push { cls := .type "tuple", data := .seq [c1, c2].toArray } fl
    have upg' : z.heap.UpToSlots (g.push { cls := .type "tuple", data := .seq [c1, c2].toArray }) := upg.trans (fun b o q _ => ⟨o.slots, keeps b o q⟩)
    have looks : PySem.W.Looks (model X.prog X.w) (g.push { cls := .type "tuple", data := .seq [c1, c2].toArray }) (typeOf (.ref e)) cls := fun _ _ _ _ k q => wpAny_typeOf_ref (k _ _ (keeps _ _ got3)) (by rw [z3.1]; exact q)
    have hits := PySem.W.exm_tup2 (M := model X.prog X.w) (Jg.kIn.keeps keeps) looks (Heap.get?_push_size _ rfl) hit
    refine hits.here ?_
    generalize g.push { cls := .type "tuple", data := .seq [c1, c2].toArray } = g' at keeps fl' upg' hits ⊢
    cases b with
    | true =>
      refine codeAny_handlers_suite_as ?_
      refine HandSPX.lands_againZ fl' fun g4 fl4 up4 => ?_
      have J4 := J.landed (s' := { z with heap := g4 }) nb fl4.1 ((up0.trans upg').trans up4) os0 bare0
      obtain ⟨o4, v4, got4, z4, dat4⟩ := fl4.there
      have new0 : z0.heap.get? e = none := by
        cases q : z0.heap.get? e with
        | none => rfl
        | some o =>
          have := nb e o q (by rw [show (X.tr (X.pn ++ pins) _).stack = X.env :: X.outer from stk]; exact none_of)
          rw [fl.2.1] at this
          cases this
      have K4 := J.keptNew (s' := { z with heap := g4 }) nb fl4.1 ((up0.trans upg').trans up4) os0 bare0 new0 ne (exK_ok got4 z4 dat4)
      have S4 := K4.bareSuite e
      refine store_ok (X := X.suite e (X.pn ++ pins)) (v := .ref e) S4 nod at_i (.inl lc) rfl (fun z5 S5 => ?_) (.inr lc)
      refine wpAny_mono ((then_ e (X.pn ++ pins)).run [] z5 _ (upd G e (exK cls d e)) _ S5 (yes rfl e ne)) (fun fw z6 fin => ?_) (fun _ _ q => q.elim)
      have over : ∀ {τ6 : L2.St} {G6 : Hp} {Q : Shared → Prop}, L2.Inv (X.suite e (X.pn ++ pins)) [] τ6 G6 z6 → (∀ z7, L2.Inv X pins (τ6.set i none) G6 z7 → Q z7) → wpAny (model X.prog X.w) X.A (do bindName X.env n .none; unbindBehindTheSuite X.env n pos') (fun _ z7 => Q z7) X.xe z6 :=
        fun {τ6 G6 Q} S6 q => gone_ok (S6.offSuite okX) nod at_i lc q
      cases fw with
      | ret u =>
        obtain ⟨v6, τ6, G6, S6, r6, q6⟩ := fin
        exact over S6 fun z7 J7 => ⟨_, _, _, J7, r6, q6⟩
      | _ =>
        obtain ⟨τ6, G6, S6, q6⟩ := fin
        exact over S6 fun z7 J7 => ⟨_, _, J7, q6⟩
    | false =>
      show wpAny _ X.A (handleBy (.ref e) X.env []) _ _ _
      refine wpAny_handleBy_nil ?_
      obtain ⟨_, _, _, o5, v5, T, oT, w5, got5, _, dat5, tr5, _⟩ := id fl'
      unfold PySem.passOn
      refine wpAny_bind (wpAny_field got5 dat5 tr5 ?_)
      rw [if_neg (by simp : ¬ ((Value.ref T == Value.none) = true))]
      have flies : wpAny (model X.prog X.w) X.A (setFlight (.ref e) X.env.frame) (fun _ z4 => wpAny (model X.prog X.w) X.A (throw (.ref e) : Sem Flow) (SP X pins D) X.xe z4) X.xe { z with heap := g' } := by
        rw [fr]
        exact HandSPX.setFlight_upZ fl' fun g4 held up4 => wpAny_throw (out _ _ ⟨e, B, z0, pins, τ, G, cls, d, rfl, J, nb, (up0.trans upg').trans up4, .inr (.inr (by rw [stk]; exact held)), ne, os0, bare0, no rfl⟩)
      first
        | exact wpAny_bind (wpAny_pure (wpAny_bind flies))
        | exact wpAny_bind flies
  refine wpAny_mono run (fun fw z6 fin => ?_) (fun v z6 q => q)
  cases fw with
  | next =>
    obtain ⟨τ, G, J, q⟩ := fin
    exact wpAny_execs_nil ⟨τ, G, J.ofTry okX, q⟩
  | ret u =>
    obtain ⟨v, τ, G, J, r, q⟩ := fin
    exact ⟨v, τ, G, J.ofTry okX, r, q⟩
  | _ =>
    obtain ⟨τ, G, J, q⟩ := fin
    exact ⟨τ, G, J.ofTry okX, q⟩
end
end HSP
set_option maxHeartbeats 2000000
namespace HSP
open PySem PySem.Spec PyProof.Rows L2
/-! ### a kept exception: its fields, its class -/
/-! the class of an exception that has its dict -/
section
open PySem.W PySem.Calls
variable {prog : Program} {w : World} {A : Around} {E : Value → Shared → Prop} {z : Shared} {K : Frag} {x D : Addr} {o : Obj} {od : Option Obj}
theorem found_class (C : ExcC K D) : findObj K D od "__class__" = some (.bind (.builtin "getset_descriptor.__get__") (.builtin "object.__class__")) := by
  obtain ⟨cd, hc, _⟩ := any_some C.hd
  unfold findObj
  rw [hc, Option.bind_some, C.ha, Option.bind_some]
  dsimp only
  rw [C.hn, Option.bind_some]
  dsimp only
  rw [C.ht, Option.bind_some]
theorem asked_class {Q : Option Value → Shared → Prop} (C : ExcC K D) (I : K.In z.heap) (J : InstAt z.heap x o D od) (q : Q (some (.ref D)) { z with toks := z.toks + 1 }) : wpAny (model prog w) A (getAttr? (.ref x) "__class__") Q E z := by
  have found := found_class (od := od) C
  obtain ⟨h, gs, dr, tk, os⟩ := z
  have type := J.type (M := model prog w)
  have by1 := looks_findIn (M := model prog w) I C.hg
  have by2 := looks_findIn (M := model prog w) I C.hk
  have by3 := looks_find (M := model prog w) I J found
  have isExc : Looks (model prog w) h (isInstance (.ref x) (.type "BaseException")) true := type.andThen (looks_subIn I C.hs)
  have no1 : (Value.builtin "BaseException.__getattribute__" == Value.builtin "object.__getattribute__") = false := by decide +kernel
  have no2 : (onTheHeap (Value.ref D) && Value.builtin "BaseException.__getattribute__" == Value.builtin "object.__getattribute__") = false := by rw [no1] <;> rfl
  have no3 : (false && onTheHeap (Value.builtin "BaseException.__getattribute__")) = false := rfl
  unfold getAttr? getAttrBy? getAttrBy
  refine wpAny_bind (wpAny_mkText (wpAny_bind (wpAny_attempt (wpAny_holding (wpAny_bind (type.at (wpAny_bind (by1.at ?_))))))))
  show wpAny _ _ (if (onTheHeap (Value.ref D) && Value.builtin "BaseException.__getattribute__" == Value.builtin "object.__getattribute__") = true then _ else _) _ _ _
  rw [no2, if_neg (fun q => nomatch q)]
  unfold getAttrByItsOwn hookBefore
  refine wpAny_bind ?_
  rw [if_pos (by rfl : onTheHeap (Value.ref D) = true)]
  refine by2.at (wpAny_bind (wpAny_attempt (wpAny_holding ?_)))
  unfold callGetattribute
  rw [no3, if_neg (fun q => nomatch q)]
  unfold boundAndCalled
  rw [PySem.F.excAttr_ValueError.ga.bind (Value.ref x)]
  refine wpAny_bind (wpAny_pure (show wpAny _ _ (call (.builtin "BaseException.__getattribute__") [.ref x, .str "__class__" tk]) _ _ _ from wpAny_call (codeAny_call_builtin PySem.F.excAttr_ValueError.ga.plain PySem.F.entry_bexc_ga ?_)))
  have kind := PySem.F.args_bexc_ga (.ref x) (.str "__class__" tk)
  refine @check_slot (model prog w) _ _ ⟨h, gs, dr, tk + 1, os⟩
    "BaseException.__getattribute__" "BaseException"
    "__getattribute__" (.ref x)
    [.str "__class__" tk] [] _ (by decide +kernel) (by decide +kernel)
    isExc kind ?_
  unfold Builtin.«object.__getattribute__»
  refine wpAny_bind (wpAny_of_eq (a := ((Value.ref x : Value), [Value.str "__class__" tk])) (by first | rfl | (simp only [slotArgs]; rfl)) (wpAny_bind (wpAny_pure (wpAny_bind (type.at (wpAny_bind (by3.at ?_)))))))
  show wpAny _ _ (holding [Value.builtin "object.__class__"] (call (.builtin "getset_descriptor.__get__") [.builtin "object.__class__", .ref x, .ref D]) >>= ret) _ _ _
  refine wpAny_bind (wpAny_holding (wpAny_call (class_get (s := ⟨h, gs, dr, tk + 1, os⟩) (ox := o) (od := od) I J C.hm (wpAny_pure ?_))))
  show wpAny _ _ (handedOut (.ref D)) _ _ _
  rw [handedOut_of (v := Value.ref D) rfl]
  first
    | exact wpAny_pure (wpAny_pure q)
    | exact wpAny_pure q
    | exact wpAny_pure (wpAny_bind (wpAny_pure (wpAny_pure q)))
theorem kitK (C : ExcC K D) : KitX K (.ref x) (.ref D) (fun h => InstAt h x o D od) where
  ty := fun _ _ _ J => J.type
  it := fun _ _ I _ => by
    obtain ⟨cd, is, _⟩ := any_some C.hd
    unfold clsIn at is
    split at is
    case h_2 => cases is
    case h_1 there =>
      intro A0 Q0 E0 s0 k q
      unfold isType loadHead
      exact wpAny_bind (wpAny_loadPart (k _ _ (I _ _ there)) (wpAny_pure q))
  ne := (handS_kitx_exc (x := x) (ox := o) C.hg C.hk C.hs C.hd C.ha C.hn C.ht C.hm).ne
  ca := fun I J q => asked_class C I J q
end
section
variable {X : Cx}
/-- e.f of a kept exception of the class C -/
def tXfK (K : PySem.W.Frag) (f : Str) (te : TE) : TE := fun σ H Q => te σ H fun x G => ∃ (e C dd : Addr) (fs : List (Str × V)) (v : V), x = .ref e ∧ G e = some (exK (.ref C) (some dd) e) ∧ XfC K C ∧ PySem.W.findIn K (.ref C) f = some none ∧ G dd = some (.xd fs) ∧ fs.lookup f = some v ∧ Q v G
theorem pe_xfK {b : Expr} {te : TE} {pos : Pos} {f : Str} (hb : PE X b te) (base : attributeBase b f X.env (eval b X.env) = eval b X.env := by rfl) : PE X (.Attribute b f pos) (tXfK X.K f te) := by
  refine ⟨fun pins s σ H Q I rd => ?_⟩
  refine attr_of base (thn (hb.run pins s σ H _ I rd) fun u z got => ?_)
  obtain ⟨x, G, J, ru, e, C, dd, fs, v, rfl, here, T, free, own, has, q⟩ := got
  cases (show u = Value.ref e from ru)
  obtain ⟨o, vs, go, ⟨cl, di⟩, da⟩ := exK_at J.hok here
  obtain ⟨mA, ns, vals⟩ : ObjOk X.prog X.w G z.heap dd (.xd fs) := J.hok dd _ own
  obtain ⟨od, god, look⟩ := lookIn_ns ns
  obtain ⟨y, ey, ry⟩ := RelO.some_of (v := v) (o := mA f) (has ▸ vals f)
  have inst : PySem.W.InstAt z.heap e o C (some od) := ⟨go, cl, by unfold PySem.W.notCls; rw [da] <;> rfl, by rw [di]; exact god⟩
  exact HandSPX.exc_get J.kIn inst T.ga T.gg T.exC (PySem.W.findObj_own T.hdC free rfl ((look f).trans (congrArg some ey))) (handed_of ry) ⟨v, G, J.tok _, ry, q⟩
/-- isinstance(e, c) of a kept exception of the class D; a dict that it has is in our heap -/
def rIsK (K : PySem.W.Frag) : List V → Hp → VK → Prop := fun xs H Q => ∃ (e D : Addr) (c : V) (cv : Value) (b : Bool), xs = [.ref e, c] ∧ (∃ d, H e = some (exK (.ref D) d e) ∧ ∀ dd, d = some dd → ∃ fs, H dd = some (.xd fs)) ∧ ExcC K D ∧ (∀ u, RelV c u → u = cv) ∧ PySem.W.kitOne K (.ref D) cv = some b ∧ Q (.bl b) H
theorem call_isK : CallR X (.builtin "isinstance") (rIsK X.K) := by
  intro pins s σ H xs us Q I r rd
  obtain ⟨e, D, c, cv, b, rfl, ⟨d, here, own⟩, C, only, says, q⟩ := rd
  obtain ⟨u1, u2, rfl, r1, r2⟩ := vals2 r
  cases (show u1 = Value.ref e from r1)
  cases only _ r2
  obtain ⟨o, vs, go, ⟨cl, di⟩, da⟩ := exK_at I.hok here
  obtain ⟨od, inst⟩ : ∃ od, PySem.W.InstAt s.heap e o D od := by
    cases d with
    | none => exact ⟨none, go, cl, by unfold PySem.W.notCls; rw [da] <;> rfl, by rw [di]; trivial⟩
    | some dd =>
      obtain ⟨fs, has⟩ := own dd rfl
      obtain ⟨mA, ns, _⟩ : ObjOk X.prog X.w H s.heap dd (.xd fs) := I.hok dd _ has
      obtain ⟨od, god, _⟩ := lookIn_ns ns
      exact ⟨some od, go, cl, by unfold PySem.W.notCls; rw [da] <;> rfl, by rw [di]; exact god⟩
  exact PySem.W.kia_one (kitK C) I.kIn inst says (fun z => nomatch z) fun tk => ⟨.bl b, H, I.kept (t' := tk) fun _ _ z => z, rfl, q⟩
end
end HSP
namespace HSP
open PySem PySem.Spec PyProof.Rows L2
/-! ## a def that may raise, called by its name -/
structure DfX (P : Program) (w : World) (K : PySem.W.Frag) (mg : Str → Option Value) (base : Heap) (x : Str) (n : Nat) (ps : List Str) (sp : Sp) : Prop where
  ex : ∃ (f : Addr) (fd : FuncData), mg x = some (.ref f) ∧ PySem.W.keepIn K (.ref f) = true ∧ Binds K fd ps [] ∧ FnOk P w K mg base (L2.CX P w) n f fd ps sp
section
variable {P : Program} {w : World} {K : PySem.W.Frag} {mg : Str → Option Value} {base : Heap}
theorem DfX.mk' {x : Str} {st : Stmt} {N ps : List Str} {k : Nat} {sp : Sp} (a : At K mg x st) (S : FnScope N ps (defScope st)) (len : ∀ vs H Q E, sp vs H Q E → vs.length = ps.length)
    (hb : ∀ (kV doc pm : Value) (an : Option Addr) (cdv ct : Value) (us : List Value), us.length = ps.length → bindArgs (PySem.W.fnOf x x (defArgs st) (defBody st) (defScope st) .none kV doc pm an cdv ct) ⟨us, []⟩ = pure (ps.zip us))
    (body : ∀ (f : Addr) (cdv : Value) (A : Around) (outer : List Env) (s : Shared) (H : Hp) (vs : List V) (Q : VK) (E : XK), Room k (A.deeper (envOfC x (defScope st) s.heap.objs.size f cdv)) → sp vs H Q E →
      ∃ t, PSs (cxOf (L2.CX P w) P w K mg base N x (defScope st) f cdv A outer s H E) (defBody st) t ∧ t { nx := fun _ H' => Q .non H', rt := Q } (start N vs) H) : DfX P w K mg base x (k + 1) ps sp := by
  obtain ⟨f, fd, named, F⟩ := a
  exact ⟨f, fd, named, F.kp, F.binds hb, F.okX S len (body f)⟩
theorem DfX.mono {x : Str} {j k : Nat} {ps : List Str} {sp : Sp} (D : DfX P w K mg base x j ps sp) (h : j ≤ k) : DfX P w K mg base x k ps sp := by
  obtain ⟨f, fd, a, b, c, d⟩ := D.ex
  exact ⟨f, fd, a, b, c, d.mono h⟩
end
section
variable {X : Cx} {k : Nat} {ps : List Str} {sp : Sp} {x : Str} {p pos : Pos} {e : Expr} {es : List Expr} {t : TA} {W : WX}
theorem pe_dfX (D : DfX X.prog X.w X.K X.mg X.base x k ps sp) (hr : Room k X.A) (tk : Takes X W) (ha : PA X (e :: es) t) (hg : Gl X x := by rfl) (hdb : (x == ("__debug__" : Str)) = false := by decide)
    (he : starEach (e :: es) X.env = (false, eval e X.env) :: starEach es X.env := by rfl) (hpl : (backTo pos (starEach es X.env)).any (·.1) = false := by rfl) : PE X (.Call (.Name x p) (e :: es) [] pos) (tCallS sp (WE W) t) := by
  obtain ⟨f, fd, named, kept, binds, F⟩ := D.ex
  exact pe_callS F hr hg named kept binds (fun σ => passAt tk σ) ha hdb he hpl
end
end HSP
namespace HSP
open PySem PySem.Spec PyProof.Rows L2
section
variable {X : Cx}
/-- repr of None and of whole numbers -/
def rReprS : List V → Hp → VK → Prop := fun vs H Q => (vs = [.non] ∧ Q (.str "None") H) ∨ ∃ i : Int, vs = [.int i] ∧ i.natAbs.log2 < 1920 ∧ Q (.str (toString i)) H
theorem cr_reprS : CallR X (.builtin "repr") rReprS := by
  intro pins s σ H vs us Q I r h
  rcases h with ⟨rfl, q⟩ | ⟨i, rfl, few, q⟩
  · obtain ⟨u, rfl, ru⟩ := vals1 r
    cases (show u = Value.none from ru)
    exact P.repr_of_none ⟨.str "None", H, I.tok _, ⟨_, rfl⟩, q⟩
  · exact SkE.call_repr_int pins s σ H _ us Q I r ⟨i, rfl, few, q⟩
end
section
variable {P : Program} {w : World} {K : PySem.W.Frag} {mg : Str → Option Value} {base : Heap}
/-! ### _law_kept -/
theorem sc_law_kept : FnScope n_law_kept p_law_kept (defScope s_law_kept) := ⟨rfl, rfl, rfl, by decide +kernel, rfl, by decide +kernel, by decide +kernel⟩
/-- what the law asks of the two classes -/
structure Two (K : PySem.W.Frag) (mg : Str → Option Value) (C1 C2 : Addr) : Prop where
  g1 : mg "InvalidTree" = some (.ref C1)
  g2 : mg "InvalidValues" = some (.ref C2)
  x1 : PySem.W.exmAny K (.ref C1) [.ref C1, .ref C2] = some true
  x2 : PySem.W.exmAny K (.ref C2) [.ref C1, .ref C2] = some true
  e1 : ExcC K C1
  e2 : ExcC K C2
  f2 : XfC K C2
  n2 : PySem.W.findIn K (.ref C2) "node" = some none
  k1 : PySem.W.kitOne K (.ref C1) (.ref C2) = some false
  k2 : PySem.W.kitOne K (.ref C2) (.ref C2) = some true
/-- what a call raises: InvalidTree; InvalidValues with this node -/
def ETree (C1 : Addr) (H : Hp) : XK := fun cls d H' => cls = .ref C1 ∧ d = none ∧ Same H H'
def ENode (C2 : Addr) (H : Hp) (v : V) : XK := fun cls d H' => cls = .ref C2 ∧ ∃ dd, d = some dd ∧ H' dd = some (.xd [("node", v)]) ∧ Same H H'
def KeptV (v : V) (z : Str) : Prop := (v = .non ∧ z = "None") ∨ ∃ i : Nat, v = natV i ∧ i < 1000 ∧ z = toString (i : Int)
def spKept (sp : Sp) (C1 C2 : Addr) : Sp := fun vs H Q _ =>
  (sp vs H (fun _ _ => False) (ETree C1 H) ∧ ∀ H', Same H H' → Q (.str "tree") H') ∨
  ∃ (v : V) (z : Str), KeptV v z ∧ sp vs H (fun _ _ => False) (ENode C2 H v) ∧ ∀ H', Same H H' → Q (.str z) H'
end
end HSP
namespace HSP
open PySem PySem.Spec PyProof.Rows L2
/-! ### is_tree of anything -/
/-- a thing: None; a pair of things; anything else -/
inductive Th where
  | nil
  | bad
  | nod (l r : Th)
def Th.size : Th → Nat
  | .nil => 0
  | .bad => 0
  | .nod l r => l.size + 1 + r.size
def Th.good : Th → Bool
  | .nil => true
  | .bad => false
  | .nod l r => l.good && r.good
def BadV (K : PySem.W.Frag) (H : Hp) (v : V) : Prop := v ≠ .non ∧ ((∃ t, TyX K H v t ∧ PySem.W.kitOne K t (.type "tuple") = some false) ∨ ∃ a xs, v = .ref a ∧ H a = some (.tup xs) ∧ xs.length ≠ 2)
theorem TyX.same {K : PySem.W.Frag} {H H' : Hp} {v : V} {t : Value} (s : Same H H') (h : TyX K H v t) : TyX K H' v t := by
  cases h with
  | base b =>
    refine .base ?_
    cases b with
    | non => exact .non
    | bl x => exact .bl x
    | int x => exact .int x
    | str x => exact .str x
    | flt x => exact .flt x
    | lst e => exact .lst (s _ _ e)
    | frz e => exact .frz (s _ _ e)
    | tup e => exact .tup (s _ _ e)
    | dK e => exact .dK (s _ _ e)
    | dT e => exact .dT (s _ _ e)
    | ins e a b c d f => exact .ins (s _ _ e) a b c d f
  | byt b => exact .byt b
  | set e => exact .set (s _ _ e)
  | kList e c => exact .kList e c
  | kTuple e c => exact .kTuple e c
  | kDict e c => exact .kDict e c
  | fTuple e => exact .fTuple (s _ _ e)
  | fDict e => exact .fDict (s _ _ e)
inductive ThAt (K : PySem.W.Frag) (H : Hp) : V → Th → Prop
  | nil : ThAt K H .non .nil
  | bad {v : V} (b : BadV K H v) : ThAt K H v .bad
  | nod {a : Addr} {x y : V} {l r : Th} : H a = some (.tup [x, y]) → ThAt K H x l → ThAt K H y r → ThAt K H (.ref a) (.nod l r)
inductive WaitT (K : PySem.W.Frag) (H : Hp) : List V → List Th → Prop
  | nil : WaitT K H [] []
  | cons {v : V} {t : Th} {vs : List V} {ts : List Th} : ThAt K H v t → WaitT K H vs ts → WaitT K H (v :: vs) (t :: ts)
def sizesT : List Th → Nat
  | [] => 0
  | t :: r => t.size + sizesT r
def turnsT : List Th → Nat
  | [] => 0
  | t :: r => 2 * t.size + 1 + turnsT r
section
variable {P : Program} {w : World} {K : PySem.W.Frag} {mg : Str → Option Value} {base : Heap}
def spTreeX (K : PySem.W.Frag) : Sp := fun vs H Q _ => ∃ (v : V) (t : Th), vs = [v] ∧ ThAt K H v t ∧ t.size ≤ 1000 ∧ ∀ H', Same H H' → Q (.bl t.good) H'
theorem sc_treeX : FnScope n_is_tree ["thing"] (defScope s_is_tree) := ⟨rfl, rfl, rfl, by decide +kernel, rfl, by decide +kernel, by decide +kernel⟩
theorem ok_treeX (B : Bl mg) (a : At K mg "is_tree" s_is_tree) : Df P w K mg base "is_tree" 1 ["thing"] (spTreeX K) := by
  refine Df.mk' a sc_treeX (fun vs H Q E h => ?_) (fun _ _ _ _ _ _ us hl => match us, hl with | [_], _ => rfl) (fun f cdv A outer s H vs Q E hr h => ?_)
  · obtain ⟨v, t, rfl, _⟩ := h
    rfl
  obtain ⟨v, t, rfl, ht, hz, q⟩ := h
  refine ⟨_, (pss_cons (ps_set (i := 1) sc_treeX.nd rfl (.inl rfl) (pe_lst (pa_cons (pv 0) pa_nil)))
 (pss_cons (ps_while PassesOwn.never (pt_truth (pv 1) (by intro _; rfl)) (pss_cons (ps_set (i := 2) sc_treeX.nd rfl (.inl rfl) (pe_bm0 PySem.F.plainAttrs_list PySem.F.slot_list_pop PySem.F.type_list_pop mt_pop (pv 1)))
 (pss_one (ps_if (pt_cmpR op_notN (pv 2) pe_non (nomark _)) (pss_cons (ps_if (PW.pt (pw_or (pt_not (pt_val (pe_callB call_isi (by rfl) B.isinstance (by decide +kernel) (pa_cons (pv 2) (pa_cons (pe_bltn (v := .ty "tuple") (by rfl) B.tuple (by decide +kernel) rfl) pa_nil))))) (pw_or1 (pt_cmpR op_ne (pe_callB call_len_seq (by rfl) B.len PySem.boot_len (pa_cons (pv 2) pa_nil)) pe_int (nomark _))))) (pss_one (ps_ret pe_bl)) pss_nil)
 (pss_cons (ps_expr (pe_bm PySem.F.plainAttrs_list PySem.F.slot_list_append PySem.F.type_list_append mt_append (pv 1) (pa_cons (pe_ix ix_tup (pv 2) pe_int (fun _ _ => rfl)) pa_nil)))
 (pss_one (ps_expr (pe_bm PySem.F.plainAttrs_list PySem.F.slot_list_append PySem.F.type_list_append mt_append (pv 1) (pa_cons (pe_ix ix_tup (pv 2) pe_int (fun _ _ => rfl)) pa_nil)))))) pss_nil))))
 (pss_one (ps_ret pe_bl)))), ?_⟩
  refine ⟨v, rfl, (by show 1 ≤ sizeLine; decide), fun l hl => ?_⟩
  have s0 : Same H (upd H l (.lst [v])) := Same.new hl
  refine ⟨fun m σ H1 => ∃ (vs : List V) (ts : List Th) (n : Nat) (y : Option V), σ = [some v, some (.ref l), y] ∧ Same H H1 ∧ H1 l = some (.lst vs.reverse) ∧ WaitT K H vs ts ∧ n + sizesT ts = t.size ∧ vs.length ≤ n + 1 ∧ ts.all Th.good = t.good ∧ m = turnsT ts,
    ⟨_, [v], [t], 0, none, rfl, s0, upd_same, .cons ht .nil, by show 0 + (t.size + 0) = t.size; omega, by show 1 ≤ 0 + 1; omega, by show (t.good && true) = t.good; rw [Bool.and_true], rfl⟩, fun m σ H1 hW => ?_⟩
  obtain ⟨vs, ts, n, y, rfl, sm, el, hw, hn, hlen, good, rfl⟩ := hW
  refine ⟨.ref l, rfl, !vs.reverse.isEmpty, .inl ⟨_, .of el, rfl⟩, ?_⟩
  rw [rev_empty]
  cases hw with
  | nil =>
    rw [← good] at q
    exact iteF (q _ sm)
  | @cons x u xs us hx hxs =>
    refine iteT ⟨fun σ' H' => ∃ m', m' < turnsT (u :: us) ∧ ∃ (vs : List V) (ts : List Th) (n : Nat) (y : Option V), σ' = [some v, some (.ref l), y] ∧ Same H H' ∧ H' l = some (.lst vs.reverse) ∧ WaitT K H vs ts ∧ n + sizesT ts = t.size ∧ vs.length ≤ n + 1 ∧ ts.all Th.good = t.good ∧ m' = turnsT ts,
      fun σ' H' hN => hN, ?_⟩
    refine ⟨.ref l, rfl, .inl ⟨rfl, _, .of el⟩, l, _, x, rfl, rfl, el, last_rev, ?_⟩
    rw [drop_rev]
    have sm2 : Same H (upd H1 l (.lst xs.reverse)) := fun b o e => by rw [upd_ne (ne_of_none e hl)]; exact sm b o e
    refine ⟨x, rfl, rfl, _, rfl, ?_⟩
    cases hx with
    | nil =>
      refine iteF ?_
      refine ⟨_, ?_, xs, us, n, _, rfl, sm2, upd_same, hxs, ?_, ?_, good, rfl⟩
      · show turnsT us < 2 * 0 + 1 + turnsT us; omega
      · have : 0 + sizesT us = sizesT (Th.nil :: us) := rfl
        omega
      · rw [List.length_cons] at hlen; omega
    | bad b =>
      have is : t.good = false := good.symm
      rw [is] at q
      obtain ⟨not, b⟩ := b
      rw [show (!decide (x = V.non)) = true by rw [decide_eq_false not]; rfl]
      refine iteT ?_
      rcases b with ⟨ty, k, no⟩ | ⟨a, xs2, rfl, e, two⟩
      · refine ⟨_, rfl, _, _, _, _, false, rfl, .ty "tuple", TyX.same sm2 k, no, false, rfl, iteT ?_⟩
        exact q _ sm2
      · refine ⟨_, rfl, _, _, _, _, true, rfl, .ty "tuple", .base (.tup (sm2 _ _ e)), rfl, true, rfl, iteF ?_⟩
        refine ⟨_, rfl, a, _, rfl, .inr (.of (sm2 _ _ e)), rfl, _, rfl, ?_⟩
        rw [show (!decide (V.int ((xs2.length : Nat) : Int) = V.int 2)) = true by rw [decide_eq_false (fun z => two (by have := V.int.inj z; omega))]; rfl]
        exact iteT (q _ sm2)
    | @nod a x1 y1 l1 r1 ea hl1 hr1 =>
      refine iteT ?_
      have e2 : (upd H1 l (.lst xs.reverse)) a = some (.tup [x1, y1]) := sm2 _ _ ea
      refine ⟨_, rfl, _, _, _, _, true, rfl, .ty "tuple", .base (.tup e2), rfl, true, rfl, iteF ?_⟩
      refine ⟨_, rfl, a, _, rfl, .inr (.of e2), rfl, _, rfl, iteF ?_⟩
      refine ⟨_, rfl, .inl ⟨rfl, _, .of upd_same⟩, _, rfl, a, _, _, y1, rfl, rfl, .of e2, atI_nat (j := 1) rfl, l, _, _, rfl, rfl, upd_same, ?_, ?_⟩
      · rw [List.length_reverse]
        rw [List.length_cons] at hlen
        exact small1000 (by omega)
      refine ⟨_, rfl, .inl ⟨rfl, _, .of upd_same⟩, _, rfl, a, _, _, x1, rfl, rfl, .of (by rw [upd_ne (ne_of_none ea hl)]; exact e2), atI_nat (xs := [x1, y1]) (j := 0) rfl, l, _, _, rfl, rfl, upd_same, ?_, ?_⟩
      · rw [List.length_append, List.length_reverse, List.length_singleton]
        rw [List.length_cons] at hlen
        have e1 : sizesT (Th.nod l1 r1 :: us) = (l1.size + 1 + r1.size) + sizesT us := rfl
        exact small1000 (by omega)
      rw [rev_push, rev_push]
      refine ⟨_, ?_, x1 :: y1 :: xs, l1 :: r1 :: us, n + 1, _, rfl, fun b o e => ?_, upd_same, .cons hl1 (.cons hr1 hxs), ?_, ?_, ?_, rfl⟩
      · show 2 * l1.size + 1 + (2 * r1.size + 1 + turnsT us) < 2 * (l1.size + 1 + r1.size) + 1 + turnsT us
        omega
      · rw [upd_ne (ne_of_none e hl), upd_ne (ne_of_none e hl)]
        exact sm2 b o e
      · have e1 : sizesT (Th.nod l1 r1 :: us) = (l1.size + 1 + r1.size) + sizesT us := rfl
        show n + 1 + (l1.size + (r1.size + sizesT us)) = t.size
        omega
      · rw [List.length_cons, List.length_cons]
        rw [List.length_cons] at hlen
        omega
      · rw [← good]
        show (l1.good && (r1.good && us.all Th.good)) = ((l1.good && r1.good) && us.all Th.good)
        rw [Bool.and_assoc]
end
end HSP
namespace HSP
open PySem PySem.Spec PyProof.Rows L2
/-- what raising a class without fields asks -/
structure Own0 (K : PySem.W.Frag) (mg : Str → Option Value) (x : Str) (C : Addr) : Prop where
  g : mg x = some (.ref C)
  q : PySem.W.excIn K C [.type "ValueError", .type "Exception", .type "BaseException", .type "object"] "ValueError.__new__" = true
  k : PySem.W.keepIn K (.ref C) = true
  b : PySem.W.subIn K (.ref C) (.type "BaseException") = some true
  t : PySem.W.typeIn K (.ref C) = some (.type "type")
section
variable {P : Program} {w : World} {K : PySem.W.Frag} {mg : Str → Option Value} {base : Heap}
/-! ### check_tree, of anything -/
theorem sc_chkTX : FnScope n_check_tree ["tree"] (defScope s_check_tree) := ⟨rfl, rfl, rfl, by decide +kernel, rfl, by decide +kernel, by decide +kernel⟩
def spChkTX (sp : Sp) (C : Addr) : Sp := fun vs H Q E => sp vs H (fun v H' => (v = .bl true ∧ Q .non H') ∨ (v = .bl false ∧ E (.ref C) none H')) (fun _ _ _ => False)
theorem ok_chkTX {C : Addr} (O : Own0 K mg "InvalidTree" C) {sp : Sp} {k : Nat} (len : ∀ vs H Q E, sp vs H Q E → vs.length = 1) (mono : ∀ vs H Q Q' E E', (∀ v H', Q v H' → Q' v H') → (∀ c d H', E c d H' → E' c d H') → sp vs H Q E → sp vs H Q' E') (Tr : Df P w K mg base "is_tree" k ["thing"] sp) (a : At K mg "check_tree" s_check_tree) : DfX P w K mg base "check_tree" (k + 1) ["tree"] (spChkTX sp C) := by
  refine DfX.mk' a sc_chkTX (fun vs H Q E h => len _ _ _ _ h) (fun _ _ _ _ _ _ us hl => match us, hl with | [_], _ => rfl) (fun f cdv A outer s H vs Q E hr h => ?_)
  have l1 := len _ _ _ _ h
  match vs, l1, h with
  | [y], _, h =>
  refine ⟨_, (pss_one (ps_if (pt_not (pt_val (pe_df Tr hr (pa_cons (pv 0) pa_nil)))) (pss_one (ps_raise rfl (takes_of rfl rfl rfl rfl) (pmk_own PySem.F.excBase_ValueError O.q O.g O.k (raises_own O.b O.t) rfl))) pss_nil)), ?_⟩
  refine ⟨_, rfl, mono _ _ _ _ _ _ (fun v H' q => ?_) (fun _ _ _ z => z.elim) h⟩
  rcases q with ⟨rfl, q⟩ | ⟨rfl, q⟩
  · exact ⟨true, rfl, iteF q⟩
  · exact ⟨false, rfl, iteT q⟩
end
end HSP
namespace HSP
open PySem PySem.Spec PyProof.Rows L2
/-! ### InvalidValues(node) -/
def clsBody : Stmt → List Stmt
  | .ClassDef (body := b) .. => b
  | _ => []
abbrev s_ivInit : Stmt := (clsBody (topS 2)).getD 0 (.Pass ⟨0, 0, 0, 0⟩)
abbrev n_ivInit : List Str := ["self", "node"]
section
variable {P : Program} {w : World} {K : PySem.W.Frag} {mg : Str → Option Value} {base : Heap}
theorem sc_ivInit : FnScope n_ivInit ["self", "node"] (defScope s_ivInit) := ⟨rfl, rfl, rfl, by decide +kernel, rfl, by decide +kernel, by decide +kernel⟩
def spIvInit (K : PySem.W.Frag) : Sp := fun vs H Q _ => ∃ (a C : Addr) (v : V), vs = [.ref a, v] ∧ OexC K C ∧ PySem.W.findIn K (.ref C) "node" = some none ∧ H a = some (exo a C none) ∧ ∀ dx, H dx = none → dx ≠ a → Q .non (upd (upd H dx (exd dx [("node", v)])) a (exo a C (some dx)))
theorem ok_ivInit {f : Addr} {fd : FuncData} (hv : mg "ValueError" = none) (vV : PySem.W.findCls K (.type "ValueError") (.type "type") "__init__" = some (.val (.builtin "ValueError.__init__"))) (F : Fun K "__init__" "InvalidValues.__init__" s_ivInit f fd) : FnOk P w K mg base CX0 1 f fd ["self", "node"] (spIvInit K) := by
  refine F.ok sc_ivInit (fun vs H Q E h => ?_) (fun cdv A outer s H vs Q E hr h => ?_)
  · obtain ⟨a, C, v, rfl, _⟩ := h
    rfl
  obtain ⟨a, C, v, rfl, T, no, e, q⟩ := h
  refine ⟨_, pss_cons (ps_expr (pe_veinit (by rfl) hv vV (pa_cons (pv 0) (pa_cons pe_str pa_nil)))) (pss_one (ps_ost (pv 0) (pv 1))), ?_⟩
  refine ⟨_, rfl, a, C, _, rfl, (by show 1 ≤ 1000; decide), T, e, ?_⟩
  exact ⟨_, rfl, _, rfl, a, C, rfl, T, no, .inl ⟨e, q⟩⟩
end
end HSP
namespace HSP
open PySem PySem.Spec PyProof.Rows L2
/-! ### check_row of anything -/
section
variable {P : Program} {w : World} {K : PySem.W.Frag} {mg : Str → Option Value} {base : Heap}
/-- whether a thing is a whole number -/
def WholeV (K : PySem.W.Frag) (H : Hp) (x : V) (b : Bool) : Prop := ∃ (t : Value) (b1 b2 : Bool), TyX K H x t ∧ PySem.W.kitOne K t (.type "int") = some b1 ∧ PySem.W.kitOne K t (.type "bool") = some b2 ∧ b = (b1 && !b2)
def spWholeX (K : PySem.W.Frag) : Sp := fun vs H Q _ => ∃ (x : V) (b : Bool), vs = [x] ∧ WholeV K H x b ∧ Q (.bl b) H
theorem sc_wholeX : FnScope n_is_whole ["thing"] (defScope s_is_whole) := ⟨rfl, rfl, rfl, by decide +kernel, rfl, by decide +kernel, by decide +kernel⟩
theorem ok_wholeX (B : Bl mg) (a : At K mg "is_whole" s_is_whole) : Df P w K mg base "is_whole" 1 ["thing"] (spWholeX K) := by
  refine Df.mk' a sc_wholeX (fun vs H Q E h => ?_) (fun _ _ _ _ _ _ us hl => match us, hl with | [_], _ => rfl) (fun f cdv A outer s H vs Q E hr h => ?_)
  · obtain ⟨x, b, rfl, _⟩ := h
    rfl
  obtain ⟨x, b, rfl, ⟨t, b1, b2, ty, k1, k2, rfl⟩, q⟩ := h
  refine ⟨_, (pss_one (ps_ret (pe_and (pe_callB call_isi (by rfl) B.isinstance (by decide +kernel) (pa_cons (pv 0) (pa_cons (pe_bltn (v := .ty "int") (by rfl) B.int (by decide +kernel) rfl) pa_nil))) (pe_one (pe_not (pe_callB call_isi (by rfl) B.isinstance (by decide +kernel) (pa_cons (pv 0) (pa_cons (pe_bltn (v := .ty "bool") (by rfl) B.bool (by decide +kernel) rfl) pa_nil)))))))), ?_⟩
  refine ⟨_, rfl, _, _, _, _, b1, rfl, .ty "int", ty, k1, ?_⟩
  cases b1 with
  | false => exact ⟨false, rfl, iteF q⟩
  | true =>
    refine ⟨true, rfl, iteT ?_⟩
    refine ⟨_, rfl, _, _, _, _, b2, rfl, .ty "bool", ty, k2, b2, rfl, ?_⟩
    exact q
theorem WholeV.same {H H' : Hp} {x : V} {b : Bool} (s : Same H H') (h : WholeV K H x b) : WholeV K H' x b := by
  obtain ⟨t, b1, b2, ty, k⟩ := h
  exact ⟨t, b1, b2, TyX.same s ty, k⟩
/-- what raising InvalidValues asks -/
structure Own1 (K : PySem.W.Frag) (mg : Str → Option Value) (C fI : Addr) (fd : FuncData) : Prop where
  g : mg "InvalidValues" = some (.ref C)
  T : OexC K C
  i : PySem.W.findIn K (.ref C) "__init__" = some (some (.ref fI))
  t : PySem.W.typeIn K (.ref fI) = some (.type "function")
  no : PySem.W.findIn K (.ref C) "node" = some none
  F : Fun K "__init__" "InvalidValues.__init__" s_ivInit fI fd
  b : Binds K fd ["self", "node"] []
  v : mg "ValueError" = none
  vV : PySem.W.findCls K (.type "ValueError") (.type "type") "__init__" = some (.val (.builtin "ValueError.__init__"))
def EN (C : Addr) (E : XK) (H : Hp) (v : V) : Prop := ∀ (H' : Hp) (dd : Addr), Same H H' → H' dd = some (.xd [("node", v)]) → E (.ref C) (some dd) H'
theorem EN.same {C : Addr} {E : XK} {H H1 : Hp} {v : V} (s : Same H H1) (h : EN C E H v) : EN C E H1 v := fun H' dd s' e => h H' dd (s.trans s') e
theorem mk_iv {C : Addr} (T : OexC K C) (no : PySem.W.findIn K (.ref C) "node" = some none) {E : XK} {H : Hp} {v : V} (h : ∀ (H' : Hp) (dd : Addr), Same H H' → H' dd = some (.xd [("node", v)]) → E (.ref C) (some dd) H') :
    [v].length ≤ 1000 ∧ ∀ a, H a = none → spIvInit K (.ref a :: ([v] ++ [])) (upd H a (exo a C none)) (fun x H2 => x = .non ∧ ∃ (d : Addr) (fs : List (Str × V)), H2 a = some (exo a C (some d)) ∧ H2 d = some (exd d fs) ∧ H d = none ∧ E (.ref C) (some d) (upd (del H2 a) d (.xd fs))) (fun _ _ _ => False) := by
  refine ⟨(by show 1 ≤ 1000; decide), fun a na => ⟨a, C, v, rfl, T, no, upd_same, fun dx nd ne => ?_⟩⟩
  rw [upd_ne ne] at nd
  refine ⟨rfl, dx, [("node", v)], upd_same, (upd_ne ne).trans upd_same, nd, h _ dx (fun b o e => ?_) upd_same⟩
  have b1 : b ≠ dx := fun z => by rw [z, nd] at e; cases e
  have b2 : b ≠ a := fun z => by rw [z, na] at e; cases e
  rw [upd_ne b1, del_ne b2, upd_ne b2, upd_ne b1, upd_ne b2]
  exact e
/-- what check_row finds -/
def RowX (K : PySem.W.Frag) (C2 : Addr) (y : V) (H : Hp) (Q : VK) (E : XK) : Prop :=
  (∃ t, TyX K H y t ∧ PySem.W.kitOne K t (.type "list") = some false ∧ EN C2 E H .non) ∨
    ∃ (a : Addr) (xs : List V) (n : Nat), y = .ref a ∧ H a = some (.lst xs) ∧ (∀ i x, i < n → xs[i]? = some x → WholeV K H x true) ∧
      ((n = xs.length ∧ ∀ H', Same H H' → Q .non H') ∨ ∃ x, xs[n]? = some x ∧ WholeV K H x false ∧ EN C2 E H (natV n))
def spChkRX (K : PySem.W.Frag) (C2 : Addr) : Sp := fun vs H Q E => ∃ y, vs = [y] ∧ RowX K C2 y H Q E
theorem RowX.same {C2 : Addr} {y : V} {H H1 : Hp} {Q : VK} {E : XK} (s : Same H H1) (h : RowX K C2 y H Q E) : RowX K C2 y H1 Q E := by
  rcases h with ⟨t, ty, k, e⟩ | ⟨a, xs, n, ey, ha, wh, q⟩
  · exact .inl ⟨t, TyX.same s ty, k, e.same s⟩
  · refine .inr ⟨a, xs, n, ey, s _ _ ha, fun i x h1 h2 => (wh i x h1 h2).same s, ?_⟩
    rcases q with ⟨e, q⟩ | ⟨x, ex, wx, q⟩
    · exact .inl ⟨e, fun H' s' => q H' (s.trans s')⟩
    · exact .inr ⟨x, ex, wx.same s, q.same s⟩
theorem RowX.mono {C2 : Addr} {y : V} {H : Hp} {Q Q' : VK} {E E' : XK} (hQ : ∀ v H', Q v H' → Q' v H') (hE : ∀ c d H', E c d H' → E' c d H') (h : RowX K C2 y H Q E) : RowX K C2 y H Q' E' := by
  rcases h with ⟨t, ty, k, e⟩ | ⟨a, xs, n, ey, ha, wh, q⟩
  · exact .inl ⟨t, ty, k, fun H' dd s e' => hE _ _ _ (e H' dd s e')⟩
  · refine .inr ⟨a, xs, n, ey, ha, wh, ?_⟩
    rcases q with ⟨e, q⟩ | ⟨x, ex, wx, q⟩
    · exact .inl ⟨e, fun H' s => hQ _ _ (q H' s)⟩
    · exact .inr ⟨x, ex, wx, fun H' dd s e' => hE _ _ _ (q H' dd s e')⟩
theorem sc_chkRX : FnScope n_check_row ["row"] (defScope s_check_row) := ⟨rfl, rfl, rfl, by decide +kernel, rfl, by decide +kernel, by decide +kernel⟩
theorem ok_chkRX {C2 fI : Addr} {fd : FuncData} (B : Bl mg) (O : Own1 K mg C2 fI fd) (Wh : Df P w K mg base "is_whole" 1 ["thing"] (spWholeX K)) (a : At K mg "check_row" s_check_row) : DfX P w K mg base "check_row" 3 ["row"] (spChkRX K C2) := by
  refine DfX.mk' a sc_chkRX (fun vs H Q E h => ?_) (fun _ _ _ _ _ _ us hl => match us, hl with | [_], _ => rfl) (fun f cdv A outer s H vs Q E hr h => ?_)
  · obtain ⟨y, rfl, _⟩ := h
    rfl
  obtain ⟨y, rfl, h⟩ := h
  refine ⟨_, (pss_cons (ps_if (pt_not (pt_val (pe_callB call_isi (by rfl) B.isinstance (by decide +kernel) (pa_cons (pv 0) (pa_cons (pe_bltn (v := .ty "list") (by rfl) B.list (by decide +kernel) rfl) pa_nil))))) (pss_one (ps_raise rfl (takes_of rfl rfl rfl rfl) (pmk_oex O.T O.i O.t (ok_ivInit O.v O.vV O.F) hr O.b .nil pass0 rfl O.g (pa_cons pe_non pa_nil)))) pss_nil)
 (pss_one (ps_for (passes_of rfl) rfl (pi_enum (by rfl) B.enumerate (pa_cons (pv 0) pa_nil)) (pg_tup rfl (pgs_cons (pg_name (i := 1) sc_chkRX.nd rfl (.inl rfl)) (pgs_cons (pg_name (i := 2) sc_chkRX.nd rfl (.inl rfl)) pgs_nil))) (pss_one (ps_if (pt_not (pt_val (pe_df Wh (hr.mono (by decide)) (pa_cons (pv 2) pa_nil)))) (pss_one (ps_raise rfl (takes_of rfl rfl rfl rfl) (pmk_oex O.T O.i O.t (ok_ivInit O.v O.vV O.F) hr O.b .nil pass0 rfl O.g (pa_cons (pv 1) pa_nil)))) pss_nil))))), ?_⟩
  rcases h with ⟨t, ty, k, q⟩ | ⟨a, xs, n, rfl, ha, wh, h⟩
  · refine ⟨_, rfl, _, _, _, _, false, rfl, .ty "list", ty, k, false, rfl, iteT ?_⟩
    exact mk_iv O.T O.no fun H' dd s e => q _ _ s e
  · refine ⟨_, rfl, _, _, _, _, true, rfl, .ty "list", .base (.lst ha), rfl, true, rfl, iteF ?_⟩
    refine ⟨.ref a, rfl, a, xs, rfl, .of ha, ?_⟩
    refine for_it (walk_enum (K := K) (a := a) (xs := xs)) (fun i σ H3 => Same H H3 ∧ i ≤ n ∧ ∃ y2 y3, σ = [some (.ref a), y2, y3]) ⟨Same.refl _, Nat.zero_le n, none, none, rfl⟩ (fun i σ H3 _ h3 => .of (h3.1 _ _ ha)) (fun i x σ H3 H4 hi h3 hy => ?_) (fun σ H3 h3 => ?_)
    · obtain ⟨s3, le, y2, y3, rfl⟩ := h3
      obtain ⟨p, x1, x2, rfl, np, rfl, ex1, ex2⟩ := hy
      cases (show some (V.int ((i : Nat) : Int)) = some x1 from ex1)
      have sT := Same.new (o := .tup [V.int ((i : Nat) : Int), x2]) np
      have s4 := s3.trans sT
      refine ⟨p, _, rfl, .of upd_same, rfl, _, _, rfl, _, [], rfl, rfl, ?_⟩
      by_cases c : i < n
      · refine ⟨_, rfl, x2, true, rfl, WholeV.same s4 (wh i x2 c ex2), true, rfl, iteF ?_⟩
        exact ⟨s4, by omega, _, _, rfl⟩
      · have e : i = n := by omega
        subst e
        rcases h with ⟨z, _⟩ | ⟨x, ex, wx, q⟩
        · omega
        · cases ex.symm.trans ex2
          refine ⟨_, rfl, _, false, rfl, WholeV.same s4 wx, false, rfl, iteT ?_⟩
          exact ⟨_, rfl, mk_iv O.T O.no fun H' dd s e => q _ _ (s4.trans s) e⟩
    · obtain ⟨s3, le, y2, y3, rfl⟩ := h3
      rcases h with ⟨_, q⟩ | ⟨x, ex, _⟩
      · exact q _ s3
      · have := (List.getElem?_eq_some_iff.mp ex).1
        omega
end
end HSP
namespace HSP
open PySem PySem.Spec PyProof.Rows L2
/-! ### check_values of anything -/
theorem ThAt.tree {K : PySem.W.Frag} {H : Hp} : ∀ {v : V} {t : Th}, ThAt K H v t → t.good = true → ∃ u : Tr, TrAt H v u ∧ u.size = t.size
  | _, _, .nil, _ => ⟨.nil, .nil, rfl⟩
  | _, _, .nod e h1 h2, g => by
    obtain ⟨g1, g2⟩ := Bool.and_eq_true_iff.mp g
    obtain ⟨u1, k1, z1⟩ := h1.tree g1
    obtain ⟨u2, k2, z2⟩ := h2.tree g2
    exact ⟨.nod u1 u2, .nod e k1 k2, by show u1.size + 1 + u2.size = _; rw [z1, z2]; rfl⟩
theorem ThAt.same {K : PySem.W.Frag} {H H' : Hp} (s : Same H H') : ∀ {v : V} {t : Th}, ThAt K H v t → ThAt K H' v t
  | _, _, .nil => .nil
  | _, _, .bad ⟨n, b⟩ => .bad ⟨n, b.elim (fun ⟨t, k, q⟩ => .inl ⟨t, TyX.same s k, q⟩) (fun ⟨a, xs, e, h, l⟩ => .inr ⟨a, xs, e, s _ _ h, l⟩)⟩
  | _, _, .nod e h1 h2 => .nod (s _ _ e) (h1.same s) (h2.same s)
section
variable {P : Program} {w : World} {K : PySem.W.Frag} {mg : Str → Option Value} {base : Heap}
def NotVals (K : PySem.W.Frag) (H : Hp) (y : V) (n : Nat) : Prop := (∃ t, TyX K H y t ∧ PySem.W.kitOne K t (.type "list") = some false) ∨ ∃ a xs, y = .ref a ∧ H a = some (.lst xs) ∧ xs.length ≠ n
def spChkVX (K : PySem.W.Frag) (C1 C2 : Addr) : Sp := fun vs H Q E => ∃ (v y : V) (t : Th), vs = [v, y] ∧ ThAt K H v t ∧ t.size ≤ 1000 ∧
  ((t.good = false ∧ ∀ H', Same H H' → E (.ref C1) none H') ∨ (t.good = true ∧ NotVals K H y t.size ∧ EN C2 E H .non) ∨
    (t.good = true ∧ ∃ (a : Addr) (xs : List V) (n : Nat), y = .ref a ∧ H a = some (.lst xs) ∧ xs.length = t.size ∧ (∀ i x, i < n → xs[i]? = some x → WholeV K H x true) ∧
      ((n = xs.length ∧ ∀ H', Same H H' → Q .non H') ∨ ∃ x, xs[n]? = some x ∧ WholeV K H x false ∧ EN C2 E H (natV n))))
theorem sc_chkVX : FnScope n_check_values ["tree", "values"] (defScope s_check_values) := ⟨rfl, rfl, rfl, by decide +kernel, rfl, by decide +kernel, by decide +kernel⟩
theorem ok_chkVX {C1 C2 fI : Addr} {fd : FuncData} (B : Bl mg) (O : Own1 K mg C2 fI fd) (Cr : DfX P w K mg base "check_row" 3 ["row"] (spChkRX K C2)) (Co : Df P w K mg base "count_nodes" 1 ["tree"] spCount) (Ct : DfX P w K mg base "check_tree" 2 ["tree"] (spChkTX (spTreeX K) C1)) (a : At K mg "check_values" s_check_values) : DfX P w K mg base "check_values" 4 ["tree", "values"] (spChkVX K C1 C2) := by
  refine DfX.mk' a sc_chkVX (fun vs H Q E h => ?_) (fun _ _ _ _ _ _ us hl => match us, hl with | [_, _], _ => rfl) (fun f cdv A outer s H vs Q E hr h => ?_)
  · obtain ⟨v, y, t, rfl, _⟩ := h
    rfl
  obtain ⟨v, y, t, rfl, ht, hz, h⟩ := h
  refine ⟨_, (pss_cons (ps_expr (pe_dfX Ct (hr.mono (by decide)) (takes_of rfl rfl rfl rfl) (pa_cons (pv 0) pa_nil)))
 (pss_cons (ps_if (PW.pt (pw_and (pt_val (pe_callB call_isi (by rfl) B.isinstance (by decide +kernel) (pa_cons (pv 1) (pa_cons (pe_bltn (v := .ty "list") (by rfl) B.list (by decide +kernel) rfl) pa_nil)))) (pw_and1 (pt_cmpR op_ne (pe_callB call_len_seq (by rfl) B.len PySem.boot_len (pa_cons (pv 1) pa_nil)) (pe_df Co (hr.mono (by decide)) (pa_cons (pv 0) pa_nil)) (nomark _))))) (pss_one (ps_raise rfl (takes_of rfl rfl rfl rfl) (pmk_oex O.T O.i O.t (ok_ivInit O.v O.vV O.F) (hr.mono (by decide)) O.b .nil pass0 rfl O.g (pa_cons pe_non pa_nil)))) pss_nil)
 (pss_one (ps_expr (pe_dfX Cr hr (takes_of rfl rfl rfl rfl) (pa_cons (pv 1) pa_nil)))))), ?_⟩
  refine ⟨v, rfl, v, t, rfl, ht, hz, fun H1 s1 => ?_⟩
  rcases h with ⟨g, q⟩ | ⟨g, nv, q⟩ | ⟨g, a, xs, n, rfl, ha, hl, wh, h⟩
  · exact .inr ⟨congrArg V.bl g, q _ s1⟩
  · refine .inl ⟨congrArg V.bl g, ?_⟩
    rcases nv with ⟨ty, k, no⟩ | ⟨a, xs, rfl, ha, ne⟩
    · refine ⟨_, rfl, _, _, _, _, false, rfl, .ty "list", TyX.same s1 k, no, false, rfl, iteF ?_⟩
      exact ⟨_, rfl, _, rfl, .inl ⟨_, TyX.same s1 k, no, EN.same s1 q⟩⟩
    · obtain ⟨u, hu, zu⟩ := ht.tree g
      refine ⟨_, rfl, _, _, _, _, true, rfl, .ty "list", .base (.lst (s1 _ _ ha)), rfl, true, rfl, iteT ?_⟩
      refine ⟨_, rfl, a, _, rfl, .inl (.of (s1 _ _ ha)), v, rfl, v, u, rfl, hu.same s1, by omega, fun H2 s2 => ⟨rfl, _, rfl, ?_⟩⟩
      rw [show (!decide (V.int ((xs.length : Nat) : Int) = V.int ((u.size : Nat) : Int))) = true by rw [decide_eq_false (fun z => ne (by have := V.int.inj z; omega))]; rfl]
      refine iteT ?_
      exact mk_iv O.T O.no fun H' dd s e => q _ _ (s1.trans (s2.trans s)) e
  · refine .inl ⟨congrArg V.bl g, ?_⟩
    obtain ⟨u, hu, zu⟩ := ht.tree g
    refine ⟨_, rfl, _, _, _, _, true, rfl, .ty "list", .base (.lst (s1 _ _ ha)), rfl, true, rfl, iteT ?_⟩
    refine ⟨_, rfl, a, _, rfl, .inl (.of (s1 _ _ ha)), v, rfl, v, u, rfl, hu.same s1, by omega, fun H2 s2 => ⟨rfl, _, rfl, ?_⟩⟩
    have s12 := s1.trans s2
    rw [show (!decide (V.int ((xs.length : Nat) : Int) = V.int ((u.size : Nat) : Int))) = false by rw [decide_eq_true (congrArg V.int (by omega))]; rfl]
    refine iteF ?_
    exact ⟨_, rfl, _, rfl, .inr ⟨a, xs, n, rfl, s12 _ _ ha, fun i x h1 h2 => WholeV.same s12 (wh i x h1 h2), h.elim (fun z => .inl ⟨z.1, fun H' s => z.2 H' (s12.trans s)⟩) (fun ⟨x, ex, wx, q⟩ => .inr ⟨x, ex, WholeV.same s12 wx, EN.same s12 q⟩)⟩⟩
end
end HSP
namespace HSP
open PySem PySem.Spec PyProof.Rows L2
/-- a promise that more wishes keep -/
def Mono (sp : Sp) : Prop := ∀ vs H Q Q' E E', (∀ v H', Q v H' → Q' v H') → (∀ c d H', E c d H' → E' c d H') → sp vs H Q E → sp vs H Q' E'
theorem mono_tree (K : PySem.W.Frag) : Mono (spTreeX K) := fun _ _ _ _ _ _ hQ _ ⟨v, t, e, h, z, q⟩ => ⟨v, t, e, h, z, fun H' s => hQ _ _ (q H' s)⟩
theorem mono_chkT {sp : Sp} (C : Addr) (m : Mono sp) : Mono (spChkTX sp C) := fun vs H Q Q' E E' hQ hE h => m _ _ _ _ _ _ (fun _ _ q => q.elim (fun x => .inl ⟨x.1, hQ _ _ x.2⟩) (fun x => .inr ⟨x.1, hE _ _ _ x.2⟩)) (fun _ _ _ z => z) h
theorem mono_chkV (K : PySem.W.Frag) (C1 C2 : Addr) : Mono (spChkVX K C1 C2) := fun vs H Q Q' E E' hQ hE ⟨v, y, t, e, h, z, w⟩ => by
  refine ⟨v, y, t, e, h, z, ?_⟩
  rcases w with ⟨g, q⟩ | ⟨g, nv, q⟩ | ⟨g, a, xs, n, ey, ha, hl, wh, q⟩
  · exact .inl ⟨g, fun H' s => hE _ _ _ (q H' s)⟩
  · exact .inr (.inl ⟨g, nv, fun H' dd s e => hE _ _ _ (q H' dd s e)⟩)
  · refine .inr (.inr ⟨g, a, xs, n, ey, ha, hl, wh, ?_⟩)
    rcases q with ⟨e, q⟩ | ⟨x, ex, wx, q⟩
    · exact .inl ⟨e, fun H' s => hQ _ _ (q H' s)⟩
    · exact .inr ⟨x, ex, wx, fun H' dd s e => hE _ _ _ (q H' dd s e)⟩
section
variable {P : Program} {w : World} {K : PySem.W.Frag} {mg : Str → Option Value} {base : Heap}
/-! ### check_both -/
def spBothX (sp : Sp) : Sp := fun vs H Q E => ∃ v y z : V, vs = [v, y, z] ∧ sp [v, y] H (fun _ H1 => sp [v, z] H1 (fun _ H2 => Q .non H2) E) E
theorem Mono.both {sp : Sp} (m : Mono sp) : Mono (spBothX sp) := fun vs H Q Q' E E' hQ hE ⟨v, y, z, e, h⟩ =>
  ⟨v, y, z, e, m _ _ _ _ _ _ (fun _ H1 q => m _ _ _ _ _ _ (fun _ H2 q2 => hQ _ _ q2) hE q) hE h⟩
end
end HSP
namespace HSP
open PySem PySem.Spec PyProof.Rows L2
/-! ## what a call raises for bad arguments -/
section
variable {K : PySem.W.Frag} {H : Hp}
theorem tr_th {v : V} {t : Tr} (h : TrAt H v t) : ∃ u : Th, ThAt K H v u ∧ u.good = true ∧ u.size = t.size := by
  induction h with
  | nil => exact ⟨.nil, .nil, rfl, rfl⟩
  | nod e _ _ i1 i2 =>
    obtain ⟨u1, h1, g1, z1⟩ := i1
    obtain ⟨u2, h2, g2, z2⟩ := i2
    refine ⟨.nod u1 u2, .nod e h1 h2, ?_, ?_⟩
    · show (u1.good && u2.good) = true
      rw [g1, g2]
      rfl
    · show u1.size + 1 + u2.size = _
      rw [z1, z2]
      rfl
theorem whole_int {i : Int} : WholeV K H (.int i) true := ⟨.type "int", true, false, .base (.int i), kit_ty (by decide +kernel), kit_ty (by decide +kernel), rfl⟩
theorem whole_ints {ns : List Int} {n : Nat} : ∀ i x, i < n → (ns.map V.int)[i]? = some x → WholeV K H x true := fun i x _ h => by
  rw [List.getElem?_map] at h
  obtain ⟨z, _, rfl⟩ := Option.map_eq_some_iff.mp h
  exact whole_int
theorem not_none {n : Nat} : NotVals K H .non n := .inl ⟨.type "NoneType", .base .non, kit_ty (by decide +kernel)⟩
theorem not_long {a : Addr} {xs : List V} {n : Nat} (e : H a = some (.lst xs)) (ne : xs.length ≠ n) : NotVals K H (.ref a) n := .inr ⟨a, xs, rfl, e, ne⟩
/-- the values are wrong as a whole -/
theorem vals_none {C1 C2 : Addr} {v y : V} {t : Tr} {Q : VK} {E : XK} (h : TrAt H v t) (z : t.size ≤ 1000) (n : NotVals K H y t.size) (e : EN C2 E H .non) : spChkVX K C1 C2 [v, y] H Q E := by
  obtain ⟨u, hu, gu, zu⟩ := tr_th (K := K) h
  exact ⟨v, y, u, rfl, hu, by omega, .inr (.inl ⟨gu, by rw [zu]; exact n, e⟩)⟩
/-- the tree is none -/
theorem vals_tree {C1 C2 : Addr} {v y : V} {Q : VK} {E : XK} (b : BadV K H v) (e : ∀ H', Same H H' → E (.ref C1) none H') : spChkVX K C1 C2 [v, y] H Q E :=
  ⟨v, y, .bad, rfl, .bad b, Nat.zero_le _, .inl ⟨rfl, e⟩⟩
/-- good values -/
theorem vals_good {C1 C2 : Addr} {v : V} {a : Addr} {ns : List Int} {t : Tr} {Q : VK} {E : XK} (h : TrAt H v t) (z : t.size ≤ 1000) (ea : H a = some (.lst (ns.map V.int))) (hn : ns.length = t.size) (q : ∀ H', Same H H' → Q .non H') : spChkVX K C1 C2 [v, .ref a] H Q E := by
  obtain ⟨u, hu, gu, zu⟩ := tr_th (K := K) h
  exact ⟨v, .ref a, u, rfl, hu, by omega, .inr (.inr ⟨gu, a, ns.map V.int, (ns.map V.int).length, rfl, ea, by rw [List.length_map]; omega, whole_ints, .inl ⟨rfl, q⟩⟩)⟩
/-- the first wrong item -/
theorem vals_node {C1 C2 : Addr} {v x : V} {a : Addr} {ns : List Int} {r : List V} {t : Tr} {Q : VK} {E : XK} (h : TrAt H v t) (z : t.size ≤ 1000) (ea : H a = some (.lst (ns.map V.int ++ x :: r))) (hn : ns.length + 1 + r.length = t.size) (wx : WholeV K H x false) (e : EN C2 E H (natV ns.length)) : spChkVX K C1 C2 [v, .ref a] H Q E := by
  obtain ⟨u, hu, gu, zu⟩ := tr_th (K := K) h
  refine ⟨v, .ref a, u, rfl, hu, by omega, .inr (.inr ⟨gu, a, _, ns.length, rfl, ea, by rw [List.length_append, List.length_map, List.length_cons]; omega, fun i y hi hy => ?_, .inr ⟨x, ?_, wx, e⟩⟩)⟩
  · rw [List.getElem?_append_left (by rw [List.length_map]; exact hi)] at hy
    exact whole_ints (n := ns.length) i y hi hy
  · rw [List.getElem?_append_right (by rw [List.length_map]; exact Nat.le_refl _), List.length_map, Nat.sub_self]
    rfl
theorem whole_bool {b : Bool} : WholeV K H (.bl b) false := ⟨.type "bool", true, true, .base (.bl b), kit_ty (by decide +kernel), kit_ty (by decide +kernel), rfl⟩
/-- a tuple of one -/
theorem bad_tup {a : Addr} {xs : List V} (e : H a = some (.tup xs)) (ne : xs.length ≠ 2) : BadV K H (.ref a) := ⟨fun z => (by cases z), .inr ⟨a, xs, rfl, e, ne⟩⟩
theorem e_tree {C1 : Addr} : ∀ H', Same H H' → ETree C1 H (.ref C1) none H' := fun _ s => ⟨rfl, rfl, s⟩
theorem e_node {C2 : Addr} {v : V} : EN C2 (ENode C2 H v) H v := fun _ dd s e => ⟨rfl, dd, rfl, e, s⟩
theorem e_node2 {C2 : Addr} {v : V} {H1 : Hp} (s1 : Same H H1) : EN C2 (ENode C2 H v) H1 v := fun _ dd s e => ⟨rfl, dd, rfl, e, s1.trans s⟩
end
end HSP
namespace HSP
open PySem PySem.Spec PyProof.Rows L2
section
variable {P : Program} {w : World} {K : PySem.W.Frag} {mg : Str → Option Value} {base : Heap}
/-! ### count_alike, where it raises -/
theorem sc_countX : FnScope n_count_alike ["tree", "values", "least", "most"] (defScope s_count_alike) := ⟨rfl, rfl, rfl, by decide +kernel, rfl, by decide +kernel, by decide +kernel⟩
def spCntX (sp : Sp) : Sp := fun vs H _ E => ∃ v y z1 z2 : V, vs = [v, y, z1, z2] ∧ sp [v, y] H (fun _ _ => False) E
theorem ok_countX {sp : Sp} {k : Nat} (mono : Mono sp) (Cv : DfX P w K mg base "check_values" k ["tree", "values"] sp) (a : At K mg "count_alike" s_count_alike) : DfX P w K mg base "count_alike" (k + 1) ["tree", "values", "least", "most"] (spCntX sp) := by
  refine DfX.mk' a sc_countX (fun vs H Q E h => ?_) (fun _ _ _ _ _ _ us hl => match us, hl with | [_, _, _, _], _ => rfl) (fun f cdv A outer s H vs Q E hr h => ?_)
  · obtain ⟨_, _, _, _, rfl, _⟩ := h
    rfl
  obtain ⟨v, y, z1, z2, rfl, h⟩ := h
  refine ⟨_, (pss_cons (ps_expr (pe_dfX Cv hr (takes_of rfl rfl rfl rfl) (pa_cons (pv 0) (pa_cons (pv 1) pa_nil)))) (pss_cons ps_never (pss_cons ps_never (pss_one ps_never)))), ?_⟩
  refine ⟨_, rfl, _, rfl, mono _ _ _ _ _ _ (fun _ _ q => q.elim) (fun _ _ _ e => e) h⟩
theorem mono_cnt {sp : Sp} (m : Mono sp) : Mono (spCntX sp) := fun _ _ _ _ _ _ _ hE h => by
  obtain ⟨v, y, z1, z2, e, h⟩ := h
  exact ⟨v, y, z1, z2, e, m _ _ _ _ _ _ (fun _ _ q => q) hE h⟩
/-! ### _law_kept -/
def spKept2 (sp : Sp) (C1 C2 : Addr) : Sp := fun vs H Q _ => ∃ v y : V, vs = [v, y] ∧
  ((sp [v, y, .int 0, .int 1] H (fun _ _ => False) (ETree C1 H) ∧ ∀ H', Same H H' → Q (.str "tree") H') ∨
  ∃ (x : V) (z : Str), KeptV x z ∧ sp [v, y, .int 0, .int 1] H (fun _ _ => False) (ENode C2 H x) ∧ ∀ H', Same H H' → Q (.str z) H')
theorem sc_law_keptC : FnScope n_law_kept p_law_kept (defScope s_law_kept) := ⟨rfl, rfl, rfl, by decide +kernel, rfl, by decide +kernel, by decide +kernel⟩
theorem ok_keptC (B : Bl mg) (Rp : mg "repr" = none) {C1 C2 : Addr} (T : Two K mg C1 C2) {sp : Sp} (mono : ∀ vs H Q Q' E E', (∀ v H', Q v H' → Q' v H') → (∀ c d H', E c d H' → E' c d H') → sp vs H Q E → sp vs H Q' E') {k : Nat}
    (Al : DfX P w K mg base "count_alike" k ["tree", "values", "least", "most"] sp) (a : At K mg "_law_kept" s_law_kept) : Df P w K mg base "_law_kept" (k + 1) ["a_tree", "a_values"] (spKept2 sp C1 C2) := by
  obtain ⟨g1, g2, x1, x2, e1, e2, f2, n2, k1, k2⟩ := T
  refine Df.mk' a sc_law_keptC (fun vs H Q E h => ?_) (fun _ _ _ _ _ _ us hl => match us, hl with | [_, _], _ => rfl) (fun f cdv A outer s H vs Q E hr h => ?_)
  · obtain ⟨v, y, rfl, _⟩ := h
    rfl
  obtain ⟨y1, y2, rfl, h⟩ := h
  refine ⟨_, (pss_cons (ps_set (i := 2) sc_law_keptC.nd rfl (.inl rfl) pe_non)
 (pss_cons (ps_try_keep2 (i := 3) rfl rfl sc_law_keptC.nd rfl rfl ⟨rfl, by decide, .inl g1⟩ ⟨rfl, by decide, .inl g2⟩ takes0 (fun W pn xe tk _ => (pss_one (ps_expr (pe_dfX Al hr tk (pa_cons (pv 0) (pa_cons (pv 1) (pa_cons pe_int (pa_cons pe_int pa_nil)))))))) (fun e pn => (pss_one (ps_set (i := 2) sc_law_keptC.nd rfl (.inl rfl) (pv 3)))))
 (pss_cons (ps_if (pt_cmpR op_isN (pv 2) pe_non (nomark _)) (pss_one (ps_ret pe_str)) pss_nil)
 (pss_one (ps_ret (pe_ifExp (pt_val (pe_callB call_isK (by rfl) B.isinstance (by decide +kernel) (pa_cons (pv 2) (pa_cons (pe_glob (v := .ref C2) rfl g2 rfl) pa_nil)))) (pe_callB cr_reprS (by rfl) Rp (by decide +kernel) (pa_cons (pe_xfK (pv 2)) pa_nil)) pe_str)))))), ?_⟩
  rcases h with ⟨h, q⟩ | ⟨v, z, hv, h, q⟩
  · refine ⟨_, rfl, _, rfl, mono _ _ _ _ _ _ (fun v H' f => f.elim) (fun cls d H' hE => ?_) h⟩
    obtain ⟨rfl, rfl, s1⟩ := hE
    refine ⟨true, x1, fun _ e ne => ?_, fun z => nomatch z⟩
    have se := Same.new (o := exK (.ref C1) none e) ne
    refine ⟨_, rfl, ?_⟩
    refine ⟨_, rfl, rfl, _, rfl, iteF ?_⟩
    refine ⟨_, rfl, e, C1, _, _, false, rfl, ⟨none, upd_same, fun dd z => nomatch z⟩, e1, fun u h => h, k1, ?_⟩
    exact ⟨_, rfl, iteF (q _ (s1.trans se))⟩
  · refine ⟨_, rfl, _, rfl, mono _ _ _ _ _ _ (fun v H' f => f.elim) (fun cls d H' hE => ?_) h⟩
    obtain ⟨rfl, dd, rfl, own, s1⟩ := hE
    refine ⟨true, x2, fun _ e ne => ?_, fun z => nomatch z⟩
    have se := Same.new (o := exK (.ref C2) (some dd) e) ne
    refine ⟨_, rfl, ?_⟩
    refine ⟨_, rfl, rfl, _, rfl, iteF ?_⟩
    refine ⟨_, rfl, e, C2, _, _, true, rfl, ⟨some dd, upd_same, fun d2 z => ⟨_, by cases z; exact se _ _ own⟩⟩, e2, fun u h => h, k2, ?_⟩
    refine ⟨_, rfl, iteT ⟨_, rfl, e, C2, dd, _, v, rfl, upd_same, f2, n2, se _ _ own, rfl, ?_⟩⟩
    rcases hv with ⟨rfl, rfl⟩ | ⟨i, rfl, hi, rfl⟩
    · exact .inl ⟨rfl, q _ (s1.trans se)⟩
    · exact .inr ⟨_, rfl, Nat.lt_of_le_of_lt (Nat.log2_le_self _) (by omega), q _ (s1.trans se)⟩
end
end HSP
namespace HSP
open PySem PySem.Spec PyProof.Rows L2
/-! ## classes of errors: what the top tells of them -/
structure ClsT (K : PySem.W.Frag) (C : Addr) : Prop where
  k : PySem.W.keepIn K (.ref C) = true
  b : PySem.W.subIn K (.ref C) (.type "BaseException") = some true
  t : PySem.W.typeIn K (.ref C) = some (.type "type")
  c : ∃ q, PySem.W.clsIn K C = some q
  a : PySem.W.findIn K (.ref C) "__getattribute__" = some (some (.builtin "BaseException.__getattribute__"))
  g : PySem.W.findIn K (.ref C) "__getattr__" = some none
  d : PySem.W.hasDictIn K C = true
  l : PySem.W.findIn K (.ref C) "__class__" = some (some (.builtin "object.__class__"))
  n : PySem.W.specialIn K (.builtin "object.__class__") "__get__" = some (some (.builtin "getset_descriptor.__get__"))
  h : PySem.W.takesIn K (.builtin "object.__class__") = some true
  m : PySem.W.mroIn K C (.type "object") = some true
section
variable {K : PySem.W.Frag} {C C1 C2 : Addr} {b : Bool}
theorem ClsT.exc (T : ClsT K C) : ExcC K C := ⟨T.a, T.g, T.b, T.d, T.l, T.n, T.h, T.m⟩
theorem ClsT.xf (T : ClsT K C) : XfC K C := ⟨T.a, T.g, T.b, T.d⟩
theorem kit_sub {t : Value} (T2 : ClsT K C2) (s : PySem.W.subIn K t (.ref C2) = some b) : PySem.W.kitCls K t (.ref C2) = some b := by
  obtain ⟨q, e⟩ := T2.c
  show (if ((PySem.W.clsIn K C2).isSome && PySem.W.typeIn K (.ref C2) == some (.type "type")) = true then PySem.W.subIn K t (.ref C2) else none) = some b
  rw [if_pos, s]
  rw [e, T2.t]
  rfl
theorem kit_cls (T2 : ClsT K C2) (ne : (Value.ref C1 == Value.ref C2) = false) (s : PySem.W.subIn K (.ref C1) (.ref C2) = some b) : PySem.W.kitOne K (.ref C1) (.ref C2) = some b := by
  unfold PySem.W.kitOne
  rw [ne, if_neg Bool.false_ne_true]
  exact kit_sub T2 s
theorem kit_self : PySem.W.kitOne K (.ref C) (.ref C) = some true := by
  unfold PySem.W.kitOne
  rw [if_pos (beq_self_eq_true _)]
theorem exm_cls {t : Value} (T2 : ClsT K C2) (s : PySem.W.subIn K t (.ref C2) = some b) : PySem.W.exmOne K t (.ref C2) = some b := by
  unfold PySem.W.exmOne
  rw [if_pos (by rw [T2.b]; rfl)]
  exact kit_sub T2 s
theorem exm_two {t c1 c2 : Value} {b1 b2 : Bool} (h1 : PySem.W.exmOne K t c1 = some b1) (h2 : PySem.W.exmOne K t c2 = some b2) : PySem.W.exmAny K t [c1, c2] = some (b1 || (b2 || false)) := by
  simp only [PySem.W.exmAny, h1, h2]
theorem two_mk {mg : Str → Option Value} (g1 : mg "InvalidTree" = some (.ref C1)) (g2 : mg "InvalidValues" = some (.ref C2)) (T1 : ClsT K C1) (T2 : ClsT K C2) (s11 : PySem.W.subIn K (.ref C1) (.ref C1) = some true) (s12 : PySem.W.subIn K (.ref C1) (.ref C2) = some false) (s21 : PySem.W.subIn K (.ref C2) (.ref C1) = some false) (s22 : PySem.W.subIn K (.ref C2) (.ref C2) = some true)
    (ne : (Value.ref C1 == Value.ref C2) = false) (n2 : PySem.W.findIn K (.ref C2) "node" = some none) : Two K mg C1 C2 :=
  ⟨g1, g2, exm_two (exm_cls T1 s11) (exm_cls T2 s12), exm_two (exm_cls T1 s21) (exm_cls T2 s22), T1.exc, T2.exc, T2.xf, n2, kit_cls T2 ne s12, kit_self⟩
theorem own0_mk {mg : Str → Option Value} {x : Str} (g : mg x = some (.ref C)) (T : ClsT K C) (q : PySem.W.excIn K C [.type "ValueError", .type "Exception", .type "BaseException", .type "object"] "ValueError.__new__" = true) : Own0 K mg x C := ⟨g, q, T.k, T.b, T.t⟩
end
end HSP
namespace HSP
open PySem PySem.Spec PyProof.Rows L2
theorem DrAt.other {H H' : Hp} {p r : Addr} {k : Nat} (d : DrAt H p k) (s : Keep r H H') (n : p ≠ r) : DrAt H' p k := by
  obtain ⟨m, j, b, e, h⟩ := d
  exact ⟨m, j, b, s _ _ n e, h⟩
def wideV : Int := 2 * (10 : Int) ^ (19 : Int).toNat
section
variable {P : Program} {w : World} {K : PySem.W.Frag} {mg : Str → Option Value} {base : Heap}
/-! ### law -/
theorem sc_law : FnScope n_law ["script"] (defScope s_law) := ⟨rfl, rfl, rfl, by decide +kernel, rfl, by decide +kernel, by decide +kernel⟩
def spLaw (K : PySem.W.Frag) : Sp := fun vs H Q _ => ∃ (a : Addr) (ns : List Int), vs = [.ref a] ∧ SqL K H a (ns.map V.int) ∧ ns.length ≤ 63 ∧ ∀ H', Q (.bl true) H'
theorem ok_law {C1 C2 : Addr} {f : Addr} {fd : FuncData} (B : Bl mg) (F : Fun K "law" "law" s_law f fd) (D : Df P w K mg base "_law_draws" 1 ["cell"] spDraws) (Sm : DfG P w K mg base "_law_small_right" 16 ["draws"] spRight) (Gr : DfG P w K mg base "_law_great_right" 12 ["draws"] spRight)
    (Kp : Df P w K mg base "_law_kept" 6 ["a_tree", "a_values"] (spKept2 (spCntX (spChkVX K C1 C2)) C1 C2)) (Ca : Df P w K mg base "count_alike" 5 ["tree", "values", "least", "most"] spCountAlike) : FnG P w K mg base CX0 17 f fd ["script"] (spLaw K) := by
  refine FnG.mk' F sc_law (fun vs H Q E h => ?_) (fun cdv A outer s H vs Q E hg hr h => ?_)
  · obtain ⟨a, ns, rfl, _⟩ := h
    rfl
  obtain ⟨a, ns, rfl, hS, h63, q⟩ := h
  refine ⟨_, PSs.nox (pss_cons (ps_for PassesOwn.never rfl (pi_list (pe_lc (own := [("cell", 2)]) (g := (gName 2)) (tt := tYes) (by rfl) sc_law.nd (pi_list (pe_op op_cat (pe_slice sl_list (pv 0) po_none (po_some pe_int)) (pe_lst (pa_cons pe_int pa_nil)))) (blkOk_by (N := n_law) (sc := defScope s_law) (by decide +kernel)) (fun _ _ _ _ _ => (pg_name (i := 2) sc_law.nd rfl (.inl rfl))) (fun _ _ _ _ _ => pts_nil) (fun _ _ _ _ _ => (pe_df D (hr.mono (by decide)) (pa_cons (pv 2) pa_nil))))) (pg_name (i := 1) sc_law.nd rfl (.inl rfl)) (pss_one (ps_if (PW.pt (pw_or (pt_not (pt_val (pe_dfG Sm hg hr (pa_cons (pv 1) pa_nil)))) (pw_or1 (pt_not (pt_val (pe_dfG Gr hg (hr.mono (by decide)) (pa_cons (pv 1) pa_nil))))))) (pss_one (ps_ret pe_bl)) pss_nil)))
 (pss_cons (ps_if (PW.pt (pw_or (pt_cmpR op_ne (pe_df Kp (hr.mono (by decide)) (pa_cons (pe_tup (pa_cons pe_non pa_nil)) (pa_cons pe_non pa_nil))) pe_str (nomark _)) (pw_or (pt_cmpR op_ne (pe_df Kp (hr.mono (by decide)) (pa_cons pe_non (pa_cons (pe_lst (pa_cons pe_int pa_nil)) pa_nil))) pe_str (nomark _)) (pw_or1 (pt_cmpR op_ne (pe_df Kp (hr.mono (by decide)) (pa_cons (pe_tup (pa_cons pe_non (pa_cons pe_non pa_nil))) (pa_cons (pe_lst (pa_cons pe_bl pa_nil)) pa_nil))) pe_str (nomark _)))))) (pss_one (ps_ret pe_bl)) pss_nil)
 (pss_cons (ps_if (pt_cmpR op_ne (pe_df Ca (hr.mono (by decide)) (pa_cons (pe_tup (pa_cons pe_non (pa_cons (pe_tup (pa_cons pe_non (pa_cons pe_non pa_nil))) pa_nil))) (pa_cons (pe_lst (pa_cons (pe_op op_mul pe_int (pe_op op_pow pe_int pe_int)) (pa_cons pe_int pa_nil))) (pa_cons pe_int (pa_cons (pe_op op_mul pe_int (pe_op op_pow pe_int pe_int)) pa_nil))))) (pe_op op_add (pe_op op_mul pe_int (pe_op op_pow pe_int pe_int)) pe_int) (nomark _)) (pss_one (ps_ret pe_bl)) pss_nil)
 (pss_one (ps_ret (pe_and (pe_cmpR op_eq (pe_df Ca (hr.mono (by decide)) (pa_cons (pe_tup (pa_cons pe_non (pa_cons pe_non pa_nil))) (pa_cons (pe_lst (pa_cons pe_int pa_nil)) (pa_cons pe_int (pa_cons pe_int pa_nil))))) pe_int (nomark _)) (pe_one (pe_cmpR op_eq (pe_df Ca (hr.mono (by decide)) (pa_cons pe_non (pa_cons (pe_lst pa_nil) (pa_cons pe_int (pa_cons pe_int pa_nil))))) pe_int (nomark _))))))))), ?_⟩
  refine ⟨_, rfl, 6, rfl, a, _, rfl, hS, fun c1 hc1 => ?_⟩
  refine ⟨(by show 1 ≤ sizeLine; decide), fun c2 hc2 => ?_⟩
  have s1 := Same.new (o := .lst (cutV (ns.map V.int) none (some 6))) hc1
  have s2 := Same.new (o := .lst [V.int 0]) hc2
  have zl := cutV_length (ns.map V.int) none (some 6)
  rw [List.length_map] at zl
  refine ⟨c1, c2, _, _, rfl, rfl, s2 _ _ upd_same, upd_same, ?_, fun C hC => ?_⟩
  · show _ + 1 ≤ sizeLine
    exact Nat.le_of_lt (small1000 (by omega))
  have cells : ∀ x, x ∈ cutV (ns.map V.int) none (some 6) ++ [V.int 0] → ∃ z, x = V.int z := fun x hx => by
    rcases List.mem_append.mp hx with hx | hx
    · have h1 := List.mem_of_mem_take hx
      have h2 := List.mem_of_mem_drop h1
      obtain ⟨z, _, rfl⟩ := List.mem_map.mp h2
      exact ⟨z, rfl⟩
    · exact ⟨0, List.mem_singleton.mp hx⟩
  have few : (cutV (ns.map V.int) none (some 6) ++ [V.int 0]).length ≤ 64 := by
    rw [List.length_append, List.length_singleton]
    omega
  have eC : (upd (upd (upd H c1 (.lst (cutV (ns.map V.int) none (some 6)))) c2 (.lst [V.int 0])) C (.lst (cutV (ns.map V.int) none (some 6) ++ [V.int 0]))) C = some (.lst (cutV (ns.map V.int) none (some 6) ++ [V.int 0])) := upd_same
  generalize cutV (ns.map V.int) none (some 6) ++ [V.int 0] = xs at cells few eC ⊢
  generalize upd (upd (upd H c1 (.lst (cutV (ns.map V.int) none (some 6)))) c2 (.lst [V.int 0])) C (.lst xs) = H1 at eC ⊢
  refine ⟨C, rfl, ⟨_, .of eC⟩, fun M hM => ?_⟩
  refine lc_list (xs := xs) (fun i H' => ∃ ps : List Addr, Same H1 H' ∧ H' M = some (.lst (ps.map V.ref)) ∧ ps.length = i ∧ (∀ p, p ∈ ps → DrAt H' p 0 ∧ p ≠ M) ∧ ps.Nodup) ⟨[], Same.new hM, upd_same, rfl, fun p h => (by cases h), List.nodup_nil⟩ (fun i H2 _ h2 => ?_) (fun i x H2 hx h2 => ?_) (fun H2 h2 => ?_)
  · obtain ⟨_, s2, _⟩ := h2
    exact .of (s2 _ _ eC)
  · obtain ⟨ps, s2, e2, l2, hp, nd⟩ := h2
    obtain ⟨z, rfl⟩ := cells x (List.mem_of_getElem? hx)
    have hi : i < xs.length := (List.getElem?_eq_some_iff.mp hx).1
    refine ⟨rfl, ?_⟩
    refine ⟨_, rfl, z, rfl, fun H3 p s3 np d3 => ?_⟩
    have nMp : M ≠ p := ne_of_none e2 np
    refine ⟨_, s3 _ _ e2, ?_, ps ++ [p], fun b o e => ?_, ?_, ?_, fun r hr2 => ?_, ?_⟩
    · rw [List.length_map]
      exact small1000 (by omega)
    · rw [upd_ne (ne_of_none e hM)]
      exact s3 _ _ (s2 _ _ e)
    · rw [upd_same, List.map_append]
      rfl
    · rw [List.length_append, List.length_singleton, l2]
    · rcases List.mem_append.mp hr2 with q2 | q2
      · exact ⟨((hp r q2).1.same s3).put (hp r q2).2.symm, (hp r q2).2⟩
      · rw [List.mem_singleton.mp q2]
        exact ⟨d3.put nMp, nMp.symm⟩
    · refine List.nodup_append.mpr ⟨nd, List.nodup_cons.mpr ⟨List.not_mem_nil, List.nodup_nil⟩, fun x hx y hy => ?_⟩
      rw [List.mem_singleton.mp hy]
      exact ((hp x hx).1.ne np).symm
  obtain ⟨ps, s2, eM, lps, hp, nd⟩ := h2
  refine ⟨M, rfl, ⟨_, .of eM⟩, for_list (xs := ps.map V.ref) (fun i σ H' => ∃ y1 y2 : Option V, σ = [some (.ref a), y1, y2] ∧ H' M = some (.lst (ps.map V.ref)) ∧ ∀ (j : Nat) (p : Addr), i ≤ j → ps[j]? = some p → DrAt H' p 0) ⟨_, _, rfl, eM, fun j p _ e => (hp p (List.mem_of_getElem? e)).1⟩ (fun i σ H3 _ h3 => ?_) (fun i x σ H3 hx h3 => ?_) (fun σ H3 h3 => ?_)⟩
  · obtain ⟨_, _, _, e3, _⟩ := h3
    exact .of e3
  · obtain ⟨y1, y2, rfl, e3, d3⟩ := h3
    rw [List.getElem?_map] at hx
    obtain ⟨p, hpi, rfl⟩ := Option.map_eq_some_iff.mp hx
    have npM := (hp p (List.mem_of_getElem? hpi)).2
    have hi := (List.getElem?_eq_some_iff.mp hpi).1
    have other : ∀ (j : Nat) (r : Addr), i < j → ps[j]? = some r → r ≠ p := fun j r hj e z => by
      have hj2 := (List.getElem?_eq_some_iff.mp e).1
      have a1 := (List.getElem?_eq_some_iff.mp hpi).2
      have a2 := (List.getElem?_eq_some_iff.mp e).2
      exact absurd ((List.getElem_inj nd).mp ((a1.trans z.symm).trans a2.symm)) (by omega)
    refine ⟨_, rfl, p, 0, rfl, d3 i p (Nat.le_refl _) hpi, by omega, fun H5 k5 d5 => ⟨true, rfl, iteF ?_⟩⟩
    refine ⟨_, rfl, p, 200, rfl, d5, by omega, fun H6 k6 d6 => ⟨true, rfl, iteF ?_⟩⟩
    exact ⟨_, _, rfl, k6 _ _ npM.symm (k5 _ _ npM.symm e3), fun j r hj e => ((d3 j r (by omega) e).other k5 (other j r hj e)).other k6 (other j r hj e)⟩
  obtain ⟨y1, y2, rfl, _, _⟩ := h3
  clear hS h63 eC cells few eM s2 lps hp nd hM hC hc1 hc2 s1 zl
  have zero : 0 ≤ sizeLine := by show 0 ≤ sizeLine; decide
  have one : 1 ≤ sizeLine := by show 1 ≤ sizeLine; decide
  have two : 2 ≤ sizeLine := by show 2 ≤ sizeLine; decide
  -- what is refused
  refine ⟨one, fun T1 hT1 => ⟨.ref T1, .non, rfl, .inl ⟨⟨_, _, _, _, rfl, vals_tree (bad_tup upd_same (by decide)) e_tree⟩, fun H4 _ => ⟨rfl, _, rfl, ?_⟩⟩⟩⟩
  rw [decide_eq_true (show V.str "tree" = V.str "tree" from rfl)]
  refine iteF ?_
  refine ⟨one, fun L1 hL1 => ⟨.non, .ref L1, rfl, .inr ⟨.non, _, .inl ⟨rfl, rfl⟩, ⟨_, _, _, _, rfl, vals_none .nil (by decide) (not_long upd_same (by decide)) e_node⟩, fun H5 _ => ⟨rfl, _, rfl, ?_⟩⟩⟩⟩
  rw [decide_eq_true (show V.str (Str.ofString "None") = V.str (Str.ofString "None") from rfl)]
  refine iteF ?_
  refine ⟨two, fun T2 hT2 => ⟨one, fun L2 hL2 => ⟨.ref T2, .ref L2, rfl, .inr ⟨natV 0, _, .inr ⟨0, rfl, by decide, rfl⟩, ⟨_, _, _, _, rfl, vals_node (ns := []) (r := []) (t := .nod .nil .nil) (.nod (Same.new hL2 _ _ upd_same) .nil .nil) (by decide) upd_same rfl whole_bool e_node⟩, fun H6 _ => ⟨rfl, _, rfl, ?_⟩⟩⟩⟩⟩
  rw [decide_eq_true (show V.str (Str.ofString (toString (((0 : Nat) : Int)))) = V.str (Str.ofString "0") by decide +kernel)]
  refine iteF ?_
  -- great numbers
  refine ⟨two, fun T3 hT3 => ⟨two, fun T4 hT4 => ⟨_, _, rfl, rfl, ⟨by decide, by decide, by decide⟩, _, _, rfl, rfl, .inl ⟨by decide, by decide⟩, two, fun L3 hL3 => ?_⟩⟩⟩
  have s34 := Same.new (o := .tup [V.non, V.ref T3]) hT4
  have s4L := Same.new (o := .lst [V.int wideV, V.int 5]) hL3
  refine ⟨_, _, rfl, rfl, ⟨by decide, by decide, by decide⟩, _, _, rfl, rfl, .inl ⟨by decide, by decide⟩, .ref T4, .nod .nil (.nod .nil .nil), L3, [wideV, 5], 0, wideV, rfl, .nod (s4L _ _ upd_same) .nil (.nod (s4L _ _ (s34 _ _ upd_same)) .nil .nil), by decide, upd_same, rfl, fun i _ => ?_, fun H7 _ => ?_⟩
  · have e : wideV = 20000000000000000000 := by decide +kernel
    rcases cnt_max 0 wideV (alwAt (valAt [wideV, 5]) (.nod .nil (.nod .nil .nil)) i) with h | h <;> omega
  refine ⟨_, _, rfl, rfl, ⟨by decide, by decide, by decide⟩, _, _, rfl, rfl, .inl ⟨by decide, by decide⟩, _, _, rfl, rfl, rfl, _, rfl, ?_⟩
  rw [show prodC (valAt [wideV, 5]) (.nod .nil (.nod .nil .nil)) 0 wideV (Tr.nod .nil (.nod .nil .nil)).size = wideV + 1 by decide +kernel, decide_eq_true (show V.int (wideV + 1) = V.int (2 * (10 : Int) ^ (19 : Int).toNat + 1) from rfl)]
  refine iteF ?_
  refine ⟨two, fun T5 hT5 => ⟨one, fun L5 hL5 => ?_⟩⟩
  have s5 := Same.new (o := .lst [V.int 3]) hL5
  refine ⟨.ref T5, .nod .nil .nil, L5, [3], 4, 9, rfl, .nod (s5 _ _ upd_same) .nil .nil, by decide, upd_same, rfl, fun i _ => ?_, fun H8 _ => ⟨rfl, _, rfl, ?_⟩⟩
  · rcases cnt_max 4 9 (alwAt (valAt [3]) (.nod .nil .nil) i) with h | h <;> omega
  rw [show prodC (valAt [3]) (.nod .nil .nil) 4 9 (Tr.nod .nil .nil).size = 0 by decide +kernel, decide_eq_true (show V.int 0 = V.int 0 from rfl)]
  refine iteT ?_
  refine ⟨zero, fun L6 hL6 => ⟨.non, .nil, L6, [], 5, 0, rfl, .nil, by decide, upd_same, rfl, fun i h => absurd h (Nat.not_lt_zero _), fun H9 _ => ⟨rfl, ?_⟩⟩⟩
  exact q _
end
end HSP
namespace HSP
open PySem PySem.Spec PyProof.Rows L2
/-! ## what the top has written -/
theorem all_mk {l : PySem.W.OpenLaw} {w : World} {K : PySem.W.Frag} {h : Heap} {mg : Str → Option Value} {fa : Addr} (X : K.In h) (G : h.Ns mainGlobals mg) (hfa : mg "law" = some (.ref fa))
    {f1 : Addr} {od1 an1 : Option Addr} {sl1 : Array (Option Value)} {oc1 kV1 dc1 pm1 cd1 ct1 : Value}
    (a1 : PySem.W.nsIn K mainGlobals "is_whole" = some (some (.ref f1))) (l1 : K.lookup f1 = some ⟨oc1, od1, .func (PySem.W.fnOf "is_whole" "is_whole" (defArgs s_is_whole) (defBody s_is_whole) (defScope s_is_whole) .none kV1 dc1 pm1 an1 cd1 ct1), sl1⟩) (c1 : PySem.W.codeIn K cd1 "is_whole" = true) (k1 : PySem.W.keepIn K (.ref f1) = true)
    {f2 : Addr} {od2 an2 : Option Addr} {sl2 : Array (Option Value)} {oc2 kV2 dc2 pm2 cd2 ct2 : Value}
    (a2 : PySem.W.nsIn K mainGlobals "is_tree" = some (some (.ref f2))) (l2 : K.lookup f2 = some ⟨oc2, od2, .func (PySem.W.fnOf "is_tree" "is_tree" (defArgs s_is_tree) (defBody s_is_tree) (defScope s_is_tree) .none kV2 dc2 pm2 an2 cd2 ct2), sl2⟩) (c2 : PySem.W.codeIn K cd2 "is_tree" = true) (k2 : PySem.W.keepIn K (.ref f2) = true)
    {f3 : Addr} {od3 an3 : Option Addr} {sl3 : Array (Option Value)} {oc3 kV3 dc3 pm3 cd3 ct3 : Value}
    (a3 : PySem.W.nsIn K mainGlobals "count_nodes" = some (some (.ref f3))) (l3 : K.lookup f3 = some ⟨oc3, od3, .func (PySem.W.fnOf "count_nodes" "count_nodes" (defArgs s_count_nodes) (defBody s_count_nodes) (defScope s_count_nodes) .none kV3 dc3 pm3 an3 cd3 ct3), sl3⟩) (c3 : PySem.W.codeIn K cd3 "count_nodes" = true) (k3 : PySem.W.keepIn K (.ref f3) = true)
    {f4 : Addr} {od4 an4 : Option Addr} {sl4 : Array (Option Value)} {oc4 kV4 dc4 pm4 cd4 ct4 : Value}
    (a4 : PySem.W.nsIn K mainGlobals "walk" = some (some (.ref f4))) (l4 : K.lookup f4 = some ⟨oc4, od4, .func (PySem.W.fnOf "walk" "walk" (defArgs s_walk) (defBody s_walk) (defScope s_walk) .none kV4 dc4 pm4 an4 cd4 ct4), sl4⟩) (c4 : PySem.W.codeIn K cd4 "walk" = true) (k4 : PySem.W.keepIn K (.ref f4) = true)
    {f5 : Addr} {od5 an5 : Option Addr} {sl5 : Array (Option Value)} {oc5 kV5 dc5 pm5 cd5 ct5 : Value}
    (a5 : PySem.W.nsIn K mainGlobals "paths_of" = some (some (.ref f5))) (l5 : K.lookup f5 = some ⟨oc5, od5, .func (PySem.W.fnOf "paths_of" "paths_of" (defArgs s_paths_of) (defBody s_paths_of) (defScope s_paths_of) .none kV5 dc5 pm5 an5 cd5 ct5), sl5⟩) (c5 : PySem.W.codeIn K cd5 "paths_of" = true) (k5 : PySem.W.keepIn K (.ref f5) = true)
    {f6 : Addr} {od6 an6 : Option Addr} {sl6 : Array (Option Value)} {oc6 kV6 dc6 pm6 cd6 ct6 : Value}
    (a6 : PySem.W.nsIn K mainGlobals "check_tree" = some (some (.ref f6))) (l6 : K.lookup f6 = some ⟨oc6, od6, .func (PySem.W.fnOf "check_tree" "check_tree" (defArgs s_check_tree) (defBody s_check_tree) (defScope s_check_tree) .none kV6 dc6 pm6 an6 cd6 ct6), sl6⟩) (c6 : PySem.W.codeIn K cd6 "check_tree" = true) (k6 : PySem.W.keepIn K (.ref f6) = true)
    {f7 : Addr} {od7 an7 : Option Addr} {sl7 : Array (Option Value)} {oc7 kV7 dc7 pm7 cd7 ct7 : Value}
    (a7 : PySem.W.nsIn K mainGlobals "check_row" = some (some (.ref f7))) (l7 : K.lookup f7 = some ⟨oc7, od7, .func (PySem.W.fnOf "check_row" "check_row" (defArgs s_check_row) (defBody s_check_row) (defScope s_check_row) .none kV7 dc7 pm7 an7 cd7 ct7), sl7⟩) (c7 : PySem.W.codeIn K cd7 "check_row" = true) (k7 : PySem.W.keepIn K (.ref f7) = true)
    {f8 : Addr} {od8 an8 : Option Addr} {sl8 : Array (Option Value)} {oc8 kV8 dc8 pm8 cd8 ct8 : Value}
    (a8 : PySem.W.nsIn K mainGlobals "check_values" = some (some (.ref f8))) (l8 : K.lookup f8 = some ⟨oc8, od8, .func (PySem.W.fnOf "check_values" "check_values" (defArgs s_check_values) (defBody s_check_values) (defScope s_check_values) .none kV8 dc8 pm8 an8 cd8 ct8), sl8⟩) (c8 : PySem.W.codeIn K cd8 "check_values" = true) (k8 : PySem.W.keepIn K (.ref f8) = true)
    {f9 : Addr} {od9 an9 : Option Addr} {sl9 : Array (Option Value)} {oc9 kV9 dc9 pm9 cd9 ct9 : Value}
    (a9 : PySem.W.nsIn K mainGlobals "bounds_below" = some (some (.ref f9))) (l9 : K.lookup f9 = some ⟨oc9, od9, .func (PySem.W.fnOf "bounds_below" "bounds_below" (defArgs s_bounds_below) (defBody s_bounds_below) (defScope s_bounds_below) .none kV9 dc9 pm9 an9 cd9 ct9), sl9⟩) (c9 : PySem.W.codeIn K cd9 "bounds_below" = true) (k9 : PySem.W.keepIn K (.ref f9) = true)
    {f10 : Addr} {od10 an10 : Option Addr} {sl10 : Array (Option Value)} {oc10 kV10 dc10 pm10 cd10 ct10 : Value}
    (a10 : PySem.W.nsIn K mainGlobals "label_of" = some (some (.ref f10))) (l10 : K.lookup f10 = some ⟨oc10, od10, .func (PySem.W.fnOf "label_of" "label_of" (defArgs s_label_of) (defBody s_label_of) (defScope s_label_of) .none kV10 dc10 pm10 an10 cd10 ct10), sl10⟩) (c10 : PySem.W.codeIn K cd10 "label_of" = true) (k10 : PySem.W.keepIn K (.ref f10) = true)
    {f11 : Addr} {od11 an11 : Option Addr} {sl11 : Array (Option Value)} {oc11 kV11 dc11 pm11 cd11 ct11 : Value}
    (a11 : PySem.W.nsIn K mainGlobals "labels_of" = some (some (.ref f11))) (l11 : K.lookup f11 = some ⟨oc11, od11, .func (PySem.W.fnOf "labels_of" "labels_of" (defArgs s_labels_of) (defBody s_labels_of) (defScope s_labels_of) .none kV11 dc11 pm11 an11 cd11 ct11), sl11⟩) (c11 : PySem.W.codeIn K cd11 "labels_of" = true) (k11 : PySem.W.keepIn K (.ref f11) = true)
    {f12 : Addr} {od12 an12 : Option Addr} {sl12 : Array (Option Value)} {oc12 kV12 dc12 pm12 cd12 ct12 : Value}
    (a12 : PySem.W.nsIn K mainGlobals "labels" = some (some (.ref f12))) (l12 : K.lookup f12 = some ⟨oc12, od12, .func (PySem.W.fnOf "labels" "labels" (defArgs s_labels) (defBody s_labels) (defScope s_labels) .none kV12 dc12 pm12 an12 cd12 ct12), sl12⟩) (c12 : PySem.W.codeIn K cd12 "labels" = true) (k12 : PySem.W.keepIn K (.ref f12) = true)
    {f13 : Addr} {od13 an13 : Option Addr} {sl13 : Array (Option Value)} {oc13 kV13 dc13 pm13 cd13 ct13 : Value}
    (a13 : PySem.W.nsIn K mainGlobals "killer_of" = some (some (.ref f13))) (l13 : K.lookup f13 = some ⟨oc13, od13, .func (PySem.W.fnOf "killer_of" "killer_of" (defArgs s_killer_of) (defBody s_killer_of) (defScope s_killer_of) .none kV13 dc13 pm13 an13 cd13 ct13), sl13⟩) (c13 : PySem.W.codeIn K cd13 "killer_of" = true) (k13 : PySem.W.keepIn K (.ref f13) = true)
    {f14 : Addr} {od14 an14 : Option Addr} {sl14 : Array (Option Value)} {oc14 kV14 dc14 pm14 cd14 ct14 : Value}
    (a14 : PySem.W.nsIn K mainGlobals "bound_of" = some (some (.ref f14))) (l14 : K.lookup f14 = some ⟨oc14, od14, .func (PySem.W.fnOf "bound_of" "bound_of" (defArgs s_bound_of) (defBody s_bound_of) (defScope s_bound_of) .none kV14 dc14 pm14 an14 cd14 ct14), sl14⟩) (c14 : PySem.W.codeIn K cd14 "bound_of" = true) (k14 : PySem.W.keepIn K (.ref f14) = true)
    {f15 : Addr} {od15 an15 : Option Addr} {sl15 : Array (Option Value)} {oc15 kV15 dc15 pm15 cd15 ct15 : Value}
    (a15 : PySem.W.nsIn K mainGlobals "owners_of" = some (some (.ref f15))) (l15 : K.lookup f15 = some ⟨oc15, od15, .func (PySem.W.fnOf "owners_of" "owners_of" (defArgs s_owners_of) (defBody s_owners_of) (defScope s_owners_of) .none kV15 dc15 pm15 an15 cd15 ct15), sl15⟩) (c15 : PySem.W.codeIn K cd15 "owners_of" = true) (k15 : PySem.W.keepIn K (.ref f15) = true)
    {f16 : Addr} {od16 an16 : Option Addr} {sl16 : Array (Option Value)} {oc16 kV16 dc16 pm16 cd16 ct16 : Value}
    (a16 : PySem.W.nsIn K mainGlobals "allowed" = some (some (.ref f16))) (l16 : K.lookup f16 = some ⟨oc16, od16, .func (PySem.W.fnOf "allowed" "allowed" (defArgs s_allowed) (defBody s_allowed) (defScope s_allowed) .none kV16 dc16 pm16 an16 cd16 ct16), sl16⟩) (c16 : PySem.W.codeIn K cd16 "allowed" = true) (k16 : PySem.W.keepIn K (.ref f16) = true)
    {f17 : Addr} {od17 an17 : Option Addr} {sl17 : Array (Option Value)} {oc17 kV17 dc17 pm17 cd17 ct17 : Value}
    (a17 : PySem.W.nsIn K mainGlobals "all_allowed" = some (some (.ref f17))) (l17 : K.lookup f17 = some ⟨oc17, od17, .func (PySem.W.fnOf "all_allowed" "all_allowed" (defArgs s_all_allowed) (defBody s_all_allowed) (defScope s_all_allowed) .none kV17 dc17 pm17 an17 cd17 ct17), sl17⟩) (c17 : PySem.W.codeIn K cd17 "all_allowed" = true) (k17 : PySem.W.keepIn K (.ref f17) = true)
    {f18 : Addr} {od18 an18 : Option Addr} {sl18 : Array (Option Value)} {oc18 kV18 dc18 pm18 cd18 ct18 : Value}
    (a18 : PySem.W.nsIn K mainGlobals "count_alike" = some (some (.ref f18))) (l18 : K.lookup f18 = some ⟨oc18, od18, .func (PySem.W.fnOf "count_alike" "count_alike" (defArgs s_count_alike) (defBody s_count_alike) (defScope s_count_alike) .none kV18 dc18 pm18 an18 cd18 ct18), sl18⟩) (c18 : PySem.W.codeIn K cd18 "count_alike" = true) (k18 : PySem.W.keepIn K (.ref f18) = true)
    {f19 : Addr} {od19 an19 : Option Addr} {sl19 : Array (Option Value)} {oc19 kV19 dc19 pm19 cd19 ct19 : Value}
    (a19 : PySem.W.nsIn K mainGlobals "representative" = some (some (.ref f19))) (l19 : K.lookup f19 = some ⟨oc19, od19, .func (PySem.W.fnOf "representative" "representative" (defArgs s_representative) (defBody s_representative) (defScope s_representative) .none kV19 dc19 pm19 an19 cd19 ct19), sl19⟩) (c19 : PySem.W.codeIn K cd19 "representative" = true) (k19 : PySem.W.keepIn K (.ref f19) = true)
    {f20 : Addr} {od20 an20 : Option Addr} {sl20 : Array (Option Value)} {oc20 kV20 dc20 pm20 cd20 ct20 : Value}
    (a20 : PySem.W.nsIn K mainGlobals "_law_draws" = some (some (.ref f20))) (l20 : K.lookup f20 = some ⟨oc20, od20, .func (PySem.W.fnOf "_law_draws" "_law_draws" (defArgs s_law_draws) (defBody s_law_draws) (defScope s_law_draws) .none kV20 dc20 pm20 an20 cd20 ct20), sl20⟩) (c20 : PySem.W.codeIn K cd20 "_law_draws" = true) (k20 : PySem.W.keepIn K (.ref f20) = true)
    {f21 : Addr} {od21 an21 : Option Addr} {sl21 : Array (Option Value)} {oc21 kV21 dc21 pm21 cd21 ct21 : Value}
    (a21 : PySem.W.nsIn K mainGlobals "_law_next" = some (some (.ref f21))) (l21 : K.lookup f21 = some ⟨oc21, od21, .func (PySem.W.fnOf "_law_next" "_law_next" (defArgs s_law_next) (defBody s_law_next) (defScope s_law_next) .none kV21 dc21 pm21 an21 cd21 ct21), sl21⟩) (c21 : PySem.W.codeIn K cd21 "_law_next" = true) (k21 : PySem.W.keepIn K (.ref f21) = true)
    {f22 : Addr} {od22 an22 : Option Addr} {sl22 : Array (Option Value)} {oc22 kV22 dc22 pm22 cd22 ct22 : Value}
    (a22 : PySem.W.nsIn K mainGlobals "_law_grown_tree" = some (some (.ref f22))) (l22 : K.lookup f22 = some ⟨oc22, od22, .func (PySem.W.fnOf "_law_grown_tree" "_law_grown_tree" (defArgs s_law_grown_tree) (defBody s_law_grown_tree) (defScope s_law_grown_tree) .none kV22 dc22 pm22 an22 cd22 ct22), sl22⟩) (c22 : PySem.W.codeIn K cd22 "_law_grown_tree" = true) (k22 : PySem.W.keepIn K (.ref f22) = true)
    {f23 : Addr} {od23 an23 : Option Addr} {sl23 : Array (Option Value)} {oc23 kV23 dc23 pm23 cd23 ct23 : Value}
    (a23 : PySem.W.nsIn K mainGlobals "_law_even_tree" = some (some (.ref f23))) (l23 : K.lookup f23 = some ⟨oc23, od23, .func (PySem.W.fnOf "_law_even_tree" "_law_even_tree" (defArgs s_law_even_tree) (defBody s_law_even_tree) (defScope s_law_even_tree) .none kV23 dc23 pm23 an23 cd23 ct23), sl23⟩) (c23 : PySem.W.codeIn K cd23 "_law_even_tree" = true) (k23 : PySem.W.keepIn K (.ref f23) = true)
    {f24 : Addr} {od24 an24 : Option Addr} {sl24 : Array (Option Value)} {oc24 kV24 dc24 pm24 cd24 ct24 : Value}
    (a24 : PySem.W.nsIn K mainGlobals "_law_room" = some (some (.ref f24))) (l24 : K.lookup f24 = some ⟨oc24, od24, .func (PySem.W.fnOf "_law_room" "_law_room" (defArgs s_law_room) (defBody s_law_room) (defScope s_law_room) .none kV24 dc24 pm24 an24 cd24 ct24), sl24⟩) (c24 : PySem.W.codeIn K cd24 "_law_room" = true) (k24 : PySem.W.keepIn K (.ref f24) = true)
    {f25 : Addr} {od25 an25 : Option Addr} {sl25 : Array (Option Value)} {oc25 kV25 dc25 pm25 cd25 ct25 : Value}
    (a25 : PySem.W.nsIn K mainGlobals "_law_numbers" = some (some (.ref f25))) (l25 : K.lookup f25 = some ⟨oc25, od25, .func (PySem.W.fnOf "_law_numbers" "_law_numbers" (defArgs s_law_numbers) (defBody s_law_numbers) (defScope s_law_numbers) .none kV25 dc25 pm25 an25 cd25 ct25), sl25⟩) (c25 : PySem.W.codeIn K cd25 "_law_numbers" = true) (k25 : PySem.W.keepIn K (.ref f25) = true)
    {f26 : Addr} {od26 an26 : Option Addr} {sl26 : Array (Option Value)} {oc26 kV26 dc26 pm26 cd26 ct26 : Value}
    (a26 : PySem.W.nsIn K mainGlobals "_law_ended" = some (some (.ref f26))) (l26 : K.lookup f26 = some ⟨oc26, od26, .func (PySem.W.fnOf "_law_ended" "_law_ended" (defArgs s_law_ended) (defBody s_law_ended) (defScope s_law_ended) .none kV26 dc26 pm26 an26 cd26 ct26), sl26⟩) (c26 : PySem.W.codeIn K cd26 "_law_ended" = true) (k26 : PySem.W.keepIn K (.ref f26) = true)
    {f27 : Addr} {od27 an27 : Option Addr} {sl27 : Array (Option Value)} {oc27 kV27 dc27 pm27 cd27 ct27 : Value}
    (a27 : PySem.W.nsIn K mainGlobals "_law_lists" = some (some (.ref f27))) (l27 : K.lookup f27 = some ⟨oc27, od27, .func (PySem.W.fnOf "_law_lists" "_law_lists" (defArgs s_law_lists) (defBody s_law_lists) (defScope s_law_lists) .none kV27 dc27 pm27 an27 cd27 ct27), sl27⟩) (c27 : PySem.W.codeIn K cd27 "_law_lists" = true) (k27 : PySem.W.keepIn K (.ref f27) = true)
    {f28 : Addr} {od28 an28 : Option Addr} {sl28 : Array (Option Value)} {oc28 kV28 dc28 pm28 cd28 ct28 : Value}
    (a28 : PySem.W.nsIn K mainGlobals "_law_ends" = some (some (.ref f28))) (l28 : K.lookup f28 = some ⟨oc28, od28, .func (PySem.W.fnOf "_law_ends" "_law_ends" (defArgs s_law_ends) (defBody s_law_ends) (defScope s_law_ends) .none kV28 dc28 pm28 an28 cd28 ct28), sl28⟩) (c28 : PySem.W.codeIn K cd28 "_law_ends" = true) (k28 : PySem.W.keepIn K (.ref f28) = true)
    {f29 : Addr} {od29 an29 : Option Addr} {sl29 : Array (Option Value)} {oc29 kV29 dc29 pm29 cd29 ct29 : Value}
    (a29 : PySem.W.nsIn K mainGlobals "_law_small_right" = some (some (.ref f29))) (l29 : K.lookup f29 = some ⟨oc29, od29, .func (PySem.W.fnOf "_law_small_right" "_law_small_right" (defArgs s_law_small_right) (defBody s_law_small_right) (defScope s_law_small_right) .none kV29 dc29 pm29 an29 cd29 ct29), sl29⟩) (c29 : PySem.W.codeIn K cd29 "_law_small_right" = true) (k29 : PySem.W.keepIn K (.ref f29) = true)
    {f30 : Addr} {od30 an30 : Option Addr} {sl30 : Array (Option Value)} {oc30 kV30 dc30 pm30 cd30 ct30 : Value}
    (a30 : PySem.W.nsIn K mainGlobals "_law_great_right" = some (some (.ref f30))) (l30 : K.lookup f30 = some ⟨oc30, od30, .func (PySem.W.fnOf "_law_great_right" "_law_great_right" (defArgs s_law_great_right) (defBody s_law_great_right) (defScope s_law_great_right) .none kV30 dc30 pm30 an30 cd30 ct30), sl30⟩) (c30 : PySem.W.codeIn K cd30 "_law_great_right" = true) (k30 : PySem.W.keepIn K (.ref f30) = true)
    {f31 : Addr} {od31 an31 : Option Addr} {sl31 : Array (Option Value)} {oc31 kV31 dc31 pm31 cd31 ct31 : Value}
    (a31 : PySem.W.nsIn K mainGlobals "_law_kept" = some (some (.ref f31))) (l31 : K.lookup f31 = some ⟨oc31, od31, .func (PySem.W.fnOf "_law_kept" "_law_kept" (defArgs s_law_kept) (defBody s_law_kept) (defScope s_law_kept) .none kV31 dc31 pm31 an31 cd31 ct31), sl31⟩) (c31 : PySem.W.codeIn K cd31 "_law_kept" = true) (k31 : PySem.W.keepIn K (.ref f31) = true)
    {f32 : Addr} {od32 an32 : Option Addr} {sl32 : Array (Option Value)} {oc32 kV32 dc32 pm32 cd32 ct32 : Value}
    (a32 : PySem.W.nsIn K mainGlobals "law" = some (some (.ref f32))) (l32 : K.lookup f32 = some ⟨oc32, od32, .func (PySem.W.fnOf "law" "law" (defArgs s_law) (defBody s_law) (defScope s_law) .none kV32 dc32 pm32 an32 cd32 ct32), sl32⟩) (c32 : PySem.W.codeIn K cd32 "law" = true) (k32 : PySem.W.keepIn K (.ref f32) = true)
    (z0 : PySem.W.nsIn K mainGlobals "isinstance" = some none)
    (z1 : PySem.W.nsIn K mainGlobals "int" = some none)
    (z2 : PySem.W.nsIn K mainGlobals "bool" = some none)
    (z3 : PySem.W.nsIn K mainGlobals "tuple" = some none)
    (z4 : PySem.W.nsIn K mainGlobals "list" = some none)
    (z5 : PySem.W.nsIn K mainGlobals "str" = some none)
    (z6 : PySem.W.nsIn K mainGlobals "len" = some none)
    (z7 : PySem.W.nsIn K mainGlobals "range" = some none)
    (z8 : PySem.W.nsIn K mainGlobals "enumerate" = some none)
    (z9 : PySem.W.nsIn K mainGlobals "sorted" = some none)
    (z10 : PySem.W.nsIn K mainGlobals "set" = some none)
    (z11 : PySem.W.nsIn K mainGlobals "sum" = some none)
    (z12 : PySem.W.nsIn K mainGlobals "max" = some none)
    (z13 : PySem.W.nsIn K mainGlobals "abs" = some none)
    (z14 : PySem.W.nsIn K mainGlobals "zip" = some none)
    (z15 : PySem.W.nsIn K mainGlobals "min" = some none)
    {C1 C2 fI : Addr} {odI anI : Option Addr} {slI : Array (Option Value)} {ocI kVI dcI pmI cdI ctI : Value} {nmI qqI : Str} {NNI : Addr} {bsI : List Value} {snI : List Str} {subI : List Value} {abI : Bool} {colI : Option Bool} {dddI : Option Addr} {m0 m1 m2 m3 m5 : Option Value}
    (cg1 : PySem.W.nsIn K mainGlobals "InvalidTree" = some (some (.ref C1)))
    (cg2 : PySem.W.nsIn K mainGlobals "InvalidValues" = some (some (.ref C2)))
    (ci2 : PySem.W.findIn K (.ref C2) "__init__" = some (some (.ref fI)))
    (cT1 : ClsT K C1)
    (cT2 : ClsT K C2)
    (cx1 : PySem.W.excIn K C1 [.type "ValueError", .type "Exception", .type "BaseException", .type "object"] "ValueError.__new__" = true)
    (cs11 : PySem.W.subIn K (.ref C1) (.ref C1) = some true)
    (cs12 : PySem.W.subIn K (.ref C1) (.ref C2) = some false)
    (cs21 : PySem.W.subIn K (.ref C2) (.ref C1) = some false)
    (cs22 : PySem.W.subIn K (.ref C2) (.ref C2) = some true)
    (cne : (Value.ref C1 == Value.ref C2) = false)
    (cL2 : K.lookup C2 = some (excClassObj nmI qqI C2 NNI bsI [.type "ValueError", .type "Exception", .type "BaseException", .type "object"] true snI subI abI colI dddI m0 m1 m2 m3 m5 "ValueError.__new__"))
    (csa2 : PySem.W.findIn K (.ref C2) "__setattr__" = some (some (.builtin "object.__setattr__")))
    (cn2 : PySem.W.findIn K (.ref C2) "node" = some none)
    (htI : PySem.W.typeIn K (.ref fI) = some (.type "function"))
    (clI : K.lookup fI = some ⟨ocI, odI, .func (PySem.W.fnOf "__init__" "InvalidValues.__init__" (defArgs s_ivInit) (defBody s_ivInit) (defScope s_ivInit) .none kVI dcI pmI anI cdI ctI), slI⟩)
    (ccI : PySem.W.codeIn K cdI "InvalidValues.__init__" = true)
    (ckI : PySem.W.keepIn K (.ref fI) = true)
    (cvE : PySem.W.nsIn K mainGlobals "ValueError" = some none)
    (cvV : PySem.W.findCls K (.type "ValueError") (.type "type") "__init__" = some (.val (.builtin "ValueError.__init__")))
    (zrepr : PySem.W.nsIn K mainGlobals "repr" = some none)
    : ∃ fd : FuncData, (∀ (s : Shared) (v : Value), BindsTo s fd ⟨[v], []⟩ [("script", v)]) ∧ ∀ base : Heap, K.In base → base.Ns mainGlobals mg → FnG l.prog w K mg base CX0 17 fa fd ["script"] (spLaw K) := by
  cases hfa.symm.trans (PySem.W.mg_of X G a32)
  have B : Bl mg := ⟨PySem.W.mg_none_of X G z0, PySem.W.mg_none_of X G z1, PySem.W.mg_none_of X G z2, PySem.W.mg_none_of X G z3, PySem.W.mg_none_of X G z4, PySem.W.mg_none_of X G z5, PySem.W.mg_none_of X G z6, PySem.W.mg_none_of X G z7, PySem.W.mg_none_of X G z8, PySem.W.mg_none_of X G z9, PySem.W.mg_none_of X G z10, PySem.W.mg_none_of X G z11, PySem.W.mg_none_of X G z12, PySem.W.mg_none_of X G z13, PySem.W.mg_none_of X G z14, PySem.W.mg_none_of X G z15⟩
  have A1 : At K mg "is_whole" s_is_whole := ⟨_, _, PySem.W.mg_of X G a1, fun_mk l1 c1 k1⟩
  have A2 : At K mg "is_tree" s_is_tree := ⟨_, _, PySem.W.mg_of X G a2, fun_mk l2 c2 k2⟩
  have A3 : At K mg "count_nodes" s_count_nodes := ⟨_, _, PySem.W.mg_of X G a3, fun_mk l3 c3 k3⟩
  have A4 : At K mg "walk" s_walk := ⟨_, _, PySem.W.mg_of X G a4, fun_mk l4 c4 k4⟩
  have A5 : At K mg "paths_of" s_paths_of := ⟨_, _, PySem.W.mg_of X G a5, fun_mk l5 c5 k5⟩
  have A6 : At K mg "check_tree" s_check_tree := ⟨_, _, PySem.W.mg_of X G a6, fun_mk l6 c6 k6⟩
  have A7 : At K mg "check_row" s_check_row := ⟨_, _, PySem.W.mg_of X G a7, fun_mk l7 c7 k7⟩
  have A8 : At K mg "check_values" s_check_values := ⟨_, _, PySem.W.mg_of X G a8, fun_mk l8 c8 k8⟩
  have A9 : At K mg "bounds_below" s_bounds_below := ⟨_, _, PySem.W.mg_of X G a9, fun_mk l9 c9 k9⟩
  have A10 : At K mg "label_of" s_label_of := ⟨_, _, PySem.W.mg_of X G a10, fun_mk l10 c10 k10⟩
  have A11 : At K mg "labels_of" s_labels_of := ⟨_, _, PySem.W.mg_of X G a11, fun_mk l11 c11 k11⟩
  have A12 : At K mg "labels" s_labels := ⟨_, _, PySem.W.mg_of X G a12, fun_mk l12 c12 k12⟩
  have A13 : At K mg "killer_of" s_killer_of := ⟨_, _, PySem.W.mg_of X G a13, fun_mk l13 c13 k13⟩
  have A14 : At K mg "bound_of" s_bound_of := ⟨_, _, PySem.W.mg_of X G a14, fun_mk l14 c14 k14⟩
  have A15 : At K mg "owners_of" s_owners_of := ⟨_, _, PySem.W.mg_of X G a15, fun_mk l15 c15 k15⟩
  have A16 : At K mg "allowed" s_allowed := ⟨_, _, PySem.W.mg_of X G a16, fun_mk l16 c16 k16⟩
  have A17 : At K mg "all_allowed" s_all_allowed := ⟨_, _, PySem.W.mg_of X G a17, fun_mk l17 c17 k17⟩
  have A18 : At K mg "count_alike" s_count_alike := ⟨_, _, PySem.W.mg_of X G a18, fun_mk l18 c18 k18⟩
  have A19 : At K mg "representative" s_representative := ⟨_, _, PySem.W.mg_of X G a19, fun_mk l19 c19 k19⟩
  have A20 : At K mg "_law_draws" s_law_draws := ⟨_, _, PySem.W.mg_of X G a20, fun_mk l20 c20 k20⟩
  have A21 : At K mg "_law_next" s_law_next := ⟨_, _, PySem.W.mg_of X G a21, fun_mk l21 c21 k21⟩
  have A22 : At K mg "_law_grown_tree" s_law_grown_tree := ⟨_, _, PySem.W.mg_of X G a22, fun_mk l22 c22 k22⟩
  have A23 : At K mg "_law_even_tree" s_law_even_tree := ⟨_, _, PySem.W.mg_of X G a23, fun_mk l23 c23 k23⟩
  have A24 : At K mg "_law_room" s_law_room := ⟨_, _, PySem.W.mg_of X G a24, fun_mk l24 c24 k24⟩
  have A25 : At K mg "_law_numbers" s_law_numbers := ⟨_, _, PySem.W.mg_of X G a25, fun_mk l25 c25 k25⟩
  have A26 : At K mg "_law_ended" s_law_ended := ⟨_, _, PySem.W.mg_of X G a26, fun_mk l26 c26 k26⟩
  have A27 : At K mg "_law_lists" s_law_lists := ⟨_, _, PySem.W.mg_of X G a27, fun_mk l27 c27 k27⟩
  have A28 : At K mg "_law_ends" s_law_ends := ⟨_, _, PySem.W.mg_of X G a28, fun_mk l28 c28 k28⟩
  have A29 : At K mg "_law_small_right" s_law_small_right := ⟨_, _, PySem.W.mg_of X G a29, fun_mk l29 c29 k29⟩
  have A30 : At K mg "_law_great_right" s_law_great_right := ⟨_, _, PySem.W.mg_of X G a30, fun_mk l30 c30 k30⟩
  have A31 : At K mg "_law_kept" s_law_kept := ⟨_, _, PySem.W.mg_of X G a31, fun_mk l31 c31 k31⟩
  refine ⟨PySem.W.fnOf "law" "law" (defArgs s_law) (defBody s_law) (defScope s_law) .none kV32 dc32 pm32 an32 cd32 ct32, fun s v => .of_eq rfl, fun base _ _ => ?_⟩
  have O1 : Own0 K mg "InvalidTree" C1 := own0_mk (PySem.W.mg_of X G cg1) cT1 cx1
  have FI := fun_mk (st := s_ivInit) clI ccI ckI
  have O2 : Own1 K mg C2 fI _ := ⟨PySem.W.mg_of X G cg2, ⟨⟨_, _, _, _, _, _, _, _, _, _, _, _, _, _, _, cL2, by decide +kernel⟩, csa2, cT2.b, cT2.t, cT2.k⟩, ci2, htI, cn2, FI, FI.binds fun _ _ _ _ _ _ us hl => match us, hl with | [_, _], _ => rfl, PySem.W.mg_none_of X G cvE, cvV⟩
  have Tw : Two K mg C1 C2 := two_mk (PySem.W.mg_of X G cg1) (PySem.W.mg_of X G cg2) cT1 cT2 cs11 cs12 cs21 cs22 cne cn2
  have Wh := ok_whole (P := l.prog) (w := w) (base := base) B A1
  have Tr := ok_tree (P := l.prog) (w := w) (base := base) B A2
  have Co := ok_count (P := l.prog) (w := w) (base := base) A3
  have Wa := ok_walk Co A4
  have Pa := ok_paths B Co Wa A5
  have Ct := ok_chkT Tr A6
  have Cr := ok_chkR B Wh A7
  have Cv := ok_chkV B Cr Co Ct A8
  have Bo := ok_bounds (P := l.prog) (w := w) (base := base) B A9
  have Lo := ok_label (P := l.prog) (w := w) (base := base) A10
  have Lf := ok_labelsOf B Pa Bo Lo A11
  have Lb := okB_labels Cv Lf A12
  have Ki := ok_killer (P := l.prog) (w := w) (base := base) A13
  have Bn := ok_bound (P := l.prog) (w := w) (base := base) A14
  have Ow := ok_owners B Wa Ki Bn A15
  have Al := ok_allowed Lo A16
  have Aa := ok_allAllowed B Pa Bo Al A17
  have Ca := ok_countAlike B Cv Aa A18
  have Re := okB_rep Cv Lf Ow A19
  have Dr := ok_draws (P := l.prog) (w := w) (base := base) B A20
  have N := ok_next (P := l.prog) (w := w) (base := base) B A21
  have Gt := ok_grown B N A22 13
  have Et := ok_even B N A23 10
  have Rm := ok_room (P := l.prog) (w := w) (base := base) A24 13
  have Nu := ok_numbers B N A25
  have Le := ok_ended Rm A26
  have Ls := ok_lists (P := l.prog) (w := w) (base := base) B A27
  have En := ok_ends31 B Le A28
  have Sm0 := A29
  have Gr0 := A30
  have Kp0 := A31
  have WhX := ok_wholeX (P := l.prog) (w := w) (base := base) B A1
  have TrX := ok_treeX (P := l.prog) (w := w) (base := base) B A2
  have CtX := ok_chkTX O1 (fun _ _ _ _ h => by obtain ⟨_, _, rfl, _⟩ := h; rfl) (mono_tree K) TrX A6
  have CrX := ok_chkRX B O2 WhX A7
  have CvX := ok_chkVX B O2 CrX Co CtX A8
  have Cn := okN_countAlike B Cv Aa A18
  have Sm := ok_small B N Gt Ls En Ca Cn A29
  have CnX := ok_countX (mono_chkV K C1 C2) CvX A18
  have Kp := ok_keptC B (PySem.W.mg_none_of X G zrepr) Tw (mono_cnt (mono_chkV K C1 C2)) CnX A31
  have R := ok_great B (PySem.W.mg_none_of X G zrepr) N Et Nu Lb Re Ca A30
  exact ok_law (C1 := C1) (C2 := C2) B (fun_mk l32 c32 k32) Dr Sm R Kp Ca
end HSP
open PySem PySem.W PyProof.Rows
set_option maxHeartbeats 0 in
theorem PySem.Challenge.cw_halfsearch_k48_lists_alike_counted_holds : PySem.Challenge.rw_halfsearch_k48_lists_alike_counted.Holds := by
  w_on; o_law; k_head; (case hw => w_witness2)
  k_fill
  refine HSP.walk_ofG (l := PySem.Challenge.rw_halfsearch_k48_lists_alike_counted) (n := 63) (k := 17) (x := "script") (sp := fun w => HSP.spLaw _) rfl (by decide) rfl ⟨rfl, by decide, by decide⟩ (fun w h Y => PySem.W.kIn_of Y) ?F (fun _ _ a ns hl _ hS => ⟨a, ns, rfl, hS, hl, fun _ => rfl⟩)
  case F =>
    intro w mg fa h KX G hmg
    refine' HSP.all_mk KX G hmg ?a1 ?l1 ?c1 ?k1 ?a2 ?l2 ?c2 ?k2 ?a3 ?l3 ?c3 ?k3 ?a4 ?l4 ?c4 ?k4 ?a5 ?l5 ?c5 ?k5 ?a6 ?l6 ?c6 ?k6 ?a7 ?l7 ?c7 ?k7 ?a8 ?l8 ?c8 ?k8 ?a9 ?l9 ?c9 ?k9 ?a10 ?l10 ?c10 ?k10 ?a11 ?l11 ?c11 ?k11 ?a12 ?l12 ?c12 ?k12 ?a13 ?l13 ?c13 ?k13 ?a14 ?l14 ?c14 ?k14 ?a15 ?l15 ?c15 ?k15 ?a16 ?l16 ?c16 ?k16 ?a17 ?l17 ?c17 ?k17 ?a18 ?l18 ?c18 ?k18 ?a19 ?l19 ?c19 ?k19 ?a20 ?l20 ?c20 ?k20 ?a21 ?l21 ?c21 ?k21 ?a22 ?l22 ?c22 ?k22 ?a23 ?l23 ?c23 ?k23 ?a24 ?l24 ?c24 ?k24 ?a25 ?l25 ?c25 ?k25 ?a26 ?l26 ?c26 ?k26 ?a27 ?l27 ?c27 ?k27 ?a28 ?l28 ?c28 ?k28 ?a29 ?l29 ?c29 ?k29 ?a30 ?l30 ?c30 ?k30 ?a31 ?l31 ?c31 ?k31 ?a32 ?l32 ?c32 ?k32 ?z0 ?z1 ?z2 ?z3 ?z4 ?z5 ?z6 ?z7 ?z8 ?z9 ?z10 ?z11 ?z12 ?z13 ?z14 ?z15 ?cg1 ?cg2 ?ci2 ?cT1 ?cT2 ?cx1 ?cs11 ?cs12 ?cs21 ?cs22 ?cne ?cL2 ?csa2 ?cn2 ?htI ?clI ?ccI ?ckI ?cvE ?cvV ?zrepr
    (case a1 => k_is)
    (case l1 => k_is)
    (case c1 => k_is)
    (case k1 => k_is)
    (case a2 => k_is)
    (case l2 => k_is)
    (case c2 => k_is)
    (case k2 => k_is)
    (case a3 => k_is)
    (case l3 => k_is)
    (case c3 => k_is)
    (case k3 => k_is)
    (case a4 => k_is)
    (case l4 => k_is)
    (case c4 => k_is)
    (case k4 => k_is)
    (case a5 => k_is)
    (case l5 => k_is)
    (case c5 => k_is)
    (case k5 => k_is)
    (case a6 => k_is)
    (case l6 => k_is)
    (case c6 => k_is)
    (case k6 => k_is)
    (case a7 => k_is)
    (case l7 => k_is)
    (case c7 => k_is)
    (case k7 => k_is)
    (case a8 => k_is)
    (case l8 => k_is)
    (case c8 => k_is)
    (case k8 => k_is)
    (case a9 => k_is)
    (case l9 => k_is)
    (case c9 => k_is)
    (case k9 => k_is)
    (case a10 => k_is)
    (case l10 => k_is)
    (case c10 => k_is)
    (case k10 => k_is)
    (case a11 => k_is)
    (case l11 => k_is)
    (case c11 => k_is)
    (case k11 => k_is)
    (case a12 => k_is)
    (case l12 => k_is)
    (case c12 => k_is)
    (case k12 => k_is)
    (case a13 => k_is)
    (case l13 => k_is)
    (case c13 => k_is)
    (case k13 => k_is)
    (case a14 => k_is)
    (case l14 => k_is)
    (case c14 => k_is)
    (case k14 => k_is)
    (case a15 => k_is)
    (case l15 => k_is)
    (case c15 => k_is)
    (case k15 => k_is)
    (case a16 => k_is)
    (case l16 => k_is)
    (case c16 => k_is)
    (case k16 => k_is)
    (case a17 => k_is)
    (case l17 => k_is)
    (case c17 => k_is)
    (case k17 => k_is)
    (case a18 => k_is)
    (case l18 => k_is)
    (case c18 => k_is)
    (case k18 => k_is)
    (case a19 => k_is)
    (case l19 => k_is)
    (case c19 => k_is)
    (case k19 => k_is)
    (case a20 => k_is)
    (case l20 => k_is)
    (case c20 => k_is)
    (case k20 => k_is)
    (case a21 => k_is)
    (case l21 => k_is)
    (case c21 => k_is)
    (case k21 => k_is)
    (case a22 => k_is)
    (case l22 => k_is)
    (case c22 => k_is)
    (case k22 => k_is)
    (case a23 => k_is)
    (case l23 => k_is)
    (case c23 => k_is)
    (case k23 => k_is)
    (case a24 => k_is)
    (case l24 => k_is)
    (case c24 => k_is)
    (case k24 => k_is)
    (case a25 => k_is)
    (case l25 => k_is)
    (case c25 => k_is)
    (case k25 => k_is)
    (case a26 => k_is)
    (case l26 => k_is)
    (case c26 => k_is)
    (case k26 => k_is)
    (case a27 => k_is)
    (case l27 => k_is)
    (case c27 => k_is)
    (case k27 => k_is)
    (case a28 => k_is)
    (case l28 => k_is)
    (case c28 => k_is)
    (case k28 => k_is)
    (case a29 => k_is)
    (case l29 => k_is)
    (case c29 => k_is)
    (case k29 => k_is)
    (case a30 => k_is)
    (case l30 => k_is)
    (case c30 => k_is)
    (case k30 => k_is)
    (case a31 => k_is)
    (case l31 => k_is)
    (case c31 => k_is)
    (case k31 => k_is)
    (case a32 => k_is)
    (case l32 => k_is)
    (case c32 => k_is)
    (case k32 => k_is)
    (case z0 => k_is)
    (case z1 => k_is)
    (case z2 => k_is)
    (case z3 => k_is)
    (case z4 => k_is)
    (case z5 => k_is)
    (case z6 => k_is)
    (case z7 => k_is)
    (case z8 => k_is)
    (case z9 => k_is)
    (case z10 => k_is)
    (case z11 => k_is)
    (case z12 => k_is)
    (case z13 => k_is)
    (case z14 => k_is)
    (case z15 => k_is)
    (case cg1 => k_is)
    (case cg2 => k_is)
    (case ci2 => k_is)
    (case cT1 => exact ⟨by k_is, by k_is, by k_is, ⟨_, by k_is⟩, by k_is, by k_is, by k_is, by k_is, by k_is, by k_is, by k_is⟩)
    (case cT2 => exact ⟨by k_is, by k_is, by k_is, ⟨_, by k_is⟩, by k_is, by k_is, by k_is, by k_is, by k_is, by k_is, by k_is⟩)
    (case cx1 => k_exc)
    (case cs11 => k_is)
    (case cs12 => k_is)
    (case cs21 => k_is)
    (case cs22 => k_is)
    (case cne => rfl)
    (case cL2 => k_is)
    (case csa2 => k_is)
    (case cn2 => k_is)
    (case htI => k_is)
    (case clI => k_is)
    (case ccI => k_is)
    (case ckI => k_is)
    (case cvE => k_is)
    (case cvV => k_is)
    (case zrepr => k_is)
