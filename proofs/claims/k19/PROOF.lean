import PyProof.Rows.All
import Wide.All
import OpenK.AllK
import Wide.FinOn
import HandS.Base
import HandS.Call
import HandS.List
import HandS.Comp
import HandS.Ends
import HandS.Dict
import HandS.Iter
import HandS.Text
import HandS.Words
import HandS.WordsList
import HandS.Wide
import HandS.Strs
import HandS.SetFor
import HandS.SortInts
import HandS.Defaults
import HandS.IsInst
import HandS.Walk
import HandS.Codes
import HandS.SortKw
import KE.DatumOrd
import HandS.More
import HandS.DictComp
import HandS.ExcValue
import HandS.Exc
import HandS.ForSpec
import KE.KTryMore
import HandS.ExcField
import HandS.ExcIs
import HandS.WordsExc
import HandS.ExcOwn
import HandS.Deep
import HandS.TupSets
import KE.KDictPairs
import PyProof.NeKinds
import HandS.WordsDict
import HandS.ExcInit
import HandS.RaiseMore
import HandS.Style
import KE.KDictZip
import HandS.Conv
import PySem.Challenge.RW_halfsearch_k19_whole_as_many_stay_as_cha
set_option Elab.async false
set_option maxRecDepth 100000
namespace HSP
open PySem PySem.Spec PyProof.Rows L2
/-! ## trees of pairs, as they lie in the heap -/
inductive Tr where
  | nil
  | nod (l r : Tr)
  deriving DecidableEq
def Tr.size : Tr → Nat
  | .nil => 0
  | .nod l r => l.size + 1 + r.size
def Tr.ht : Tr → Nat
  | .nil => 0
  | .nod l r => max l.ht r.ht + 1
theorem Tr.ht_le : ∀ t : Tr, t.ht ≤ t.size
  | .nil => Nat.le_refl _
  | .nod l r => by
    have h1 := l.ht_le
    have h2 := r.ht_le
    simp only [Tr.ht, Tr.size]
    omega
inductive TrAt (H : Hp) : V → Tr → Prop
  | nil : TrAt H .non .nil
  | nod {a : Addr} {x y : V} {l r : Tr} : H a = some (.tup [x, y]) → TrAt H x l → TrAt H y r → TrAt H (.ref a) (.nod l r)
theorem TrAt.keep {H H' : Hp} {v : V} {t : Tr} (h : TrAt H v t) (s : ∀ a x y, H a = some (.tup [x, y]) → H' a = some (.tup [x, y])) : TrAt H' v t := by
  induction h with
  | nil => exact .nil
  | nod e _ _ ih1 ih2 => exact .nod (s _ _ _ e) ih1 ih2
theorem TrAt.same {H H' : Hp} {v : V} {t : Tr} (h : TrAt H v t) (s : Same H H') : TrAt H' v t := h.keep fun a x y e => s a _ e
/-! ## heaps: all but one place stays -/
def Keep (p : Addr) (H H' : Hp) : Prop := ∀ b o, b ≠ p → H b = some o → H' b = some o
theorem Keep.refl (p : Addr) (H : Hp) : Keep p H H := fun _ _ _ e => e
theorem Keep.trans {p : Addr} {H H1 H2 : Hp} (a : Keep p H H1) (b : Keep p H1 H2) : Keep p H H2 := fun c o n e => b c o n (a c o n e)
theorem Keep.of {p : Addr} {H H' : Hp} (s : Same H H') : Keep p H H' := fun b o _ e => s b o e
theorem Keep.at {p : Addr} {H : Hp} {o : HO} : Keep p H (upd H p o) := fun b u n e => by
  rw [upd_ne n]; exact e
theorem Keep.new {p q : Addr} {H : Hp} {o : HO} (h : H q = none) : Keep p H (upd H q o) := fun b u _ e => by
  rw [upd_ne (ne_of_none e h)]; exact e
theorem Keep.tree {p : Addr} {H H' : Hp} {v : V} {t : Tr} {xs : List V} (k : Keep p H H') (hp : H p = some (.lst xs)) (h : TrAt H v t) : TrAt H' v t :=
  h.keep fun a x y e => k a _ (fun z => by rw [z, hp] at e; cases e) e
theorem Same.new {H : Hp} {p : Addr} {o : HO} (h : H p = none) : Same H (upd H p o) := fun b u e => by
  rw [upd_ne (ne_of_none e h)]; exact e
theorem Keep.same {p : Addr} {H H1 H' : Hp} (s : Same H H1) (n : H p = none) (k : Keep p H1 H') : Same H H' := fun b o e => k b o (ne_of_none e n) (s b o e)
/-! ## powers -/
def CPowW (i j : Int) : Prop := 0 ≤ j ∧ (Builtin.Int.intBits i : Int) * j ≤ 2 ^ 27
section
variable {X : Cx}
theorem op_powW : OpR X (binaryOp .Pow) (rI CPowW fun i j => .int (i ^ j.toNat)) :=
  opI fun _ _ _ _ _ _ _ hc q => pow_int hc.1 hc.2 q
end
end HSP
namespace HSP
open PySem PySem.Spec PyProof.Rows L2
/-! ## a def of the text that keeps a promise, called by its name -/
/-- the def stands under its own name behind the top -/
def At (K : PySem.W.Frag) (mg : Str → Option Value) (x : Str) (st : Stmt) : Prop := ∃ (f : Addr) (fd : FuncData), mg x = some (.ref f) ∧ Fun K x x st f fd
structure Df (P : Program) (w : World) (K : PySem.W.Frag) (mg : Str → Option Value) (base : Heap) (x : Str) (n : Nat) (ps : List Str) (sp : Sp) : Prop where
  ex : ∃ (f : Addr) (fd : FuncData), mg x = some (.ref f) ∧ PySem.W.keepIn K (.ref f) = true ∧ Binds K fd ps [] ∧ FnOk P w K mg base CX0 n f fd ps sp
section
variable {P : Program} {w : World} {K : PySem.W.Frag} {mg : Str → Option Value} {base : Heap}
theorem Df.mk' {x : Str} {st : Stmt} {N ps : List Str} {k : Nat} {sp : Sp} (a : At K mg x st) (S : FnScope N ps (defScope st)) (len : ∀ vs H Q E, sp vs H Q E → vs.length = ps.length)
    (hb : ∀ (kV doc pm : Value) (an : Option Addr) (cdv ct : Value) (us : List Value), us.length = ps.length → bindArgs (PySem.W.fnOf x x (defArgs st) (defBody st) (defScope st) .none kV doc pm an cdv ct) ⟨us, []⟩ = pure (ps.zip us))
    (body : ∀ (f : Addr) (cdv : Value) (A : Around) (outer : List Env) (s : Shared) (H : Hp) (vs : List V) (Q : VK) (E : XK), Room k (A.deeper (envOfC x (defScope st) s.heap.objs.size f cdv)) → sp vs H Q E →
      ∃ t, PSs (cxOf CX0 P w K mg base N x (defScope st) f cdv A outer s H E).nox (defBody st) t ∧ t { nx := fun _ H' => Q .non H', rt := Q } (start N vs) H) : Df P w K mg base x (k + 1) ps sp := by
  obtain ⟨f, fd, hm, F⟩ := a
  exact ⟨f, fd, hm, F.kp, F.binds hb, F.ok S len (body f)⟩
theorem Df.mono {x : Str} {j k : Nat} {ps : List Str} {sp : Sp} (D : Df P w K mg base x j ps sp) (h : j ≤ k) : Df P w K mg base x k ps sp := by
  obtain ⟨f, fd, a, b, c, d⟩ := D.ex
  exact ⟨f, fd, a, b, c, d.mono h⟩
theorem Df.imp {x : Str} {k : Nat} {ps : List Str} {sp sp' : Sp} (D : Df P w K mg base x k ps sp) (h : ∀ vs H Q E, sp' vs H Q E → sp vs H Q E) : Df P w K mg base x k ps sp' := by
  obtain ⟨f, fd, a, b, c, d⟩ := D.ex
  exact ⟨f, fd, a, b, c, d.imp h⟩
end
section
variable {X : Cx} {k : Nat} {ps : List Str} {sp : Sp} {x : Str} {p pos : Pos} {e : Expr} {es : List Expr} {t : TA}
theorem pe_df (D : Df X.prog X.w X.K X.mg X.base x k ps sp) (hr : Room k X.A) (ha : PA X (e :: es) t) (hg : Gl X x := by rfl) (hdb : (x == ("__debug__" : Str)) = false := by decide)
    (he : starEach (e :: es) X.env = (false, eval e X.env) :: starEach es X.env := by rfl) (hpl : (backTo pos (starEach es X.env)).any (·.1) = false := by rfl) : PE X (.Call (.Name x p) (e :: es) [] pos) (tCall sp [] E0 t) := by
  obtain ⟨f, fd, hm, hk, hb, F⟩ := D.ex
  exact pe_call F hr hg hm hk hb .nil pass0 ha hdb he hpl
end
/-! ## what a test or a value is -/
theorem int_inj {i j : Int} (h : i = j) : V.int i = V.int j := by rw [h]
/-! ## the built-ins, not shadowed -/
structure Bl (mg : Str → Option Value) : Prop where
  isinstance : mg "isinstance" = none
  int : mg "int" = none
  bool : mg "bool" = none
  tuple : mg "tuple" = none
  list : mg "list" = none
  str : mg "str" = none
  len : mg "len" = none
  range : mg "range" = none
  enumerate : mg "enumerate" = none
  sorted : mg "sorted" = none
  set : mg "set" = none
  sum : mg "sum" = none
  max : mg "max" = none
  abs : mg "abs" = none
  zip : mg "zip" = none
  min : mg "min" = none
end HSP
namespace HSP
open PySem PySem.Spec PyProof.Rows L2
def topS (i : Nat) : Stmt := PySem.Challenge.pw_halfsearch_k19_whole_as_many_stay_as_cha.main.body.getD i (.Pass ⟨0, 0, 0, 0⟩)
abbrev s_is_whole : Stmt := topS 5
abbrev p_is_whole : List Str := ["thing"]
abbrev n_is_whole : List Str := ["thing"]
abbrev s_is_node : Stmt := topS 6
abbrev p_is_node : List Str := ["thing", "many"]
abbrev n_is_node : List Str := ["thing", "many"]
abbrev s_is_split : Stmt := topS 7
abbrev p_is_split : List Str := ["thing", "nodes"]
abbrev n_is_split : List Str := ["thing", "nodes", "held", "row", "node"]
abbrev s_is_tree : Stmt := topS 8
abbrev p_is_tree : List Str := ["thing"]
abbrev n_is_tree : List Str := ["thing", "waiting", "part"]
abbrev s_count_nodes : Stmt := topS 9
abbrev p_count_nodes : List Str := ["tree"]
abbrev n_count_nodes : List Str := ["tree", "many", "waiting", "part"]
abbrev s_walk : Stmt := topS 10
abbrev p_walk : List Str := ["tree"]
abbrev n_walk : List Str := ["tree", "rows", "waiting", "part", "first", "above", "left", "right", "node"]
abbrev s_paths_of : Stmt := topS 11
abbrev p_paths_of : List Str := ["tree"]
abbrev n_paths_of : List Str := ["tree", "paths", "node", "above", "_"]
abbrev s_check_tree : Stmt := topS 12
abbrev p_check_tree : List Str := ["tree"]
abbrev n_check_tree : List Str := ["tree"]
abbrev s_check_row : Stmt := topS 13
abbrev p_check_row : List Str := ["row"]
abbrev n_check_row : List Str := ["row", "node", "value"]
abbrev s_check_values : Stmt := topS 14
abbrev p_check_values : List Str := ["tree", "values"]
abbrev n_check_values : List Str := ["tree", "values"]
abbrev s_check_wished : Stmt := topS 16
abbrev p_check_wished : List Str := ["tree", "wished"]
abbrev n_check_wished : List Str := ["tree", "wished", "many", "at", "node"]
abbrev s_check_wishes : Stmt := topS 17
abbrev p_check_wishes : List Str := ["tree", "values", "wished"]
abbrev n_check_wishes : List Str := ["tree", "values", "wished"]
abbrev s_greater_nodes : Stmt := topS 18
abbrev p_greater_nodes : List Str := ["tree", "wished"]
abbrev n_greater_nodes : List Str := ["tree", "wished", "ways", "node", "ancestor", "nodes", "greater", "side", "_"]
abbrev s_distances : Stmt := topS 19
abbrev p_distances : List Str := ["tree", "wished"]
abbrev n_distances : List Str := ["tree", "wished", "greater", "far", "one", "steps", "middle", "other", "more"]
abbrev s_conflicts : Stmt := topS 20
abbrev p_conflicts : List Str := ["tree", "values", "wished"]
abbrev n_conflicts : List Str := ["tree", "values", "wished", "rows", "one", "steps", "other"]
abbrev s_gains_next : Stmt := topS 21
abbrev p_gains_next : List Str := ["one", "rows", "before", "tried"]
abbrev n_gains_next : List Str := ["one", "rows", "before", "tried", "other"]
abbrev s_fewest_chains : Stmt := topS 22
abbrev p_fewest_chains : List Str := ["rows"]
abbrev n_fewest_chains : List Str := ["rows", "before", "one"]
abbrev s_chains_of : Stmt := topS 23
abbrev p_chains_of : List Str := ["rows", "before"]
abbrev n_chains_of : List Str := ["rows", "before", "behind", "chains", "node", "chain", "other", "one"]
abbrev s_keepers : Stmt := topS 24
abbrev p_keepers : List Str := ["rows", "before"]
abbrev n_keepers : List Str := ["rows", "before", "one", "followed", "reached", "waiting", "barred", "other", "node"]
abbrev s_can_keep : Stmt := topS 25
abbrev p_can_keep : List Str := ["tree", "values", "wished", "kept"]
abbrev n_can_keep : List Str := ["tree", "values", "wished", "kept", "rows", "at", "node", "one", "other"]
abbrev s_repair : Stmt := topS 26
abbrev p_repair : List Str := ["tree", "values", "wished"]
abbrev n_repair : List Str := ["tree", "values", "wished", "rows", "before"]
abbrev s_repaired : Stmt := topS 27
abbrev p_repaired : List Str := ["tree", "values", "wished"]
abbrev n_repaired : List Str := ["tree", "values", "wished", "kept", "_", "greater", "lowest", "floors", "row", "one", "other", "node"]
abbrev s_are_chains : Stmt := topS 28
abbrev p_are_chains : List Str := ["tree", "values", "wished", "thing"]
abbrev n_are_chains : List Str := ["tree", "values", "wished", "thing", "rows", "chain", "one", "other"]
abbrev s_bounds_below : Stmt := topS 30
abbrev p_bounds_below : List Str := ["values", "above"]
abbrev n_bounds_below : List Str := ["values", "above", "low", "high", "node", "side"]
abbrev s_label_of : Stmt := topS 31
abbrev p_label_of : List Str := ["bounds", "value"]
abbrev n_label_of : List Str := ["bounds", "value", "low", "high"]
abbrev s_labels_of : Stmt := topS 32
abbrev p_labels_of : List Str := ["tree", "values"]
abbrev n_labels_of : List Str := ["tree", "values", "ways", "way", "value"]
abbrev s_found_of : Stmt := topS 33
abbrev p_found_of : List Str := ["tree", "values"]
abbrev n_found_of : List Str := ["tree", "values", "node", "label"]
abbrev s_found : Stmt := topS 34
abbrev p_found : List Str := ["tree", "values"]
abbrev n_found : List Str := ["tree", "values"]
abbrev s_law_draws : Stmt := topS 36
abbrev p_law_draws : List Str := ["cell"]
abbrev n_law_draws : List Str := ["cell"]
abbrev s_law_next : Stmt := topS 37
abbrev p_law_next : List Str := ["draws"]
abbrev n_law_next : List Str := ["draws", "k", "number"]
abbrev s_law_size : Stmt := topS 38
abbrev p_law_size : List Str := ["tree"]
abbrev n_law_size : List Str := ["tree"]
abbrev s_law_tree : Stmt := topS 39
abbrev p_law_tree : List Str := ["draws", "room"]
abbrev n_law_tree : List Str := ["draws", "room", "at"]
abbrev s_law_values : Stmt := topS 40
abbrev p_law_values : List Str := ["draws", "many"]
abbrev n_law_values : List Str := ["draws", "many", "pick", "spread", "k", "told", "at"]
abbrev s_law_way : Stmt := topS 41
abbrev p_law_way : List Str := ["tree", "node"]
abbrev n_law_way : List Str := ["tree", "node", "told", "first", "here"]
abbrev s_law_some : Stmt := topS 42
abbrev p_law_some : List Str := ["draws", "many"]
abbrev n_law_some : List Str := ["draws", "many", "node"]
abbrev s_law_nodes_of : Stmt := topS 43
abbrev p_law_nodes_of : List Str := ["tree", "wished"]
abbrev n_law_nodes_of : List Str := ["tree", "wished", "every", "node", "ancestor", "side"]
abbrev s_law_longest : Stmt := topS 44
abbrev p_law_longest : List Str := ["values"]
abbrev n_law_longest : List Str := ["values", "best", "node", "value", "some", "length", "last"]
abbrev s_law_right : Stmt := topS 45
abbrev p_law_right : List Str := ["draws"]
abbrev n_law_right : List Str := ["draws", "tree", "many", "values", "wished", "kept", "chains", "told", "changed", "node", "value"]
abbrev s_law : Stmt := topS 46
abbrev p_law : List Str := ["script"]
abbrev n_law : List Str := ["script", "cell", "draws", "turn"]
end HSP
namespace HSP
open PySem PySem.Spec PyProof.Rows L2
section
variable {P : Program} {w : World} {K : PySem.W.Frag} {mg : Str → Option Value} {base : Heap}
/-! ### count_nodes -/
/-- what waits: trees of together n nodes -/
inductive Waits (H : Hp) : List V → List Tr → Prop
  | nil : Waits H [] []
  | cons {v : V} {t : Tr} {vs : List V} {ts : List Tr} : TrAt H v t → Waits H vs ts → Waits H (v :: vs) (t :: ts)
theorem Waits.len {H : Hp} {vs : List V} {ts : List Tr} (h : Waits H vs ts) : vs.length = ts.length := by
  induction h with
  | nil => rfl
  | cons _ _ ih => rw [List.length_cons, List.length_cons, ih]
def sizes : List Tr → Nat
  | [] => 0
  | t :: r => t.size + sizes r
def turns : List Tr → Nat
  | [] => 0
  | t :: r => 2 * t.size + 1 + turns r
/-- the list on which they wait, the last one first -/
theorem last_rev {v : V} {vs : List V} : (v :: vs).reverse[(v :: vs).reverse.length - 1]? = some v := by
  rw [List.reverse_cons, List.length_append, List.length_singleton, Nat.add_sub_cancel, List.getElem?_append_right (Nat.le_refl _), Nat.sub_self]
  all_goals rfl
theorem drop_rev {v : V} {vs : List V} : (v :: vs).reverse.dropLast = vs.reverse := by
  rw [List.reverse_cons, List.dropLast_concat]
theorem rev_push {v : V} {vs : List V} : vs.reverse ++ [v] = (v :: vs).reverse := by rw [List.reverse_cons]
theorem rev_empty {vs : List V} : (!vs.reverse.isEmpty) = !vs.isEmpty := by
  cases vs with
  | nil => rfl
  | cons v r =>
    rw [List.reverse_cons]
    cases r.reverse <;> rfl
def spCount : Sp := fun vs H Q _ => ∃ (v : V) (t : Tr), vs = [v] ∧ TrAt H v t ∧ t.size ≤ 1000 ∧ ∀ H', Same H H' → Q (.int t.size) H'
theorem sc_count : FnScope n_count_nodes ["tree"] (defScope s_count_nodes) := ⟨rfl, rfl, rfl, by decide +kernel, rfl, by decide +kernel, by decide +kernel⟩
theorem ok_count (a : At K mg "count_nodes" s_count_nodes) : Df P w K mg base "count_nodes" 1 ["tree"] spCount := by
  refine Df.mk' a sc_count (fun vs H Q E h => ?_) (fun _ _ _ _ _ _ us hl => match us, hl with | [_], _ => rfl) (fun f cdv A outer s H vs Q E hr h => ?_)
  · obtain ⟨v, t, rfl, _⟩ := h
    rfl
  obtain ⟨v, t, rfl, ht, hz, q⟩ := h
  refine ⟨_, pss_cons (ps_set (i := 1) sc_count.nd rfl (.inl rfl) pe_int)
    (pss_cons (ps_set (i := 2) sc_count.nd rfl (.inl rfl) (pe_lst (pa_cons (pv 0) pa_nil)))
    (pss_cons (ps_while PassesOwn.never (pt_truth (pv 2) (by intro _; rfl))
      (pss_cons (ps_set (i := 3) sc_count.nd rfl (.inl rfl) (pe_bm0 PySem.F.plainAttrs_list PySem.F.slot_list_pop PySem.F.type_list_pop mt_pop (pv 2)))
      (pss_one (ps_if (pt_cmpR op_notN (pv 3) pe_non (nomark _))
        (pss_cons (ps_aug (i := 1) sc_count.nd rfl (.inl rfl) pe_int ip_add)
        (pss_cons (ps_expr (pe_bm PySem.F.plainAttrs_list PySem.F.slot_list_append PySem.F.type_list_append mt_append (pv 2) (pa_cons (pe_ix ix_tup (pv 3) pe_int (fun _ _ => rfl)) pa_nil)))
        (pss_one (ps_expr (pe_bm PySem.F.plainAttrs_list PySem.F.slot_list_append PySem.F.type_list_append mt_append (pv 2) (pa_cons (pe_ix ix_tup (pv 3) pe_int (fun _ _ => rfl)) pa_nil)))))) pss_nil))))
    (pss_one (ps_ret (pv 1))))), ?_⟩
  refine ⟨v, rfl, (by show 1 ≤ sizeLine; decide), fun l hl => ?_⟩
  have s0 : Same H (upd H l (.lst [v])) := Same.new hl
  refine ⟨fun m σ H1 => ∃ (vs : List V) (ts : List Tr) (n : Nat) (y : Option V), σ = [some v, some (.int n), some (.ref l), y] ∧ Same H H1 ∧ H1 l = some (.lst vs.reverse) ∧ Waits H vs ts ∧ n + sizes ts = t.size ∧ vs.length ≤ n + 1 ∧ m = turns ts,
    ⟨_, [v], [t], 0, none, rfl, s0, upd_same, .cons ht .nil, by show 0 + (t.size + 0) = t.size; omega, by show 1 ≤ 0 + 1; omega, rfl⟩, fun m σ H1 hW => ?_⟩
  obtain ⟨vs, ts, n, y, rfl, sm, el, hw, hn, hlen, rfl⟩ := hW
  refine ⟨.ref l, rfl, !vs.reverse.isEmpty, .inl ⟨_, .of el, rfl⟩, ?_⟩
  rw [rev_empty]
  cases hw with
  | nil =>
    refine iteF ?_
    exact ⟨_, rfl, by rw [show ((n : Nat) : Int) = ((t.size : Nat) : Int) from congrArg _ hn]; exact q _ sm⟩
  | @cons x u xs us hx hxs =>
    refine iteT ⟨fun σ' H' => ∃ m', m' < turns (u :: us) ∧ ∃ (vs : List V) (ts : List Tr) (n : Nat) (y : Option V), σ' = [some v, some (.int n), some (.ref l), y] ∧ Same H H' ∧ H' l = some (.lst vs.reverse) ∧ Waits H vs ts ∧ n + sizes ts = t.size ∧ vs.length ≤ n + 1 ∧ m' = turns ts,
      fun σ' H' hN => hN, ?_⟩
    refine ⟨.ref l, rfl, .inl ⟨rfl, _, .of el⟩, l, _, x, rfl, rfl, el, last_rev, ?_⟩
    rw [drop_rev]
    have sm2 : Same H (upd H1 l (.lst xs.reverse)) := fun b o e => by rw [upd_ne (ne_of_none e hl)]; exact sm b o e
    refine ⟨x, rfl, rfl, _, rfl, ?_⟩
    cases hx with
    | nil =>
      refine iteF ?_
      refine ⟨_, ?_, xs, us, n, _, rfl, sm2, upd_same, hxs, ?_, ?_, rfl⟩
      · show turns us < 2 * 0 + 1 + turns us; omega
      · have : 0 + sizes us = sizes (Tr.nil :: us) := rfl
        omega
      · rw [List.length_cons] at hlen; omega
    | @nod a x1 y1 l1 r1 ea hl1 hr1 =>
      refine iteT ?_
      refine ⟨_, rfl, _, _, rfl, rfl, ?_⟩
      have e2 : (upd H1 l (.lst xs.reverse)) a = some (.tup [x1, y1]) := sm2 _ _ ea
      refine ⟨_, rfl, .inl ⟨rfl, _, .of upd_same⟩, _, rfl, a, _, _, y1, rfl, rfl, .of e2, atI_nat (j := 1) rfl, l, _, _, rfl, rfl, upd_same, ?_, ?_⟩
      · rw [List.length_reverse]
        rw [List.length_cons] at hlen
        exact small1000 (by omega)
      refine ⟨_, rfl, .inl ⟨rfl, _, .of upd_same⟩, _, rfl, a, _, _, x1, rfl, rfl, .of (by rw [upd_ne (ne_of_none ea hl)]; exact e2), atI_nat (xs := [x1, y1]) (j := 0) rfl, l, _, _, rfl, rfl, upd_same, ?_, ?_⟩
      · rw [List.length_append, List.length_reverse, List.length_singleton]
        rw [List.length_cons] at hlen
        have e1 : sizes (Tr.nod l1 r1 :: us) = (l1.size + 1 + r1.size) + sizes us := rfl
        exact small1000 (by omega)
      rw [rev_push, rev_push]
      refine ⟨_, ?_, x1 :: y1 :: xs, l1 :: r1 :: us, n + 1, _, rfl, fun b o e => ?_, upd_same, .cons hl1 (.cons hr1 hxs), ?_, ?_, rfl⟩
      · show 2 * l1.size + 1 + (2 * r1.size + 1 + turns us) < 2 * (l1.size + 1 + r1.size) + 1 + turns us
        omega
      · rw [upd_ne (ne_of_none e hl), upd_ne (ne_of_none e hl)]
        exact sm2 b o e
      · have e1 : sizes (Tr.nod l1 r1 :: us) = (l1.size + 1 + r1.size) + sizes us := rfl
        show n + 1 + (l1.size + (r1.size + sizes us)) = t.size
        omega
      · rw [List.length_cons] at hlen
        show xs.length + 1 + 1 ≤ n + 1 + 1
        omega
end
end HSP
namespace HSP
open PySem PySem.Spec PyProof.Rows L2
section
variable {P : Program} {w : World} {K : PySem.W.Frag} {mg : Str → Option Value} {base : Heap}
/-! ### is_whole -/
def spWhole : Sp := fun vs H Q _ => ∃ i : Int, vs = [.int i] ∧ Q (.bl true) H
theorem sc_whole : FnScope n_is_whole ["thing"] (defScope s_is_whole) := ⟨rfl, rfl, rfl, by decide +kernel, rfl, by decide +kernel, by decide +kernel⟩
theorem ok_whole (B : Bl mg) (a : At K mg "is_whole" s_is_whole) : Df P w K mg base "is_whole" 1 ["thing"] spWhole := by
  refine Df.mk' a sc_whole (fun vs H Q E h => ?_) (fun _ _ _ _ _ _ us hl => match us, hl with | [_], _ => rfl) (fun f cdv A outer s H vs Q E hr h => ?_)
  · obtain ⟨v, rfl, _⟩ := h
    rfl
  obtain ⟨i, rfl, q⟩ := h
  refine ⟨_, pss_one (ps_ret (pe_and (pe_callB call_isi (by rfl) B.isinstance (by decide +kernel) (pa_cons (pv 0) (pa_cons (pe_bltn (v := .ty "int") (by rfl) B.int (by decide +kernel) rfl) pa_nil)))
    (pe_one (pe_not (pe_callB call_isi (by rfl) B.isinstance (by decide +kernel) (pa_cons (pv 0) (pa_cons (pe_bltn (v := .ty "bool") (by rfl) B.bool (by decide +kernel) rfl) pa_nil))))))), ?_⟩
  refine ⟨_, rfl, _, _, _, _, true, rfl, .ty "int", .base (.int i), rfl, true, rfl, iteT ?_⟩
  exact ⟨_, rfl, _, _, _, _, false, rfl, .ty "bool", .base (.int i), rfl, false, rfl, q⟩
end
end HSP
namespace HSP
open PySem PySem.Spec PyProof.Rows L2
section
variable {P : Program} {w : World} {K : PySem.W.Frag} {mg : Str → Option Value} {base : Heap}
/-! ### is_tree -/
def spTree : Sp := fun vs H Q _ => ∃ (v : V) (t : Tr), vs = [v] ∧ TrAt H v t ∧ t.size ≤ 1000 ∧ ∀ H', Same H H' → Q (.bl true) H'
theorem sc_tree : FnScope n_is_tree ["thing"] (defScope s_is_tree) := ⟨rfl, rfl, rfl, by decide +kernel, rfl, by decide +kernel, by decide +kernel⟩
theorem ok_tree (B : Bl mg) (a : At K mg "is_tree" s_is_tree) : Df P w K mg base "is_tree" 1 ["thing"] spTree := by
  refine Df.mk' a sc_tree (fun vs H Q E h => ?_) (fun _ _ _ _ _ _ us hl => match us, hl with | [_], _ => rfl) (fun f cdv A outer s H vs Q E hr h => ?_)
  · obtain ⟨v, t, rfl, _⟩ := h
    rfl
  obtain ⟨v, t, rfl, ht, hz, q⟩ := h
  refine ⟨_, pss_cons (ps_set (i := 1) sc_tree.nd rfl (.inl rfl) (pe_lst (pa_cons (pv 0) pa_nil)))
    (pss_cons (ps_while PassesOwn.never (pt_truth (pv 1) (by intro _; rfl))
      (pss_cons (ps_set (i := 2) sc_tree.nd rfl (.inl rfl) (pe_bm0 PySem.F.plainAttrs_list PySem.F.slot_list_pop PySem.F.type_list_pop mt_pop (pv 1)))
      (pss_one (ps_if (pt_cmpR op_notN (pv 2) pe_non (nomark _))
        (pss_cons (ps_if (PW.pt (pw_or (pt_not (pt_val (pe_callB call_isi (by rfl) B.isinstance (by decide +kernel) (pa_cons (pv 2) (pa_cons (pe_bltn (v := .ty "tuple") (by rfl) B.tuple (by decide +kernel) rfl) pa_nil)))))
            (pw_or1 (pt_cmpR op_ne (pe_callB call_len_seq (by rfl) B.len PySem.boot_len (pa_cons (pv 2) pa_nil)) pe_int (nomark _)))))
          (pss_one (ps_ret pe_bl)) pss_nil)
        (pss_cons (ps_expr (pe_bm PySem.F.plainAttrs_list PySem.F.slot_list_append PySem.F.type_list_append mt_append (pv 1) (pa_cons (pe_ix ix_tup (pv 2) pe_int (fun _ _ => rfl)) pa_nil)))
        (pss_one (ps_expr (pe_bm PySem.F.plainAttrs_list PySem.F.slot_list_append PySem.F.type_list_append mt_append (pv 1) (pa_cons (pe_ix ix_tup (pv 2) pe_int (fun _ _ => rfl)) pa_nil)))))) pss_nil))))
    (pss_one (ps_ret pe_bl))), ?_⟩
  refine ⟨v, rfl, (by show 1 ≤ sizeLine; decide), fun l hl => ?_⟩
  have s0 : Same H (upd H l (.lst [v])) := Same.new hl
  refine ⟨fun m σ H1 => ∃ (vs : List V) (ts : List Tr) (n : Nat) (y : Option V), σ = [some v, some (.ref l), y] ∧ Same H H1 ∧ H1 l = some (.lst vs.reverse) ∧ Waits H vs ts ∧ n + sizes ts = t.size ∧ vs.length ≤ n + 1 ∧ m = turns ts,
    ⟨_, [v], [t], 0, none, rfl, s0, upd_same, .cons ht .nil, by show 0 + (t.size + 0) = t.size; omega, by show 1 ≤ 0 + 1; omega, rfl⟩, fun m σ H1 hW => ?_⟩
  obtain ⟨vs, ts, n, y, rfl, sm, el, hw, hn, hlen, rfl⟩ := hW
  refine ⟨.ref l, rfl, !vs.reverse.isEmpty, .inl ⟨_, .of el, rfl⟩, ?_⟩
  rw [rev_empty]
  cases hw with
  | nil => exact iteF (q _ sm)
  | @cons x u xs us hx hxs =>
    refine iteT ⟨fun σ' H' => ∃ m', m' < turns (u :: us) ∧ ∃ (vs : List V) (ts : List Tr) (n : Nat) (y : Option V), σ' = [some v, some (.ref l), y] ∧ Same H H' ∧ H' l = some (.lst vs.reverse) ∧ Waits H vs ts ∧ n + sizes ts = t.size ∧ vs.length ≤ n + 1 ∧ m' = turns ts,
      fun σ' H' hN => hN, ?_⟩
    refine ⟨.ref l, rfl, .inl ⟨rfl, _, .of el⟩, l, _, x, rfl, rfl, el, last_rev, ?_⟩
    rw [drop_rev]
    have sm2 : Same H (upd H1 l (.lst xs.reverse)) := fun b o e => by rw [upd_ne (ne_of_none e hl)]; exact sm b o e
    refine ⟨x, rfl, rfl, _, rfl, ?_⟩
    cases hx with
    | nil =>
      refine iteF ?_
      refine ⟨_, ?_, xs, us, n, _, rfl, sm2, upd_same, hxs, ?_, ?_, rfl⟩
      · show turns us < 2 * 0 + 1 + turns us; omega
      · have : 0 + sizes us = sizes (Tr.nil :: us) := rfl
        omega
      · rw [List.length_cons] at hlen; omega
    | @nod a x1 y1 l1 r1 ea hl1 hr1 =>
      refine iteT ?_
      have e2 : (upd H1 l (.lst xs.reverse)) a = some (.tup [x1, y1]) := sm2 _ _ ea
      refine ⟨_, rfl, _, _, _, _, true, rfl, .ty "tuple", .base (.tup e2), rfl, true, rfl, iteF ?_⟩
      refine ⟨_, rfl, a, _, rfl, .inr (.of e2), rfl, _, rfl, iteF ?_⟩
      refine ⟨_, rfl, .inl ⟨rfl, _, .of upd_same⟩, _, rfl, a, _, _, y1, rfl, rfl, .of e2, atI_nat (j := 1) rfl, l, _, _, rfl, rfl, upd_same, ?_, ?_⟩
      · rw [List.length_reverse]
        rw [List.length_cons] at hlen
        exact small1000 (by omega)
      refine ⟨_, rfl, .inl ⟨rfl, _, .of upd_same⟩, _, rfl, a, _, _, x1, rfl, rfl, .of (by rw [upd_ne (ne_of_none ea hl)]; exact e2), atI_nat (xs := [x1, y1]) (j := 0) rfl, l, _, _, rfl, rfl, upd_same, ?_, ?_⟩
      · rw [List.length_append, List.length_reverse, List.length_singleton]
        rw [List.length_cons] at hlen
        have e1 : sizes (Tr.nod l1 r1 :: us) = (l1.size + 1 + r1.size) + sizes us := rfl
        exact small1000 (by omega)
      rw [rev_push, rev_push]
      refine ⟨_, ?_, x1 :: y1 :: xs, l1 :: r1 :: us, n + 1, _, rfl, fun b o e => ?_, upd_same, .cons hl1 (.cons hr1 hxs), ?_, ?_, rfl⟩
      · show 2 * l1.size + 1 + (2 * r1.size + 1 + turns us) < 2 * (l1.size + 1 + r1.size) + 1 + turns us
        omega
      · rw [upd_ne (ne_of_none e hl), upd_ne (ne_of_none e hl)]
        exact sm2 b o e
      · have e1 : sizes (Tr.nod l1 r1 :: us) = (l1.size + 1 + r1.size) + sizes us := rfl
        show n + 1 + (l1.size + (r1.size + sizes us)) = t.size
        omega
      · rw [List.length_cons] at hlen
        show xs.length + 1 + 1 ≤ n + 1 + 1
        omega
/-! ### check_tree -/
theorem sc_chkT : FnScope n_check_tree ["tree"] (defScope s_check_tree) := ⟨rfl, rfl, rfl, by decide +kernel, rfl, by decide +kernel, by decide +kernel⟩
def spChkT : Sp := fun vs H Q _ => ∃ (v : V) (t : Tr), vs = [v] ∧ TrAt H v t ∧ t.size ≤ 1000 ∧ ∀ H', Same H H' → Q .non H'
theorem ok_chkT (T : Df P w K mg base "is_tree" 1 ["thing"] spTree) (a : At K mg "check_tree" s_check_tree) : Df P w K mg base "check_tree" 2 ["tree"] spChkT := by
  refine Df.mk' a sc_chkT (fun vs H Q E h => ?_) (fun _ _ _ _ _ _ us hl => match us, hl with | [_], _ => rfl) (fun f cdv A outer s H vs Q E hr h => ?_)
  · obtain ⟨v, t, rfl, _⟩ := h
    rfl
  obtain ⟨v, t, rfl, ht, hz, q⟩ := h
  refine ⟨_, pss_one (ps_if (pt_not (pt_val (pe_df T hr (pa_cons (pv 0) pa_nil)))) (pss_one ps_never) pss_nil), ?_⟩
  refine ⟨v, rfl, v, t, rfl, ht, hz, fun H' sm => ⟨true, rfl, iteF ?_⟩⟩
  exact q H' sm
end
end HSP
namespace HSP
open PySem PySem.Spec PyProof.Rows L2
/-! ## max(.., default=None), min(.., default=None) of ints -/
theorem maxOf_spec : ∀ (ys : List Int) (y : Int), (PySem.W.maxOf y ys) ∈ y :: ys ∧ ∀ z, z ∈ y :: ys → z ≤ PySem.W.maxOf y ys
  | [], y => ⟨List.mem_cons_self, fun z hz => by rw [List.mem_singleton.mp hz]; exact Int.le_refl y⟩
  | x :: r, y => by
    have e : PySem.W.maxOf y (x :: r) = PySem.W.maxOf (if y < x then x else y) r := by
      unfold PySem.W.maxOf
      rw [List.foldl_cons]
      show List.foldl _ (if decide (y < x) = true then x else y) r = _
      by_cases c : y < x
      · rw [if_pos c, if_pos (decide_eq_true c)]
      · rw [if_neg c, if_neg (fun z => c (of_decide_eq_true z))]
    rw [e]
    obtain ⟨h1, h2⟩ := maxOf_spec r (if y < x then x else y)
    generalize PySem.W.maxOf (if y < x then x else y) r = M at h1 h2 ⊢
    constructor
    · rcases List.mem_cons.mp h1 with z | z
      · rw [z]
        split
        · exact List.mem_cons_of_mem _ List.mem_cons_self
        · exact List.mem_cons_self
      · exact List.mem_cons_of_mem _ (List.mem_cons_of_mem _ z)
    · intro z hz
      have h3 := h2 (if y < x then x else y) List.mem_cons_self
      rcases List.mem_cons.mp hz with q | q
      · rw [q]
        split at h3 <;> omega
      · rcases List.mem_cons.mp q with q | q
        · rw [q]
          split at h3 <;> omega
        · exact h2 z (List.mem_cons_of_mem _ q)
theorem minOf_spec : ∀ (ys : List Int) (y : Int), (PySem.W.minOf y ys) ∈ y :: ys ∧ ∀ z, z ∈ y :: ys → PySem.W.minOf y ys ≤ z
  | [], y => ⟨List.mem_cons_self, fun z hz => by rw [List.mem_singleton.mp hz]; exact Int.le_refl y⟩
  | x :: r, y => by
    have e : PySem.W.minOf y (x :: r) = PySem.W.minOf (if x < y then x else y) r := by
      unfold PySem.W.minOf
      rw [List.foldl_cons]
      show List.foldl _ (if decide (x < y) = true then x else y) r = _
      by_cases c : x < y
      · rw [if_pos c, if_pos (decide_eq_true c)]
      · rw [if_neg c, if_neg (fun z => c (of_decide_eq_true z))]
    rw [e]
    obtain ⟨h1, h2⟩ := minOf_spec r (if x < y then x else y)
    generalize PySem.W.minOf (if x < y then x else y) r = M at h1 h2 ⊢
    constructor
    · rcases List.mem_cons.mp h1 with z | z
      · rw [z]
        split
        · exact List.mem_cons_of_mem _ List.mem_cons_self
        · exact List.mem_cons_self
      · exact List.mem_cons_of_mem _ (List.mem_cons_of_mem _ z)
    · intro z hz
      have h3 := h2 (if x < y then x else y) List.mem_cons_self
      rcases List.mem_cons.mp hz with q | q
      · rw [q]
        split at h3 <;> omega
      · rcases List.mem_cons.mp q with q | q
        · rw [q]
          split at h3 <;> omega
        · exact h2 z (List.mem_cons_of_mem _ q)
theorem holds_is {h : Heap} {v : Value} {i : Int} (q : PySem.W.Holds h v i) : ∃ t, v = .int i t := by
  obtain ⟨as, r⟩ := q
  cases r with
  | int _ t => exact ⟨t, rfl⟩
section
variable {X : Cx}
def rMaxN : List V → List V → Hp → VK → Prop := fun vs zs H Q => ∃ (a : Addr) (ns : List Int), vs = [V.ref a] ∧ zs = [V.non] ∧ H a = some (.lst (ns.map V.int)) ∧ (ns = [] → Q .non H) ∧ ∀ m, m ∈ ns → (∀ y, y ∈ ns → y ≤ m) → Q (.int m) H
def rMinN : List V → List V → Hp → VK → Prop := fun vs zs H Q => ∃ (a : Addr) (ns : List Int), vs = [V.ref a] ∧ zs = [V.non] ∧ H a = some (.lst (ns.map V.int)) ∧ (ns = [] → Q .non H) ∧ ∀ m, m ∈ ns → (∀ y, y ∈ ns → m ≤ y) → Q (.int m) H
theorem crk_maxN (hc : X.calm = true) (hu : X.A.units + 64 < cLine) : CallRK X (.builtin "max") ["default"] rMaxN := by
  intro pins s σ H xs zs us ws Q I r rz h
  obtain ⟨a, ns, rfl, rfl, ha, q0, q1⟩ := h
  rw [Vals.ref1 r]
  obtain ⟨z, its, n, rv, e⟩ : ObjOk X.prog X.w H s.heap a (.lst (ns.map V.int)) := I.hok a _ ha
  cases rz with
  | cons r1 t1 =>
    cases t1
    cases (show _ = Value.none from r1)
    refine PySem.W.max_list_datum_default (I.ok.hd hc) (show s.heap.IsList a its.toArray from ⟨_, e, rfl, n, rfl⟩) (PySem.W.HoldAll.of_ints (ints_of_vals rv)) (by show X.A.units + 1 + 0 < cLine; omega) (fun e0 h' tk kp => ?_) (fun y ys i v h' tk ey _ hv kp => ?_)
    · exact ⟨.non, H, I.kept kp, rfl, q0 e0⟩
    · obtain ⟨t, rfl⟩ := holds_is hv
      obtain ⟨m1, m2⟩ := maxOf_spec ys y
      exact ⟨.int _, H, I.kept kp, ⟨t, rfl⟩, q1 _ (by rw [ey]; exact m1) (by rw [ey]; exact m2)⟩
theorem crk_minN (hc : X.calm = true) (hu : X.A.units + 64 < cLine) : CallRK X (.builtin "min") ["default"] rMinN := by
  intro pins s σ H xs zs us ws Q I r rz h
  obtain ⟨a, ns, rfl, rfl, ha, q0, q1⟩ := h
  rw [Vals.ref1 r]
  obtain ⟨z, its, n, rv, e⟩ : ObjOk X.prog X.w H s.heap a (.lst (ns.map V.int)) := I.hok a _ ha
  cases rz with
  | cons r1 t1 =>
    cases t1
    cases (show _ = Value.none from r1)
    refine PySem.W.min_list_datum_default (I.ok.hd hc) (show s.heap.IsList a its.toArray from ⟨_, e, rfl, n, rfl⟩) (PySem.W.HoldAll.of_ints (ints_of_vals rv)) (by show X.A.units + 1 + 0 < cLine; omega) (fun e0 h' tk kp => ?_) (fun y ys i v h' tk ey _ hv kp => ?_)
    · exact ⟨.non, H, I.kept kp, rfl, q0 e0⟩
    · obtain ⟨t, rfl⟩ := holds_is hv
      obtain ⟨m1, m2⟩ := minOf_spec ys y
      exact ⟨.int _, H, I.kept kp, ⟨t, rfl⟩, q1 _ (by rw [ey]; exact m1) (by rw [ey]; exact m2)⟩
end
end HSP
namespace HSP
open PySem PySem.Spec PyProof.Rows L2
theorem Paired.app {α β : Type} {R : α → β → Prop} : ∀ {l : List α} {m : List β} {l' : List α} {m' : List β}, Paired R l m → Paired R l' m' → Paired R (l ++ l') (m ++ m')
  | _, _, _, _, .nil, h => h
  | _, _, _, _, .cons a t, h => .cons a (Paired.app t h)
theorem ixN_in {n : Nat} {i : Int} (h0 : 0 ≤ i) (h1 : i < (n : Int)) : ixN n i = some i.toNat := by
  unfold ixN
  rw [if_pos h0, if_pos h1]
def valAt (ns : List Int) (i : Nat) : Int := ns.getD i 0
theorem valAt_get {ns : List Int} {i : Nat} (h : i < ns.length) : (ns.map V.int)[i]? = some (.int (valAt ns i)) := by
  rw [List.getElem?_map, List.getElem?_eq_getElem h, valAt, List.getD_eq_getElem?_getD, List.getElem?_eq_getElem h]
  rfl
def natV (n : Nat) : V := .int (n : Int)
theorem ite_no {c A B : Prop} [Decidable c] (h : ¬ c) (b : B) : if decide c = true then A else B := by
  rw [decide_eq_false h]
  exact iteF b
theorem ite_yes {c A B : Prop} [Decidable c] (h : c) (a : A) : if decide c = true then A else B := by
  rw [decide_eq_true h]
  exact iteT a
inductive Md where
  | fin | lft | rgt
def Md.str : Md → Str
  | .fin => "end"
  | .lft => "left"
  | .rgt => "right"
/-- where a search goes on -/
def wayOf (tw v : Int) (m : Md) : Md := if tw = 2 * v then m else if tw < 2 * v then .lft else .rgt
/-! ### the search, as a function of the tree -/
/-- how it ends: is it found, and the node or the gap -/
def sEnd (g : Nat → Int) (tw : Int) (m : Md) : Tr → Nat → Bool × Nat
  | .nil, f => (false, f)
  | .nod l r, f => match wayOf tw (g (f + l.size)) m with
    | .fin => (true, f + l.size)
    | .lft => sEnd g tw m l f
    | .rgt => sEnd g tw m r (f + l.size + 1)
theorem sEnd_nod (g : Nat → Int) (tw : Int) (m : Md) (l r : Tr) (f : Nat) : sEnd g tw m (.nod l r) f = match wayOf tw (g (f + l.size)) m with | .fin => (true, f + l.size) | .lft => sEnd g tw m l f | .rgt => sEnd g tw m r (f + l.size + 1) := rfl
/-- the nodes at which it is -/
def sPath (g : Nat → Int) (tw : Int) (m : Md) : Tr → Nat → List Nat
  | .nil, _ => []
  | .nod l r, f => (f + l.size) :: match wayOf tw (g (f + l.size)) m with
    | .fin => []
    | .lft => sPath g tw m l f
    | .rgt => sPath g tw m r (f + l.size + 1)
theorem sPath_in (g : Nat → Int) (tw : Int) (m : Md) : ∀ (t : Tr) (f i : Nat), i ∈ sPath g tw m t f → f ≤ i ∧ i < f + t.size
  | .nil, _, _, h => by cases h
  | .nod l r, f, i, h => by
    have e : sPath g tw m (.nod l r) f = (f + l.size) :: match wayOf tw (g (f + l.size)) m with | .fin => [] | .lft => sPath g tw m l f | .rgt => sPath g tw m r (f + l.size + 1) := rfl
    have z : (Tr.nod l r).size = l.size + 1 + r.size := rfl
    rw [e] at h
    rw [z]
    rcases List.mem_cons.mp h with q | q
    · omega
    · cases w : wayOf tw (g (f + l.size)) m with
      | fin => rw [w] at q; cases q
      | lft =>
        rw [w] at q
        have := sPath_in g tw m l f i q
        omega
      | rgt =>
        rw [w] at q
        have := sPath_in g tw m r (f + l.size + 1) i q
        omega
theorem sPath_len (g : Nat → Int) (tw : Int) (m : Md) : ∀ (t : Tr) (f : Nat), (sPath g tw m t f).length ≤ t.size
  | .nil, _ => Nat.le_refl _
  | .nod l r, f => by
    have e : sPath g tw m (.nod l r) f = (f + l.size) :: match wayOf tw (g (f + l.size)) m with | .fin => [] | .lft => sPath g tw m l f | .rgt => sPath g tw m r (f + l.size + 1) := rfl
    have z : (Tr.nod l r).size = l.size + 1 + r.size := rfl
    rw [e, z, List.length_cons]
    cases wayOf tw (g (f + l.size)) m with
    | fin => show 0 + 1 ≤ _; omega
    | lft => have := sPath_len g tw m l f; show (sPath g tw m l f).length + 1 ≤ _; omega
    | rgt => have := sPath_len g tw m r (f + l.size + 1); show (sPath g tw m r (f + l.size + 1)).length + 1 ≤ _; omega
def optNV : Option Nat → V
  | none => .non
  | some n => natV n
def kindV (b : Bool) : V := if b = true then .str "found" else .str "gap"
end HSP
namespace HSP
open PySem PySem.Spec PyProof.Rows L2
/-! ## heaps: all but some places stay -/
def Stay (X : List Addr) (H H' : Hp) : Prop := ∀ b o, b ∉ X → H b = some o → H' b = some o
theorem Stay.refl (X : List Addr) (H : Hp) : Stay X H H := fun _ _ _ e => e
theorem Stay.trans {X : List Addr} {H H1 H2 : Hp} (a : Stay X H H1) (b : Stay X H1 H2) : Stay X H H2 := fun c o n e => b c o n (a c o n e)
theorem Stay.of {X : List Addr} {H H' : Hp} (s : Same H H') : Stay X H H' := fun b o _ e => s b o e
theorem Stay.new {X : List Addr} {H : Hp} {p : Addr} {o : HO} (h : H p = none) : Stay X H (upd H p o) := fun b u _ e => by
  rw [upd_ne (ne_of_none e h)]; exact e
theorem Stay.at {X : List Addr} {H : Hp} {p : Addr} {o : HO} (h : p ∈ X) : Stay X H (upd H p o) := fun b u n e => by
  rw [upd_ne (fun z : b = p => n (by rw [z]; exact h))]; exact e
theorem Stay.mono {X Y : List Addr} {H H' : Hp} (a : Stay X H H') (h : ∀ x, x ∈ X → x ∈ Y) : Stay Y H H' := fun b o n e => a b o (fun z => n (h b z)) e
theorem Stay.then {X : List Addr} {H H1 H2 : Hp} (a : Stay X H H1) (b : Same H1 H2) : Stay X H H2 := a.trans (.of b)
theorem Stay.anew {X : List Addr} {H H1 : Hp} {p : Addr} {o : HO} (a : Stay X H H1) (h : H1 p = none) : Stay X H (upd H1 p o) := a.trans (.new h)
theorem Stay.put {X : List Addr} {H H1 : Hp} {p : Addr} {o : HO} (a : Stay X H H1) (h : p ∈ X) : Stay X H (upd H1 p o) := a.trans (.at h)
theorem Stay.free {X : List Addr} {H H' : Hp} {b : Addr} (a : Stay X H H') (n : b ∉ X) (h : H' b = none) : H b = none := by
  cases e : H b with
  | none => rfl
  | some o => cases h.symm.trans (a b o n e)
/-- what was not tracked at first may be written -/
theorem Stay.same {X : List Addr} {H H1 H' : Hp} (s : Same H H1) (n : ∀ x, x ∈ X → H x = none) (k : Stay X H1 H') : Same H H' := fun b o e => k b o (fun z => by rw [n b z] at e; cases e) (s b o e)
theorem no2 {a b c : Addr} (h1 : a ≠ b) (h2 : a ≠ c) : a ∉ [b, c] := fun z => by
  rcases List.mem_cons.mp z with q | q
  · exact h1 q
  · exact h2 (List.mem_singleton.mp q)
theorem no1 {a b : Addr} (h1 : a ≠ b) : a ∉ [b] := fun z => h1 (List.mem_singleton.mp z)
theorem in2l {a b : Addr} : a ∈ [a, b] := List.mem_cons_self
theorem in2r {a b : Addr} : b ∈ [a, b] := List.mem_cons_of_mem _ List.mem_cons_self
theorem in1 {a : Addr} : a ∈ [a] := List.mem_cons_self
theorem tup_ne {H : Hp} {a b : Addr} {xs ys : List V} (h : H a = some (.tup xs)) (h2 : H b = some (.lst ys)) : a ≠ b := fun z => by
  rw [z, h2] at h; cases h
theorem TrAt.stay {X : List Addr} {H H' : Hp} {v : V} {t : Tr} (h : TrAt H v t) (k : Stay X H H') (n : ∀ x, x ∈ X → ∃ ys, H x = some (.lst ys)) : TrAt H' v t :=
  h.keep fun a x y e => k a _ (fun z => by
    obtain ⟨ys, q⟩ := n a z
    rw [q] at e
    cases e) e
theorem valAt_mem {ns : List Int} {i : Nat} (h : i < ns.length) : valAt ns i ∈ ns := by
  have e : valAt ns i = ns[i] := by
    unfold valAt
    rw [List.getD_eq_getElem?_getD, List.getElem?_eq_getElem h]
    rfl
  rw [e]
  exact List.getElem_mem h
theorem TrAt.put {H : Hp} {v : V} {t : Tr} {a : Addr} {xs : List V} {o : HO} (h : TrAt H v t) (e : H a = some (.lst xs)) : TrAt (upd H a o) v t := by
  refine h.keep fun b x y eb => ?_
  rw [upd_ne]
  · exact eb
  · intro z
    rw [z, e] at eb
    cases eb
theorem Keep.free {p q : Addr} {H H' : Hp} (k : Keep p H H') (n : q ≠ p) (h : H' q = none) : H q = none := by
  cases e : H q with
  | none => rfl
  | some o => cases h.symm.trans (k q o n e)
theorem Paired.getL {α β : Type} {R : α → β → Prop} : ∀ {l : List α} {m : List β} {i : Nat} {x : α}, Paired R l m → l[i]? = some x → ∃ y, m[i]? = some y ∧ R x y
  | _, _, i, _, .nil, e => by simp at e
  | _, _, 0, _, .cons h _, e => by
    cases Option.some.inj (show some _ = some _ from e)
    exact ⟨_, rfl, h⟩
  | _, _, i + 1, _, .cons _ t, e => Paired.getL (i := i) t e
end HSP
namespace HSP
open PySem PySem.Spec PyProof.Rows L2
/-! ### the paths of the nodes -/
/-- the ancestors of the node i, from the root down, and whether it lies right of them -/
def pOf : Tr → Nat → Nat → List (Nat × Bool)
  | .nil, _, _ => []
  | .nod l r, f, i => if i = f + l.size then [] else if i < f + l.size then (f + l.size, false) :: pOf l f i else (f + l.size, true) :: pOf r (f + l.size + 1) i
def sideV (b : Bool) : V := if b = true then .str "right" else .str "left"
/-- a path stands at r -/
def PathAt (H : Hp) (r : Addr) (p : List (Nat × Bool)) : Prop := ∃ tups : List Addr, H r = some (.lst (tups.map V.ref)) ∧ Paired (fun a (z : Nat × Bool) => H a = some (.tup [natV z.1, sideV z.2])) tups p
theorem PathAt.same {H H' : Hp} {r : Addr} {p : List (Nat × Bool)} (h : PathAt H r p) (s : Same H H') : PathAt H' r p := by
  obtain ⟨t, e, q⟩ := h
  exact ⟨t, s _ _ e, Paired.mapP q fun a z h => s _ _ h⟩
theorem PathAt.put {H : Hp} {r x : Addr} {p : List (Nat × Bool)} {xs ys : List V} (h : PathAt H r p) (n : r ≠ x) (hx : H x = some (.lst xs)) : PathAt (upd H x (.lst ys)) r p := by
  obtain ⟨t, e, q⟩ := h
  refine ⟨t, by rw [upd_ne n]; exact e, Paired.mapP q fun a z h => ?_⟩
  rw [upd_ne (fun e2 => by rw [e2, hx] at h; cases h)]
  exact h
theorem PathAt.stay {X : List Addr} {H H' : Hp} {r : Addr} {p : List (Nat × Bool)} (h : PathAt H r p) (k : Stay X H H') (n : r ∉ X) (hX : ∀ x, x ∈ X → ∃ ys, H x = some (.lst ys)) : PathAt H' r p := by
  obtain ⟨t, e, q⟩ := h
  refine ⟨t, k _ _ n e, Paired.mapP q fun a z h => k _ _ (fun m => ?_) h⟩
  obtain ⟨ys, e2⟩ := hX a m
  rw [e2] at h
  cases h
theorem PathAt.len {H : Hp} {r : Addr} {p : List (Nat × Bool)} {ts : List Addr} (h : Paired (fun a (z : Nat × Bool) => H a = some (.tup [natV z.1, sideV z.2])) ts p) : ts.length = p.length := Paired.length h
/-- all paths stand in the list at q, each one in a list of its own -/
def WaysAt (H : Hp) (q : Addr) (t : Tr) : Prop := ∃ rows : List Addr, H q = some (.lst (rows.map V.ref)) ∧ rows.length = t.size ∧ ∀ i r, rows[i]? = some r → PathAt H r (pOf t 0 i)
theorem pOf_len : ∀ (t : Tr) (f i : Nat), (pOf t f i).length ≤ t.size
  | .nil, _, _ => Nat.le_refl _
  | .nod l r, f, i => by
    have h1 := pOf_len l f i
    have h2 := pOf_len r (f + l.size + 1) i
    unfold pOf
    show _ ≤ l.size + 1 + r.size
    split
    · exact Nat.zero_le _
    · split <;> (rw [List.length_cons]; omega)
theorem pOf_in : ∀ (t : Tr) (f i : Nat) (z : Nat × Bool), z ∈ pOf t f i → f ≤ z.1 ∧ z.1 < f + t.size
  | .nil, _, _, _, h => by cases h
  | .nod l r, f, i, z, h => by
    have e : pOf (.nod l r) f i = if i = f + l.size then [] else if i < f + l.size then (f + l.size, false) :: pOf l f i else (f + l.size, true) :: pOf r (f + l.size + 1) i := rfl
    have sz : (Tr.nod l r).size = l.size + 1 + r.size := rfl
    rw [e] at h
    rw [sz]
    split at h
    · cases h
    · split at h
      · rcases List.mem_cons.mp h with q | q
        · rw [q]
          exact ⟨(by show f ≤ f + l.size; omega), (by show f + l.size < f + (l.size + 1 + r.size); omega)⟩
        · have := pOf_in l f i z q
          omega
      · rcases List.mem_cons.mp h with q | q
        · rw [q]
          exact ⟨(by show f ≤ f + l.size; omega), (by show f + l.size < f + (l.size + 1 + r.size); omega)⟩
        · have := pOf_in r (f + l.size + 1) i z q
          omega
theorem pOf_in0 (t : Tr) (i : Nat) (z : Nat × Bool) (h : z ∈ pOf t 0 i) : z.1 < t.size := by
  have := pOf_in t 0 i z h
  omega
/-- the nodes, the root first, then those of the left part, then those of the right part, each with its path -/
def pre : Tr → Nat → List (Nat × Bool) → List (Nat × List (Nat × Bool))
  | .nil, _, _ => []
  | .nod l r, f, p => (f + l.size, p) :: (pre l f (p ++ [(f + l.size, false)]) ++ pre r (f + l.size + 1) (p ++ [(f + l.size, true)]))
theorem pre_len : ∀ (t : Tr) (f : Nat) (p : List (Nat × Bool)), (pre t f p).length = t.size
  | .nil, _, _ => rfl
  | .nod l r, f, p => by
    show ((f + l.size, p) :: (pre l f (p ++ [(f + l.size, false)]) ++ pre r (f + l.size + 1) (p ++ [(f + l.size, true)]))).length = l.size + 1 + r.size
    rw [List.length_cons, List.length_append, pre_len l, pre_len r]
    omega
theorem pOf_nod (l r : Tr) (f i : Nat) : pOf (.nod l r) f i = if i = f + l.size then [] else if i < f + l.size then (f + l.size, false) :: pOf l f i else (f + l.size, true) :: pOf r (f + l.size + 1) i := rfl
theorem pre_nod (l r : Tr) (f : Nat) (p : List (Nat × Bool)) : pre (.nod l r) f p = (f + l.size, p) :: (pre l f (p ++ [(f + l.size, false)]) ++ pre r (f + l.size + 1) (p ++ [(f + l.size, true)])) := rfl
theorem size_nod (l r : Tr) : (Tr.nod l r).size = l.size + 1 + r.size := rfl
theorem pre_in : ∀ (t : Tr) (f : Nat) (p : List (Nat × Bool)) (n : Nat) (s : List (Nat × Bool)), (n, s) ∈ pre t f p → f ≤ n ∧ n < f + t.size ∧ s = p ++ pOf t f n
  | .nil, _, _, _, _, h => by cases h
  | .nod l r, f, p, n, s, h => by
    rw [pre_nod] at h
    rw [size_nod, pOf_nod]
    rcases List.mem_cons.mp h with z | z
    · obtain ⟨rfl, rfl⟩ := Prod.mk.inj z
      refine ⟨by omega, by omega, ?_⟩
      rw [if_pos rfl, List.append_nil]
    · rcases List.mem_append.mp z with z | z
      · obtain ⟨h1, h2, h3⟩ := pre_in l f _ n s z
        refine ⟨h1, by omega, ?_⟩
        rw [if_neg (by omega), if_pos (by omega), h3, List.append_assoc]
        rfl
      · obtain ⟨h1, h2, h3⟩ := pre_in r (f + l.size + 1) _ n s z
        refine ⟨by omega, by omega, ?_⟩
        rw [if_neg (by omega), if_neg (by omega), h3, List.append_assoc]
        rfl
theorem pre_mem : ∀ (t : Tr) (f : Nat) (p : List (Nat × Bool)) (n : Nat), f ≤ n → n < f + t.size → (n, p ++ pOf t f n) ∈ pre t f p
  | .nil, f, _, n, h1, h2 => by
    have : n < f + 0 := h2
    omega
  | .nod l r, f, p, n, h1, h2 => by
    rw [size_nod] at h2
    rw [pre_nod, pOf_nod]
    by_cases c : n = f + l.size
    · rw [if_pos c, List.append_nil, c]
      exact List.mem_cons_self
    · rw [if_neg c]
      refine List.mem_cons_of_mem _ ?_
      by_cases d : n < f + l.size
      · rw [if_pos d]
        have h := pre_mem l f (p ++ [(f + l.size, false)]) n h1 d
        rw [List.append_assoc] at h
        exact List.mem_append.mpr (.inl h)
      · rw [if_neg d]
        have h := pre_mem r (f + l.size + 1) (p ++ [(f + l.size, true)]) n (by omega) (by omega)
        rw [List.append_assoc] at h
        exact List.mem_append.mpr (.inr h)
/-- a row: a node with its path -/
def RowAt (H : Hp) (R : Addr) (z : Nat × List (Nat × Bool)) : Prop := ∃ b, H R = some (.tup [natV z.1, .ref b]) ∧ PathAt H b z.2
theorem RowAt.same {H H' : Hp} {R : Addr} {z : Nat × List (Nat × Bool)} (h : RowAt H R z) (s : Same H H') : RowAt H' R z := by
  obtain ⟨b, e, q⟩ := h
  exact ⟨b, s _ _ e, q.same s⟩
/-- what waits: a tree, its first node, the path to it -/
structure Wt where
  v : V
  u : Tr
  f : Nat
  b : Addr
  p : List (Nat × Bool)
def WtOk (H0 H : Hp) (X : List Addr) (T : Addr) (x : Wt) : Prop := H T = some (.tup [x.v, natV x.f, .ref x.b]) ∧ TrAt H0 x.v x.u ∧ PathAt H x.b x.p ∧ x.b ∉ X ∧ H0 x.b = none
theorem WtOk.stay {H0 H H' : Hp} {X : List Addr} {T : Addr} {x : Wt} (h : WtOk H0 H X T x) (s : Stay X H H') (hX : ∀ x, x ∈ X → ∃ ys, H x = some (.lst ys)) : WtOk H0 H' X T x := by
  obtain ⟨h1, h2, h3, h4, h5⟩ := h
  refine ⟨s _ _ (fun m => ?_) h1, h2, h3.stay s h4 hX, h4, h5⟩
  obtain ⟨ys, e⟩ := hX T m
  rw [e] at h1
  cases h1
def RowOk (H0 H : Hp) (X : List Addr) (R : Addr) (z : Nat × List (Nat × Bool)) : Prop := ∃ b, H R = some (.tup [natV z.1, .ref b]) ∧ PathAt H b z.2 ∧ b ∉ X ∧ H0 b = none
theorem RowOk.stay {H0 H H' : Hp} {X : List Addr} {R : Addr} {z : Nat × List (Nat × Bool)} (h : RowOk H0 H X R z) (s : Stay X H H') (hX : ∀ x, x ∈ X → ∃ ys, H x = some (.lst ys)) : RowOk H0 H' X R z := by
  obtain ⟨b, h1, h2, h3, h4⟩ := h
  refine ⟨b, s _ _ (fun m => ?_) h1, h2.stay s h3 hX, h3, h4⟩
  obtain ⟨ys, e⟩ := hX R m
  rw [e] at h1
  cases h1
def wtTurns : List Wt → Nat
  | [] => 0
  | x :: r => 2 * x.u.size + 1 + wtTurns r
def wtSizes : List Wt → Nat
  | [] => 0
  | x :: r => x.u.size + wtSizes r
def wtPre : List Wt → List (Nat × List (Nat × Bool))
  | [] => []
  | x :: r => pre x.u x.f x.p ++ wtPre r
/-- a path with one step more, laid anew -/
theorem path_more {H : Hp} {t1 l1 a1 : Addr} {p : List (Nat × Bool)} {z : Nat × Bool} {tups : List Addr} {x y : V} (hx : x = natV z.1) (hy : y = sideV z.2) (hp : Paired (fun a (z : Nat × Bool) => H a = some (.tup [natV z.1, sideV z.2])) tups p) (h1 : H t1 = none) (h2 : upd H t1 (.tup [x, y]) l1 = none)
    (h3 : upd (upd H t1 (.tup [x, y])) l1 (.lst [V.ref t1]) a1 = none) : PathAt (upd (upd (upd H t1 (.tup [x, y])) l1 (.lst [V.ref t1])) a1 (.lst (tups.map V.ref ++ [V.ref t1]))) a1 (p ++ [z]) := by
  subst hx hy
  have s1 := Same.new (o := .tup [natV z.1, sideV z.2]) h1
  have s2 := Same.new (o := .lst [V.ref t1]) h2
  have s3 := Same.new (o := .lst (tups.map V.ref ++ [V.ref t1])) h3
  refine ⟨tups ++ [t1], ?_, Paired.app (Paired.mapP hp fun a z h => s3 _ _ (s2 _ _ (s1 _ _ h))) (.cons (s3 _ _ (s2 _ _ upd_same)) .nil)⟩
  rw [upd_same, List.map_append]
  rfl
section
variable {P : Program} {w : World} {K : PySem.W.Frag} {mg : Str → Option Value} {base : Heap}
theorem sc_walk : FnScope n_walk ["tree"] (defScope s_walk) := ⟨rfl, rfl, rfl, by decide +kernel, rfl, by decide +kernel, by decide +kernel⟩
def spWalk : Sp := fun vs H Q _ => ∃ (v : V) (t : Tr), vs = [v] ∧ TrAt H v t ∧ t.size ≤ 300 ∧ ∀ (H' : Hp) (q : Addr) (rows : List Addr), Same H H' → H q = none → H' q = some (.lst (rows.map V.ref)) → Paired (fun R z => ∃ b, H' R = some (.tup [natV z.1, .ref b]) ∧ PathAt H' b z.2 ∧ b ≠ q ∧ H b = none) rows (pre t 0 []) → Q (.ref q) H'
theorem ok_walk (C : Df P w K mg base "count_nodes" 1 ["tree"] spCount) (a : At K mg "walk" s_walk) : Df P w K mg base "walk" 2 ["tree"] spWalk := by
  refine Df.mk' a sc_walk (fun vs H Q E h => ?_) (fun _ _ _ _ _ _ us hl => match us, hl with | [_], _ => rfl) (fun f cdv A outer s H vs Q E hr h => ?_)
  · obtain ⟨v, t, rfl, _⟩ := h
    rfl
  obtain ⟨v, t, rfl, ht, hz, q⟩ := h
  refine ⟨_, (pss_cons (ps_set (i := 1) sc_walk.nd rfl (.inl rfl) (pe_lst pa_nil))
 (pss_cons (ps_set (i := 2) sc_walk.nd rfl (.inl rfl) (pe_lst (pa_cons (pe_tup (pa_cons (pv 0) (pa_cons pe_int (pa_cons (pe_lst pa_nil) pa_nil)))) pa_nil)))
 (pss_cons (ps_while PassesOwn.never (pt_truth (pv 2) (by intro _; rfl)) (pss_cons (ps_asg (pe_bm0 PySem.F.plainAttrs_list PySem.F.slot_list_pop PySem.F.type_list_pop mt_pop (pv 2)) (pg_tup rfl (pgs_cons (pg_name (i := 3) sc_walk.nd rfl (.inl rfl)) (pgs_cons (pg_name (i := 4) sc_walk.nd rfl (.inl rfl)) (pgs_cons (pg_name (i := 5) sc_walk.nd rfl (.inl rfl)) pgs_nil)))))
 (pss_one (ps_if (pt_cmpR op_notN (pv 3) pe_non (nomark _)) (pss_cons (ps_asg (pv 3) (pg_tup rfl (pgs_cons (pg_name (i := 6) sc_walk.nd rfl (.inl rfl)) (pgs_cons (pg_name (i := 7) sc_walk.nd rfl (.inl rfl)) pgs_nil))))
 (pss_cons (ps_set (i := 8) sc_walk.nd rfl (.inl rfl) (pe_op op_add (pv 4) (pe_df C hr (pa_cons (pv 6) pa_nil))))
 (pss_cons (ps_expr (pe_bm PySem.F.plainAttrs_list PySem.F.slot_list_append PySem.F.type_list_append mt_append (pv 1) (pa_cons (pe_tup (pa_cons (pv 8) (pa_cons (pv 5) pa_nil))) pa_nil)))
 (pss_cons (ps_expr (pe_bm PySem.F.plainAttrs_list PySem.F.slot_list_append PySem.F.type_list_append mt_append (pv 2) (pa_cons (pe_tup (pa_cons (pv 7) (pa_cons (pe_op op_add (pv 8) pe_int) (pa_cons (pe_op op_cat (pv 5) (pe_lst (pa_cons (pe_tup (pa_cons (pv 8) (pa_cons pe_str pa_nil))) pa_nil))) pa_nil)))) pa_nil)))
 (pss_one (ps_expr (pe_bm PySem.F.plainAttrs_list PySem.F.slot_list_append PySem.F.type_list_append mt_append (pv 2) (pa_cons (pe_tup (pa_cons (pv 6) (pa_cons (pv 4) (pa_cons (pe_op op_cat (pv 5) (pe_lst (pa_cons (pe_tup (pa_cons (pv 8) (pa_cons pe_str pa_nil))) pa_nil))) pa_nil)))) pa_nil)))))))) pss_nil))))
 (pss_one (ps_ret (pv 1)))))), ?_⟩
  refine ⟨Nat.zero_le _, fun q0 hq => ?_⟩
  refine ⟨v, rfl, Nat.zero_le _, fun ab hab => ⟨(by show 3 ≤ sizeLine; decide), fun T0 hT0 => ⟨(by show 1 ≤ sizeLine; decide), fun wl hwl => ?_⟩⟩⟩
  have t0 : Same H (upd H q0 (.lst [])) := Same.new hq
  have t1 := Same.new (o := .lst []) hab
  have t2 := Same.new (o := .tup [v, V.int 0, .ref ab]) hT0
  have t3 := Same.new (o := .lst [V.ref T0]) hwl
  have s3 := t0.trans (t1.trans (t2.trans t3))
  have hw : H wl = none := t0.free (t1.free (t2.free hwl))
  have eq3 := t3 _ _ (t2 _ _ (t1 _ _ (upd_same (H := H) (a := q0) (o := .lst []))))
  have nqw : q0 ≠ wl := ne_of_none (t2 _ _ (t1 _ _ upd_same)) hwl
  have nabw : ab ≠ wl := ne_of_none (t2 _ _ upd_same) hwl
  have nabq : ab ≠ q0 := (ne_of_none upd_same hab).symm
  have w0 : WtOk H (upd (upd (upd (upd H q0 (.lst [])) ab (.lst [])) T0 (.tup [v, V.int 0, .ref ab])) wl (.lst [V.ref T0])) [wl, q0] T0 ⟨v, t, 0, ab, []⟩ := ⟨t3 _ _ upd_same, ht, ⟨[], t3 _ _ (t2 _ _ upd_same), .nil⟩, no2 nabw nabq, t0.free hab⟩
  refine ⟨fun m σ H' => ∃ (ts : List Addr) (ws : List Wt) (rows : List Addr) (dn : List (Nat × List (Nat × Bool))) (y3 y4 y5 y6 y7 y8 : Option V), σ = [some v, some (.ref q0), some (.ref wl), y3, y4, y5, y6, y7, y8] ∧ Same H H' ∧ H' wl = some (.lst (ts.map V.ref).reverse) ∧ Paired (WtOk H H' [wl, q0]) ts ws ∧ H' q0 = some (.lst (rows.map V.ref)) ∧ Paired (RowOk H H' [wl, q0]) rows dn ∧
      pre t 0 [] = dn ++ wtPre ws ∧ (∀ x, x ∈ ws → x.p.length + x.u.size ≤ t.size) ∧ dn.length + wtSizes ws ≤ t.size ∧ ts.length + wtSizes ws ≤ t.size + 1 ∧ m = wtTurns ws,
    ⟨_, [T0], [⟨v, t, 0, ab, []⟩], [], [], _, _, _, _, _, _, rfl, s3, upd_same, .cons w0 .nil, eq3, .nil, ?_, fun x hx => ?_, ?_, ?_, rfl⟩, fun m σ H3 hW => ?_⟩
  · show pre t 0 [] = [] ++ (pre t 0 [] ++ [])
    rw [List.nil_append, List.append_nil]
  · rw [List.mem_singleton.mp hx]
    show 0 + t.size ≤ t.size
    omega
  · show 0 + (t.size + 0) ≤ t.size; omega
  · show 1 + (t.size + 0) ≤ t.size + 1; omega
  obtain ⟨ts, ws, rows, dn, y3, y4, y5, y6, y7, y8, rfl, s4, ew, pw, eq, pd, hpre, hin, hsz, hcnt, rfl⟩ := hW
  have hX : ∀ x, x ∈ [wl, q0] → ∃ ys, H3 x = some (.lst ys) := fun x hx => by
    rcases List.mem_cons.mp hx with z | z
    · exact ⟨_, z ▸ ew⟩
    · exact ⟨_, (List.mem_singleton.mp z) ▸ eq⟩
  refine ⟨.ref wl, rfl, !(ts.map V.ref).reverse.isEmpty, .inl ⟨_, .of ew, rfl⟩, ?_⟩
  rw [rev_empty]
  cases pw with
  | nil =>
    refine iteF ?_
    refine ⟨_, rfl, q H3 q0 rows s4 hq eq ?_⟩
    rw [hpre]
    show Paired _ rows (dn ++ [])
    rw [List.append_nil]
    exact Paired.mapP pd fun R z ⟨b, h1, h2, h3, h4⟩ => ⟨b, h1, h2, fun e => h3 (e ▸ in2r), h4⟩
  | @cons T x ts2 ws2 hx hxs =>
    obtain ⟨xv, xu, xf, xb, xp⟩ := x
    refine iteT ⟨fun σ' H' => ∃ m', m' < wtTurns (⟨xv, xu, xf, xb, xp⟩ :: ws2) ∧ ∃ (ts : List Addr) (ws : List Wt) (rows : List Addr) (dn : List (Nat × List (Nat × Bool))) (y3 y4 y5 y6 y7 y8 : Option V), σ' = [some v, some (.ref q0), some (.ref wl), y3, y4, y5, y6, y7, y8] ∧ Same H H' ∧ H' wl = some (.lst (ts.map V.ref).reverse) ∧ Paired (WtOk H H' [wl, q0]) ts ws ∧ H' q0 = some (.lst (rows.map V.ref)) ∧ Paired (RowOk H H' [wl, q0]) rows dn ∧
      pre t 0 [] = dn ++ wtPre ws ∧ (∀ x, x ∈ ws → x.p.length + x.u.size ≤ t.size) ∧ dn.length + wtSizes ws ≤ t.size ∧ ts.length + wtSizes ws ≤ t.size + 1 ∧ m' = wtTurns ws, fun σ' H' hN => hN, ?_⟩
    obtain ⟨eT, hxt, hpa', nb', fb'⟩ := hx
    have hpa : PathAt H3 xb xp := hpa'
    have nb : xb ∉ [wl, q0] := nb'
    have fb : H xb = none := fb'
    clear hpa' nb' fb'
    have nTw : T ≠ wl := tup_ne eT ew
    refine ⟨.ref wl, rfl, .inl ⟨rfl, _, .of ew⟩, wl, _, .ref T, rfl, rfl, ew, last_rev, ?_⟩
    rw [List.map_cons, drop_rev]
    have k5 : Stay [wl, q0] H3 (upd H3 wl (.lst (ts2.map V.ref).reverse)) := .at in2l
    have eT4 : (upd H3 wl (.lst (ts2.map V.ref).reverse)) T = some (.tup [xv, natV xf, .ref xb]) := by rw [upd_ne nTw]; exact eT
    refine ⟨T, _, rfl, .of eT4, rfl, _, _, rfl, _, _, rfl, _, [], rfl, rfl, ?_⟩
    have ew5 : (upd H3 wl (.lst (ts2.map V.ref).reverse)) wl = some (.lst (ts2.map V.ref).reverse) := upd_same
    have eq5 : (upd H3 wl (.lst (ts2.map V.ref).reverse)) q0 = some (.lst (rows.map V.ref)) := by rw [upd_ne nqw]; exact eq
    generalize upd H3 wl (.lst (ts2.map V.ref).reverse) = H5 at eT4 k5 ew5 eq5 ⊢
    have fr : ∀ x, x ∈ [wl, q0] → H x = none := fun x hx => by
      rcases List.mem_cons.mp hx with z | z
      · exact z ▸ hw
      · exact (List.mem_singleton.mp z) ▸ hq
    refine ⟨_, rfl, rfl, _, rfl, ?_⟩
    rw [List.length_cons] at hcnt
    have hin2 := fun x hx => hin x (List.mem_cons_of_mem _ hx)
    have hin1 : xp.length + xu.size ≤ t.size := hin ⟨xv, xu, xf, xb, xp⟩ List.mem_cons_self
    cases hxt with
    | nil =>
      refine iteF ?_
      have z1 : wtSizes (⟨.non, .nil, xf, xb, xp⟩ :: ws2) = 0 + wtSizes ws2 := rfl
      refine ⟨wtTurns ws2, by show wtTurns ws2 < 2 * 0 + 1 + wtTurns ws2; omega, ts2, ws2, rows, dn, _, _, _, _, _, _, rfl, k5.same s4 fr, ew5, Paired.mapP hxs fun a z h => h.stay k5 hX, eq5, Paired.mapP pd fun a z h => h.stay k5 hX, hpre, hin2, by omega, by omega, rfl⟩
    | @nod b x1 x2 l r eb hl hr2 =>
      refine iteT ?_
      have s5 := k5.same s4 fr
      rw [size_nod] at hin1
      have zz : wtSizes (⟨.ref b, .nod l r, xf, xb, xp⟩ :: ws2) = (l.size + 1 + r.size) + wtSizes ws2 := rfl
      rw [zz] at hsz hcnt
      have lrows : rows.length = dn.length := Paired.length pd
      refine ⟨_, rfl, b, [x1, x2], rfl, .of (s5 _ _ eb), rfl, x1, _, rfl, x2, [], rfl, rfl, ?_⟩
      refine ⟨_, rfl, x1, rfl, x1, l, rfl, hl.same s5, by omega, fun H6 s6 => ⟨_, _, rfl, rfl, ?_⟩⟩
      have en : V.int ((xf : Int) + (l.size : Int)) = natV (xf + l.size) := congrArg V.int (by omega)
      have k6 := k5.trans (.of s6)
      -- the row
      refine ⟨_, rfl, .inl ⟨rfl, _, .of (s6 _ _ eq5)⟩, _, rfl, _, rfl, (by show 2 ≤ sizeLine; decide), fun R hR => ?_⟩
      have a0 := Same.new (o := .tup [V.int ((xf : Int) + (l.size : Int)), .ref xb]) hR
      refine ⟨q0, _, _, rfl, rfl, a0 _ _ (s6 _ _ eq5), ?_, ?_⟩
      · rw [List.length_map]
        exact small1000 (by omega)
      have k7 := (k6.anew (p := R) (o := .tup [V.int ((xf : Int) + (l.size : Int)), .ref xb]) hR).put (p := q0) (o := .lst (rows.map V.ref ++ [V.ref R])) in2r
      have nRq : R ≠ q0 := (ne_of_none (s6 _ _ eq5) hR).symm
      have nRw : R ≠ wl := (ne_of_none (s6 _ _ ew5) hR).symm
      have eR7 : (upd (upd H6 R (.tup [V.int ((xf : Int) + (l.size : Int)), .ref xb])) q0 (.lst (rows.map V.ref ++ [V.ref R]))) R = some (.tup [natV (xf + l.size), .ref xb]) := by
        rw [upd_ne nRq, upd_same, en]
      have ew7 : (upd (upd H6 R (.tup [V.int ((xf : Int) + (l.size : Int)), .ref xb])) q0 (.lst (rows.map V.ref ++ [V.ref R]))) wl = some (.lst (ts2.map V.ref).reverse) := by
        rw [upd_ne nqw.symm]
        exact a0 _ _ (s6 _ _ ew5)
      have eq7 : (upd (upd H6 R (.tup [V.int ((xf : Int) + (l.size : Int)), .ref xb])) q0 (.lst (rows.map V.ref ++ [V.ref R]))) q0 = some (.lst ((rows ++ [R]).map V.ref)) := by
        rw [upd_same, List.map_append]
        rfl
      generalize upd (upd H6 R (.tup [V.int ((xf : Int) + (l.size : Int)), .ref xb])) q0 (.lst (rows.map V.ref ++ [V.ref R])) = H7 at k7 eR7 ew7 eq7 ⊢
      have en2 : V.int ((xf : Int) + (l.size : Int) + 1) = natV (xf + l.size + 1) := congrArg V.int (by omega)
      -- the right part waits
      obtain ⟨tups, exb, pt⟩ := hpa.stay k7 nb hX
      have ltp := Paired.length pt
      refine ⟨_, rfl, .inl ⟨rfl, _, .of ew7⟩, x2, rfl, _, rfl, _, _, rfl, rfl, _, rfl, _, rfl, (by show 2 ≤ sizeLine; decide), fun t2 ht2 => ⟨(by show 1 ≤ sizeLine; decide), fun l2 hl2 => ?_⟩⟩
      have a1 := Same.new (o := .tup [V.int ((xf : Int) + (l.size : Int)), .str "right"]) ht2
      have a2 := Same.new (o := .lst [V.ref t2]) hl2
      refine ⟨xb, l2, _, _, rfl, rfl, a2 _ _ (a1 _ _ exb), upd_same, ?_, fun c2 hc2 => ⟨(by show 3 ≤ sizeLine; decide), fun T2 hT2 => ?_⟩⟩
      · rw [List.length_map]
        show tups.length + 1 ≤ sizeLine
        exact Nat.le_of_lt (small1000 (by omega))
      have a3 := Same.new (o := .lst (tups.map V.ref ++ [V.ref t2])) hc2
      have a4 := Same.new (o := .tup [x2, V.int ((xf : Int) + (l.size : Int) + 1), .ref c2]) hT2
      have aS := a1.trans (a2.trans (a3.trans a4))
      have pm2 := (path_more (z := (xf + l.size, true)) en rfl pt ht2 hl2 hc2).same a4
      have nc2w : c2 ≠ wl := (ne_of_none (a2 _ _ (a1 _ _ ew7)) hc2).symm
      have nc2q : c2 ≠ q0 := (ne_of_none (a2 _ _ (a1 _ _ eq7)) hc2).symm
      refine ⟨wl, _, _, rfl, rfl, aS _ _ ew7, ?_, ?_⟩
      · rw [List.length_reverse, List.length_map]
        exact small1000 (by omega)
      have k8 := (k7.then aS).put (p := wl) (o := .lst ((ts2.map V.ref).reverse ++ [V.ref T2])) in2l
      have eq8 : (upd (upd (upd (upd (upd H7 t2 (.tup [V.int ((xf : Int) + (l.size : Int)), .str "right"])) l2 (.lst [V.ref t2])) c2 (.lst (tups.map V.ref ++ [V.ref t2]))) T2 (.tup [x2, V.int ((xf : Int) + (l.size : Int) + 1), .ref c2])) wl (.lst ((ts2.map V.ref).reverse ++ [V.ref T2]))) q0 = some (.lst ((rows ++ [R]).map V.ref)) := by
        rw [upd_ne nqw]
        exact aS _ _ eq7
      have kB : Stay [wl, q0] H7 (upd (upd (upd (upd (upd H7 t2 (.tup [V.int ((xf : Int) + (l.size : Int)), .str "right"])) l2 (.lst [V.ref t2])) c2 (.lst (tups.map V.ref ++ [V.ref t2]))) T2 (.tup [x2, V.int ((xf : Int) + (l.size : Int) + 1), .ref c2])) wl (.lst ((ts2.map V.ref).reverse ++ [V.ref T2]))) := ((Stay.of aS).put in2l)
      have w2 : WtOk H (upd (upd (upd (upd H7 t2 (.tup [V.int ((xf : Int) + (l.size : Int)), .str "right"])) l2 (.lst [V.ref t2])) c2 (.lst (tups.map V.ref ++ [V.ref t2]))) T2 (.tup [x2, V.int ((xf : Int) + (l.size : Int) + 1), .ref c2])) [wl, q0] T2 ⟨x2, r, xf + l.size + 1, c2, xp ++ [(xf + l.size, true)]⟩ := ⟨by rw [upd_same, en2], hr2, pm2, no2 nc2w nc2q, ((k7.same s4 fr).trans (a1.trans a2)).free hc2⟩
      have hX8 : ∀ x, x ∈ [wl, q0] → ∃ ys, (upd (upd (upd (upd H7 t2 (.tup [V.int ((xf : Int) + (l.size : Int)), .str "right"])) l2 (.lst [V.ref t2])) c2 (.lst (tups.map V.ref ++ [V.ref t2]))) T2 (.tup [x2, V.int ((xf : Int) + (l.size : Int) + 1), .ref c2])) x = some (.lst ys) := fun x hx => by
        rcases List.mem_cons.mp hx with z | z
        · exact ⟨_, z ▸ aS _ _ ew7⟩
        · exact ⟨_, (List.mem_singleton.mp z) ▸ aS _ _ eq7⟩
      have w28 := w2.stay (.at (p := wl) (o := .lst ((ts2.map V.ref).reverse ++ [V.ref T2])) in2l) hX8
      have ew8 : (upd (upd (upd (upd (upd H7 t2 (.tup [V.int ((xf : Int) + (l.size : Int)), .str "right"])) l2 (.lst [V.ref t2])) c2 (.lst (tups.map V.ref ++ [V.ref t2]))) T2 (.tup [x2, V.int ((xf : Int) + (l.size : Int) + 1), .ref c2])) wl (.lst ((ts2.map V.ref).reverse ++ [V.ref T2]))) wl = some (.lst ((ts2.map V.ref).reverse ++ [V.ref T2])) := upd_same
      clear w2 hX8 pm2 a1 a2 a3 a4 aS exb pt ew7
      generalize upd (upd (upd (upd (upd H7 t2 (.tup [V.int ((xf : Int) + (l.size : Int)), .str "right"])) l2 (.lst [V.ref t2])) c2 (.lst (tups.map V.ref ++ [V.ref t2]))) T2 (.tup [x2, V.int ((xf : Int) + (l.size : Int) + 1), .ref c2])) wl (.lst ((ts2.map V.ref).reverse ++ [V.ref T2])) = H8 at k8 eq8 kB w28 ew8 ⊢
      have hX9 : ∀ x, x ∈ [wl, q0] → ∃ ys, H8 x = some (.lst ys) := fun x hx => by
        rcases List.mem_cons.mp hx with z | z
        · exact ⟨_, z ▸ ew8⟩
        · exact ⟨_, (List.mem_singleton.mp z) ▸ eq8⟩
      -- the left part waits
      obtain ⟨tups, exb, pt⟩ := hpa.stay k8 nb hX
      have ltp := Paired.length pt
      refine ⟨_, rfl, .inl ⟨rfl, _, .of ew8⟩, x1, rfl, _, rfl, _, rfl, _, rfl, (by show 2 ≤ sizeLine; decide), fun t1 ht1 => ⟨(by show 1 ≤ sizeLine; decide), fun l1 hl1 => ?_⟩⟩
      have a1 := Same.new (o := .tup [V.int ((xf : Int) + (l.size : Int)), .str "left"]) ht1
      have a2 := Same.new (o := .lst [V.ref t1]) hl1
      refine ⟨xb, l1, _, _, rfl, rfl, a2 _ _ (a1 _ _ exb), upd_same, ?_, fun c1 hc1 => ⟨(by show 3 ≤ sizeLine; decide), fun T1 hT1 => ?_⟩⟩
      · rw [List.length_map]
        show tups.length + 1 ≤ sizeLine
        exact Nat.le_of_lt (small1000 (by omega))
      have a3 := Same.new (o := .lst (tups.map V.ref ++ [V.ref t1])) hc1
      have a4 := Same.new (o := .tup [x1, natV xf, .ref c1]) hT1
      have aS := a1.trans (a2.trans (a3.trans a4))
      have pm1 := (path_more (z := (xf + l.size, false)) en rfl pt ht1 hl1 hc1).same a4
      have nc1w : c1 ≠ wl := (ne_of_none (a2 _ _ (a1 _ _ ew8)) hc1).symm
      have nc1q : c1 ≠ q0 := (ne_of_none (a2 _ _ (a1 _ _ eq8)) hc1).symm
      refine ⟨wl, _, _, rfl, rfl, aS _ _ ew8, ?_, ?_⟩
      · rw [List.length_append, List.length_reverse, List.length_map, List.length_singleton]
        exact small1000 (by omega)
      have kC : Stay [wl, q0] H8 (upd (upd (upd (upd (upd H8 t1 (.tup [V.int ((xf : Int) + (l.size : Int)), .str "left"])) l1 (.lst [V.ref t1])) c1 (.lst (tups.map V.ref ++ [V.ref t1]))) T1 (.tup [x1, natV xf, .ref c1])) wl (.lst ((ts2.map V.ref).reverse ++ [V.ref T2] ++ [V.ref T1]))) := ((Stay.of aS).put in2l)
      have k9 := k8.trans kC
      have kD := kB.trans kC
      have w29 := w28.stay kC hX9
      have hXA : ∀ x, x ∈ [wl, q0] → ∃ ys, (upd (upd (upd (upd H8 t1 (.tup [V.int ((xf : Int) + (l.size : Int)), .str "left"])) l1 (.lst [V.ref t1])) c1 (.lst (tups.map V.ref ++ [V.ref t1]))) T1 (.tup [x1, natV xf, .ref c1])) x = some (.lst ys) := fun x hx => by
        rcases List.mem_cons.mp hx with z | z
        · exact ⟨_, z ▸ aS _ _ ew8⟩
        · exact ⟨_, (List.mem_singleton.mp z) ▸ aS _ _ eq8⟩
      have w1 : WtOk H (upd (upd (upd (upd H8 t1 (.tup [V.int ((xf : Int) + (l.size : Int)), .str "left"])) l1 (.lst [V.ref t1])) c1 (.lst (tups.map V.ref ++ [V.ref t1]))) T1 (.tup [x1, natV xf, .ref c1])) [wl, q0] T1 ⟨x1, l, xf, c1, xp ++ [(xf + l.size, false)]⟩ := ⟨upd_same, hl, pm1, no2 nc1w nc1q, ((k8.same s4 fr).trans (a1.trans a2)).free hc1⟩
      have w19 := w1.stay (.at (p := wl) (o := .lst ((ts2.map V.ref).reverse ++ [V.ref T2] ++ [V.ref T1])) in2l) hXA
      have eq9 : (upd (upd (upd (upd (upd H8 t1 (.tup [V.int ((xf : Int) + (l.size : Int)), .str "left"])) l1 (.lst [V.ref t1])) c1 (.lst (tups.map V.ref ++ [V.ref t1]))) T1 (.tup [x1, natV xf, .ref c1])) wl (.lst ((ts2.map V.ref).reverse ++ [V.ref T2] ++ [V.ref T1]))) q0 = some (.lst ((rows ++ [R]).map V.ref)) := by
        rw [upd_ne nqw]
        exact aS _ _ eq8
      have ew9 : (upd (upd (upd (upd (upd H8 t1 (.tup [V.int ((xf : Int) + (l.size : Int)), .str "left"])) l1 (.lst [V.ref t1])) c1 (.lst (tups.map V.ref ++ [V.ref t1]))) T1 (.tup [x1, natV xf, .ref c1])) wl (.lst ((ts2.map V.ref).reverse ++ [V.ref T2] ++ [V.ref T1]))) wl = some (.lst ((T1 :: T2 :: ts2).map V.ref).reverse) := by
        rw [upd_same, List.map_cons, List.map_cons, List.reverse_cons, List.reverse_cons]
      generalize upd (upd (upd (upd (upd H8 t1 (.tup [V.int ((xf : Int) + (l.size : Int)), .str "left"])) l1 (.lst [V.ref t1])) c1 (.lst (tups.map V.ref ++ [V.ref t1]))) T1 (.tup [x1, natV xf, .ref c1])) wl (.lst ((ts2.map V.ref).reverse ++ [V.ref T2] ++ [V.ref T1])) = H9 at kC k9 kD w29 w19 eq9 ew9 ⊢
      have eR9 := kD _ _ (no2 nRw nRq) eR7
      refine ⟨wtTurns (⟨x1, l, xf, c1, xp ++ [(xf + l.size, false)]⟩ :: ⟨x2, r, xf + l.size + 1, c2, xp ++ [(xf + l.size, true)]⟩ :: ws2), ?_, T1 :: T2 :: ts2, ⟨x1, l, xf, c1, xp ++ [(xf + l.size, false)]⟩ :: ⟨x2, r, xf + l.size + 1, c2, xp ++ [(xf + l.size, true)]⟩ :: ws2, rows ++ [R], dn ++ [(xf + l.size, xp)], _, _, _, _, _, _, rfl, k9.same s4 fr, ew9, .cons w19 (.cons w29 (Paired.mapP hxs fun a z h => h.stay k9 hX)), eq9, Paired.app (Paired.mapP pd fun a z h => h.stay k9 hX) (.cons ⟨xb, eR9, hpa.stay k9 nb hX, nb, fb⟩ .nil), ?_, fun x hx => ?_, ?_, ?_, rfl⟩
      · show 2 * l.size + 1 + (2 * r.size + 1 + wtTurns ws2) < 2 * (l.size + 1 + r.size) + 1 + wtTurns ws2
        omega
      · rw [hpre]
        show dn ++ (((xf + l.size, xp) :: (pre l xf (xp ++ [(xf + l.size, false)]) ++ pre r (xf + l.size + 1) (xp ++ [(xf + l.size, true)]))) ++ wtPre ws2) = dn ++ [(xf + l.size, xp)] ++ (pre l xf (xp ++ [(xf + l.size, false)]) ++ (pre r (xf + l.size + 1) (xp ++ [(xf + l.size, true)]) ++ wtPre ws2))
        simp only [List.append_assoc, List.cons_append, List.nil_append]
      · rcases List.mem_cons.mp hx with z | z
        · rw [z]
          show (xp ++ [(xf + l.size, false)]).length + l.size ≤ t.size
          rw [List.length_append, List.length_singleton]
          omega
        · rcases List.mem_cons.mp z with z | z
          · rw [z]
            show (xp ++ [(xf + l.size, true)]).length + r.size ≤ t.size
            rw [List.length_append, List.length_singleton]
            omega
          · exact hin2 x z
      · rw [List.length_append, List.length_singleton]
        show dn.length + 1 + (l.size + (r.size + wtSizes ws2)) ≤ t.size
        omega
      · show ts2.length + 1 + 1 + (l.size + (r.size + wtSizes ws2)) ≤ t.size + 1
        omega
/-! ### paths_of -/
theorem sc_paths : FnScope n_paths_of ["tree"] (defScope s_paths_of) := ⟨rfl, rfl, rfl, by decide +kernel, rfl, by decide +kernel, by decide +kernel⟩
def spPaths : Sp := fun vs H Q _ => ∃ (v : V) (t : Tr), vs = [v] ∧ TrAt H v t ∧ t.size ≤ 300 ∧ ∀ (H' : Hp) (q : Addr), Same H H' → H q = none → WaysAt H' q t → Q (.ref q) H'
theorem ok_paths (B : Bl mg) (C : Df P w K mg base "count_nodes" 1 ["tree"] spCount) (W : Df P w K mg base "walk" 2 ["tree"] spWalk) (a : At K mg "paths_of" s_paths_of) : Df P w K mg base "paths_of" 3 ["tree"] spPaths := by
  refine Df.mk' a sc_paths (fun vs H Q E h => ?_) (fun _ _ _ _ _ _ us hl => match us, hl with | [_], _ => rfl) (fun f cdv A outer s H vs Q E hr h => ?_)
  · obtain ⟨v, t, rfl, _⟩ := h
    rfl
  obtain ⟨v, t, rfl, ht, hz, q⟩ := h
  refine ⟨_, (pss_cons (ps_setLc (i := 1) (own := [("_", 4)]) (g := (gName 4)) (tt := tYes) (by rfl) sc_paths.nd rfl rfl (sw_true rfl rfl rfl (by decide +kernel)) (pi_range1 (by rfl) B.range (pa_cons (pe_df C (hr.mono (by decide)) (pa_cons (pv 0) pa_nil)) pa_nil)) (blkOk_by (N := n_paths_of) (sc := defScope s_paths_of) (by decide +kernel)) (fun _ _ _ _ _ => (pg_name (i := 4) sc_paths.nd rfl (.inl rfl))) (fun _ _ _ _ _ => pts_nil) (fun _ _ _ _ _ => (pe_lst pa_nil)))
 (pss_cons (ps_for PassesOwn.never rfl (pi_list (pe_df W hr (pa_cons (pv 0) pa_nil))) (pg_tup rfl (pgs_cons (pg_name (i := 2) sc_paths.nd rfl (.inl rfl)) (pgs_cons (pg_name (i := 3) sc_paths.nd rfl (.inl rfl)) pgs_nil))) (pss_one (ps_asg (pv 3) (pg_sub (pv 1) (pv 2) set_list))))
 (pss_one (ps_ret (pv 1))))), ?_⟩
  -- an empty list for each node
  refine ⟨v, rfl, v, t, rfl, ht, by omega, fun H1 s1 => ⟨_, rfl, by omega, by omega, fun q0 hq0 => ?_⟩⟩
  refine lc_range (lo := 0) (n := t.size) (fun i H' => ∃ rows : List Addr, Same H H' ∧ H' q0 = some (.lst (rows.map V.ref)) ∧ rows.length = i ∧ (∀ r, r ∈ rows → r ≠ q0)) ⟨[], s1.trans (Same.new hq0), upd_same, rfl, fun r hr => by cases hr⟩ (fun i H2 hi h2 => ?_) (fun H2 h2 => ?_)
  · obtain ⟨rows, s2, e2, l2, n2⟩ := h2
    refine ⟨rfl, ?_⟩
    refine ⟨Nat.zero_le _, fun r hr2 => ⟨_, (Same.new hr2) _ _ e2, ?_, ?_⟩⟩
    · rw [List.length_map]
      exact small1000 (by omega)
    · have nr : q0 ≠ r := ne_of_none e2 hr2
      have hq : H q0 = none := s1.free hq0
      refine ⟨rows ++ [r], fun b o e => ?_, ?_, ?_, fun x hx => ?_⟩
      · rw [upd_ne (ne_of_none e hq)]
        exact (Same.new hr2) _ _ (s2 _ _ e)
      · rw [upd_same, List.map_append]
        rfl
      · rw [List.length_append, List.length_singleton, l2]
      · rcases List.mem_append.mp hx with z | z
        · exact n2 x z
        · rw [List.mem_singleton.mp z]
          exact nr.symm
  · obtain ⟨rows, s2, e2, l2, n2⟩ := h2
    have hq : H q0 = none := s1.free hq0
    refine ⟨v, rfl, v, t, rfl, ht.same s2, hz, fun H3 u rs s3 nu eu pr => ?_⟩
    have nuq : u ≠ q0 := (ne_of_none e2 nu).symm
    have lrs : rs.length = t.size := by rw [Paired.length pr, pre_len]
    refine ⟨u, rfl, ⟨_, .of eu⟩, for_list (xs := rs.map V.ref) (fun k σ H' => ∃ (y2 y3 : Option V) (rows : List Addr), σ = [some v, some (.ref q0), y2, y3, none] ∧ Stay [q0] H3 H' ∧ H' q0 = some (.lst (rows.map V.ref)) ∧ rows.length = t.size ∧ ∀ n s, (n, s) ∈ (pre t 0 []).take k → ∃ r, rows[n]? = some r ∧ PathAt H' r s ∧ r ≠ q0)
      ⟨_, _, rows, rfl, .refl _ _, s3 _ _ e2, l2, fun n s h => by cases h⟩ (fun k σ H4 _ h4 => ?_) (fun k x σ H4 hx h4 => ?_) (fun σ H4 h4 => ?_)⟩
    · obtain ⟨_, _, _, _, k4, _⟩ := h4
      exact .of (k4 _ _ (no1 nuq) eu)
    · obtain ⟨y2, y3, rows, rfl, k4, e4, l4, h4⟩ := h4
      rw [List.getElem?_map] at hx
      obtain ⟨R, hR, rfl⟩ := Option.map_eq_some_iff.mp hx
      obtain ⟨⟨n, p⟩, hz2, b, eR, pb, nb, fb⟩ := Paired.getL pr hR
      have hX : ∀ x, x ∈ [q0] → ∃ ys, H3 x = some (.lst ys) := fun x hx => ⟨_, (List.mem_singleton.mp hx) ▸ s3 _ _ e2⟩
      have nRq : R ≠ q0 := tup_ne eR (s3 _ _ e2)
      have hn := pre_in t 0 [] n p (List.mem_of_getElem? hz2)
      have nbq : b ≠ q0 := (ne_of_none e2 fb).symm
      refine ⟨R, _, rfl, .of (k4 _ _ (no1 nRq) eR), rfl, _, _, rfl, _, [], rfl, rfl, ?_⟩
      refine ⟨_, rfl, _, rfl, _, rfl, q0, _, _, n, rfl, rfl, e4, ?_, ?_⟩
      · rw [List.length_map, l4]
        exact ixN_in (n := t.size) (i := (n : Int)) (by omega) (by omega)
      refine ⟨_, _, rows.set n b, rfl, k4.put in1, ?_, ?_, fun m s h => ?_⟩
      · rw [upd_same, List.map_set]
      · rw [List.length_set, l4]
      have pb4 : PathAt (upd H4 q0 (.lst ((rows.map V.ref).set n (.ref b)))) b p := pb.stay (k4.put in1) (no1 nbq) hX
      rw [List.take_add_one, hz2] at h
      have key : ∀ s, s = pOf t 0 n → ∃ r, (rows.set n b)[n]? = some r ∧ PathAt (upd H4 q0 (.lst ((rows.map V.ref).set n (.ref b)))) r s ∧ r ≠ q0 := fun s es => by
        refine ⟨b, List.getElem?_set_self (by omega), ?_, nbq⟩
        rw [es, ← hn.2.2.trans (List.nil_append _)]
        exact pb4
      rcases List.mem_append.mp h with h | h
      · have e0 := (pre_in t 0 [] m s (List.mem_of_mem_take h)).2.2.trans (List.nil_append _)
        by_cases c : m = n
        · rw [c] at e0 ⊢
          exact key s e0
        · obtain ⟨r, g1, g2, g3⟩ := h4 m s h
          exact ⟨r, by rw [List.getElem?_set_ne (Ne.symm c)]; exact g1, g2.put g3 e4, g3⟩
      · obtain ⟨rfl, rfl⟩ := Prod.mk.inj (List.mem_singleton.mp h)
        exact key _ (hn.2.2.trans (List.nil_append _))
    · obtain ⟨y2, y3, rows, rfl, k4, e4, l4, h4⟩ := h4
      refine ⟨_, rfl, q H4 q0 (Stay.same (X := [q0]) (s2.trans s3) (fun x hx => (List.mem_singleton.mp hx) ▸ hq) k4) hq ⟨rows, e4, l4, fun i r hr2 => ?_⟩⟩
      have hi : i < t.size := by rw [← l4]; exact (List.getElem?_eq_some_iff.mp hr2).1
      have hm := pre_mem t 0 [] i (Nat.zero_le _) (by omega)
      rw [List.nil_append] at hm
      obtain ⟨r', g1, g2, _⟩ := h4 i (pOf t 0 i) (by
        rw [List.length_map, lrs, ← pre_len t 0 [], List.take_length]
        exact hm)
      cases hr2.symm.trans g1
      exact g2
end
end HSP
set_option maxHeartbeats 4000000
namespace HSP
open PySem PySem.Spec PyProof.Rows L2 Srt SrtO SrtR
/-! ## sorted(d, reverse=True) of a dict with whole numbers as keys -/
section
variable {X : Cx}
def rSortedDR : List V → List V → Hp → VK → Prop := fun xs zs H Q => ∃ (a : Addr) (kvs : List (L2.Key × V)) (ks : List Int), xs = [V.ref a] ∧ zs = [V.bl true] ∧ Rd H a (.dK kvs) ∧ kvs.map (·.1) = ks.map Sum.inl ∧ ks.length < 64 ∧
  ∀ (ys : List Int) (p : Addr), ys.Perm ks → ys.Pairwise (· ≥ ·) → H p = none → Q (.ref p) (upd H p (.lst (ys.map V.int)))
theorem cr_sortedDR (hcalm : X.calm = true) : CallRK X (.builtin "sorted") [Str.ofString "reverse"] rSortedDR := by
  intro pins s σ H xs zs us ws Q I r rz q
  obtain ⟨a, kvs, ks, rfl, rfl, hd, hks, h64, q⟩ := q
  obtain rfl := Vals.ref1 r
  obtain ⟨w1, rfl, ew⟩ := vals1 rz
  obtain rfl : w1 = Value.bool true := ew
  obtain ⟨z, lo, vs, rel, dd⟩ := dk_rd I.hok hd
  obtain ⟨ep, at_d⟩ := dd.dictAt
  have keys : vs.map (·.1) = ks.map Sum.inl := rel.keys.symm.trans hks
  have lv : vs.length = ks.length := by
    have := congrArg List.length keys
    rw [List.length_map, List.length_map] at this
    exact this
  have few : vs.length ≤ sizeLine := by
    rw [lv, sizeLine_eq]
    omega
  refine call_function_entry_kw kind_sorted plain_sorted entry_sorted (args_sorted_rev _ _) ?_
  unfold Builtin.«sorted»
  refine wpAny_bind (m := checkCount "sorted" 1 1 _) (wpAny_pure ?_)
  refine wpAny_bind (PySem.W.kdu_collect (A := X.A.in1) (PySem.W.kdl_dict (knd := mixKind X.prog X.w) (kvs := vs) (ep := ep) lo) (I.ok.hd hcalm) at_d few fun h1 tk acc kept got => ?_)
  have la : acc.toList.length = ks.length := by rw [Array.length_toList, got.1, lv]
  have hInt : IntsAre acc.toList ks := ints_each la fun j v e => by
    obtain ⟨k, x, e1, e2⟩ := got.2 j v (by rw [← Array.getElem?_toList]; exact e)
    have e3 : (vs.map (·.1))[j]? = some k := by
      rw [List.getElem?_map, e1]
      rfl
    rw [keys, List.getElem?_map] at e3
    match e4 : ks[j]? with
    | none =>
      rw [e4] at e3
      cases e3
    | some y =>
      rw [e4] at e3
      have e5 : Sum.inl y = k := Option.some.inj e3
      subst e5
      rcases keyIs_shape (show keyIs (Sum.inl y) v = true from e2) with ⟨i, t, ek, ev⟩ | ⟨z, t, ek, _⟩
      · cases ek
        exact ⟨y, t, rfl, ev⟩
      · cases ek
  have I1 : Inv X pins σ H { s with heap := h1, toks := tk } := I.kept kept
  refine wpAny_bind (wpAny_newList ?_ (by rw [la, sizeLine_eq]; omega))
  have made : (h1.push (seqObj "list" acc.toList.toArray 0)).get? h1.objs.size = some (seqObj "list" acc.toList.toArray 0) := Heap.get?_push_size _ rfl
  show wpAny _ _ _ _ _ { s with heap := h1.push (seqObj "list" acc.toList.toArray 0), toks := tk }
  refine wpAny_bind (wpAny_holding (wpAny_call_entry_kw slot_list_sort ⟨_, made, rfl⟩ entry_list_sort ?_ (args_list_sort_rev _ _)))
  refine list_sort_ordR (b := true) swo_int made (by rw [la, sizeLine_eq]; omega) (fun h2 => ints_sortable hInt h2) fun out s1 s2 => ⟨_, rfl, ?_⟩
  obtain ⟨ys, k1, k2, k3⟩ := ints_outR (b := true) hInt s1 s2
  obtain ⟨ep2, at2⟩ := sortedHeap_at (vs := acc.toList) (out := out.toArray.reverse) made
  have len : (ys.map V.int).length ≤ sizeLine := by
    rw [List.length_map, k2.length_eq, sizeLine_eq]
    omega
  have e0 : ((out.toArray.reverse).toList).toArray = out.toArray.reverse := by rw [Array.toArray_toList]
  refine wpAny_pure ⟨_, rfl, .ref h1.objs.size, upd H h1.objs.size (.lst (ys.map V.int)), I1.laid (t' := tk) (fun b u e => ?_) (Nat.le_refl _)
    (show ObjOk X.prog X.w _ _ _ (.lst (ys.map V.int)) from ⟨len, _, ep2, vals_of_ints k1, by rw [show (if true = true then out.toArray.reverse else out.toArray) = out.toArray.reverse from rfl, e0]; exact at2⟩), rfl, q ys _ k2 k3 (I1.hok.fresh (Nat.le_refl _))⟩
  have lt : b < h1.objs.size := Heap.lt_size e
  show (sortedHeap _ _ _ out.toArray.reverse).get? b = some u
  rw [sortedHeap_old (Nat.ne_of_lt lt) (by rw [size_push']; exact Nat.lt_succ_of_lt lt)]
  exact Heap.get?_push_of_some _ e
/-! ## a dict that is walked where it is made: for k, v in f(..).items() -/
def tLockD (td : TE) : TE := fun σ H Q => td σ H fun x H1 => ∃ d kvs, x = V.ref d ∧ H1 d = some (.dK kvs) ∧ ∀ o, Q (V.ref d) (upd H1 d (.frz o (.dK kvs)))
theorem pe_lockD {e : Expr} {td : TE} (he : PE X e td) : PE X e (tLockD td) := by
  refine ⟨fun pins s σ H Q I h => thn (he.run pins s σ H _ I h) fun u s1 z => ?_⟩
  obtain ⟨x, H1, I1, rx, d, kvs, ex, hd, q⟩ := z
  subst ex
  obtain ⟨od, I2⟩ := I1.lock hd trivial
  exact ⟨_, _, I2, rx, q od⟩
end
end HSP
namespace HSP
open PySem PySem.Spec PyProof.Rows L2
/-- what a turn of a dict's making does: the key, its value, and what is then to hold -/
def dcTurn (g : TG) (tt : TT) (tk tv : TE) (vs : List Nat) (σ : L2.St) (Z : Addr) (Then : Hp → Prop) (x : V) (H : Hp) : Prop := g x (wipe σ vs) H fun τ G => wipe τ vs = wipe σ vs ∧ tt τ G fun b G1 => if b = true then (tk τ G1 fun u G2 => tv τ G2 fun c G3 => ∃ (ps : List (Key × V)) (e : Key), u = kV e ∧ G3 Z = some (.dK ps) ∧ ps.length < sizeLine ∧ Then (upd G3 Z (.dK (putK ps e c)))) else Then G1
/-- a dict made over a list that stays -/
theorem dc_list {K : PySem.W.Frag} {src Z : Addr} {items : List V} {g : TG} {tt : TT} {tk tv : TE} {vs : List Nat} {σ : L2.St} {G0 : Hp} {End : Hp → Prop} (Pv : Nat → Hp → Prop) (begin_ : Pv 0 (upd G0 Z (.dK []))) (stays : ∀ i G, i ≤ items.length → Pv i G → SqL K G src items)
    (turn : ∀ i x G, items[i]? = some x → Pv i G → dcTurn g tt tk tv vs σ Z (Pv (i + 1)) x G) (end_ : ∀ G, Pv items.length G → End G) :
    ∃ W : Nat → Nat → Hp → Prop, (∃ m, W 0 m (upd G0 Z (.dK []))) ∧ ∀ i m G, W i m G → ((Itl K src).stop i G ∧ End G) ∨ ((Itl K src).go i G ∧ ∃ Nx : Hp → Prop, (∀ G', Nx G' → ∃ m', m' < m ∧ W (i + 1) m' G') ∧ ∀ x G', (Itl K src).yld i G x G' → dcTurn g tt tk tv vs σ Z Nx x G') := by
  refine ⟨fun i left G => left + i = items.length ∧ Pv i G, ⟨items.length, rfl, begin_⟩, fun i left G hw => ?_⟩
  obtain ⟨hl, hp⟩ := hw
  have there := stays i G (by omega) hp
  match left, hl with
  | 0, hl =>
    have hi : i = items.length := by omega
    rw [hi] at hp ⊢
    exact .inl ⟨⟨items, there, Nat.le_refl _⟩, end_ G hp⟩
  | left + 1, hl =>
    have at_i : items[i]? = some items[i] := List.getElem?_eq_getElem (by omega)
    refine .inr ⟨⟨items, items[i], there, at_i⟩, Pv (i + 1), fun G' hp' => ⟨left, Nat.lt_succ_self _, by omega, hp'⟩, fun x G' yl => ?_⟩
    have eG := yl.1
    subst eG
    exact turn i x _ (yl.2 items there) hp
end HSP
namespace HSP
open PySem PySem.Spec PyProof.Rows L2
section
variable {X : Cx}
/-- name = {..: .. for ..} on one line, the name a local -/
theorem sw_dict {kx vx : Expr} {gs : List Comprehension} {scope : Scope} {pos py : Pos} {y : Str} {l : Nat} {env : Env} (fun_ : env.scope.kind = .function) (own_ : env.scope.names.lookup y = some .local) (line : (py.line == pos.line) = true)
    (other : (scope.names.any fun (n, k) => n == y && (k == .local || k == .cell)) = false) : swapsWith (.DictComp kx vx gs scope pos) (some (.Name y py)) l env = pure true := by
  have kd : env.kindOf y = some .local := own_
  have bk : env.blockKind = .function := by
    unfold Env.blockKind
    rw [fun_]
    rfl
  unfold swapsWith
  simp only [bk, kd, other, Expr.pos, line]
  rfl
theorem ps_setDc {i : Nat} {y : Str} {py : Pos} {kx vx tg iter : Expr} {ifs : List Expr} {scope : Scope} {own : List (Str × Nat)} {pos spos : Pos} {wi : TI} {g : TG} {tt : TT} {tk tv : TE} (at_i : X.N[i]? = some y) (is_own : X.env.scope.names.lookup y = some .local)
    (sw : swapsWith (.DictComp kx vx [⟨tg, iter, ifs, 0⟩] scope pos) (some (.Name y py)) spos.line X.env = pure true) (calm : X.calm = true) (nod : X.N.Nodup) (hi : PI X tg iter wi) (ok : BlkOk X.N X.env.scope scope own)
    (hg : ∀ (s : Shared) (H : Hp) (C : Addr) (cl : List (Str × Addr)) (fp : List Addr), PG (X.blk s H scope (compEnvC scope cl C X.env) fp) tg g) (ht : ∀ (s : Shared) (H : Hp) (C : Addr) (cl : List (Str × Addr)) (fp : List Addr), PTs (X.blk s H scope (compEnvC scope cl C X.env) fp) ifs tt) (hk : ∀ (s : Shared) (H : Hp) (C : Addr) (cl : List (Str × Addr)) (fp : List Addr), PE (X.blk s H scope (compEnvC scope cl C X.env) fp) kx tk) (he : ∀ (s : Shared) (H : Hp) (C : Addr) (cl : List (Str × Addr)) (fp : List Addr), PE (X.blk s H scope (compEnvC scope cl C X.env) fp) vx tv)
    (hs : ∀ x, foldedSetIterable iter X.env x = pure x := by intro _; rfl) : PS X (.Assign [.Name y py] (.DictComp kx vx [⟨tg, iter, ifs, 0⟩] scope pos) spos) (tAsg (tDc wi g tt tk tv (own.map (·.2))) (gName i)) := by
  refine ⟨fun pins s σ H D I h => ?_⟩
  rw [exec_Assign_Name_used _ _ _ _ sw]
  refine wpAny_bind (wpAny_standAt (wpAny_bind ?_))
  show wpAny _ X.A (do let _ ← comprehension (.DictComp kx vx [⟨tg, iter, ifs, 0⟩] scope pos) scope X.env (firstIterPos [⟨tg, iter, ifs, 0⟩] pos) newDict false (eval iter X.env) (some (assign (.Name y py) X.env))) _ _ s
  have rd : tDc wi g tt tk tv (own.map (·.2)) σ H (fun x G => gName i x σ G D.nx) := h
  refine wpAny_bind (thn (dc_core (Qf := fun _ z => SP X pins D .next z) calm nod I hi ok hg ht hk he hs rd fun L C z m G J q ns f => ?_) fun _ z done => wpAny_pure (wpAny_pure done))
  show wpAny _ _ (assign (.Name y py) X.env (.ref L)) _ _ _
  refine wpAny_assign_Name (store_ok2 (v := V.ref L) J nod at_i (.inl is_own) rfl (fun z2 J2 at2 => ?_) (.inr is_own))
  obtain ⟨a, sb, ha⟩ := at2
  obtain ⟨f0, f1, f2, f3, f4, f5⟩ := f
  have other : C ≠ a := by
    rcases ha with e | e
    · rw [e]; exact f1
    · exact fun e2 => f4 y a e e2.symm
  refine ⟨m, ns.sameBut sb other, fun h3 sb3 => ⟨_, G, J2.turned (t' := z2.toks) (fun b o hb e => (sb3.2 b hb).trans e) f0 f1 f3 f4 f5, q⟩⟩
end
end HSP
namespace HSP
/-! ## the required order: ways of steps, their greatest lengths -/
/-- a way from a to b in so many steps -/
inductive Pth (E : Nat → Nat → Prop) : Nat → Nat → Nat → Prop
  | one {a b : Nat} : E a b → Pth E a b 1
  | cons {a m b k : Nat} : E a m → Pth E m b k → Pth E a b (k + 1)
theorem Pth.app {E : Nat → Nat → Prop} {a m b j k : Nat} (h : Pth E a m j) (g : Pth E m b k) : Pth E a b (j + k) := by
  induction h with
  | one e => rw [Nat.add_comm]; exact .cons e g
  | cons e _ ih => rw [Nat.add_right_comm]; exact .cons e (ih g)
theorem Pth.pos {E : Nat → Nat → Prop} {a b k : Nat} (h : Pth E a b k) : 0 < k := by cases h <;> omega
/-- all steps lead to greater nodes -/
def Up (E : Nat → Nat → Prop) : Prop := ∀ a b, E a b → a < b
theorem Pth.lt {E : Nat → Nat → Prop} (u : Up E) {a b k : Nat} (h : Pth E a b k) : a + k ≤ b := by
  induction h with
  | one e => exact u _ _ e
  | cons e _ ih => have := u _ _ e; omega
/-- a row of greatest lengths: 0 where there is no way -/
def RowL (E : Nat → Nat → Prop) (a : Nat) (f : Nat → Nat) : Prop := (∀ b, f b ≠ 0 → Pth E a b (f b)) ∧ ∀ b k, Pth E a b k → k ≤ f b
theorem RowL.uniq {E : Nat → Nat → Prop} {a : Nat} {f g : Nat → Nat} (h : RowL E a f) (h' : RowL E a g) (b : Nat) : f b = g b := by
  have h1 : f b ≤ g b := by
    by_cases c : f b = 0
    · omega
    · exact h'.2 b _ (h.1 b c)
  have h2 : g b ≤ f b := by
    by_cases c : g b = 0
    · omega
    · exact h.2 b _ (h'.1 b c)
  omega
/-- where some middles are done -/
def RowS (E : Nat → Nat → Prop) (a : Nat) (f : Nat → Nat) (ms : List Nat) : Prop := (∀ b, f b ≠ 0 → Pth E a b (f b)) ∧ ∀ m, m ∈ ms → 1 ≤ f m ∧ ∀ b k, Pth E m b k → k + 1 ≤ f b
theorem RowS.nil (E : Nat → Nat → Prop) (a : Nat) : RowS E a (fun _ => 0) [] := ⟨fun _ h => absurd rfl h, fun _ h => nomatch h⟩
theorem RowS.row {E : Nat → Nat → Prop} {a : Nat} {f : Nat → Nat} {ms : List Nat} (h : RowS E a f ms) (all : ∀ m, E a m → m ∈ ms) : RowL E a f := by
  refine ⟨h.1, fun b k p => ?_⟩
  cases p with
  | one e => exact (h.2 _ (all _ e)).1
  | cons e p => exact (h.2 _ (all _ e)).2 _ _ p
/-- the middle m is put in -/
def put1 (f : Nat → Nat) (m : Nat) : Nat → Nat := fun b => if b = m then max (f b) 1 else f b
/-- what lies behind m is put in, for the nodes that p tells -/
def putR (f g : Nat → Nat) (p : Nat → Bool) : Nat → Nat := fun b => if g b ≠ 0 ∧ p b = true then max (f b) (1 + g b) else f b
theorem RowS.more {E : Nat → Nat → Prop} {a m : Nat} {f g : Nat → Nat} {ms : List Nat} (h : RowS E a f ms) (e : E a m) (hg : RowL E m g) : RowS E a (putR (put1 f m) g fun _ => true) (ms ++ [m]) := by
  have le1 : ∀ b, f b ≤ put1 f m b := fun b => by
    unfold put1
    split
    · exact Nat.le_max_left _ _
    · exact Nat.le_refl _
  have le2 : ∀ b, put1 f m b ≤ putR (put1 f m) g (fun _ => true) b := fun b => by
    unfold putR
    split
    · exact Nat.le_max_left _ _
    · exact Nat.le_refl _
  have s1 : ∀ b, put1 f m b ≠ 0 → Pth E a b (put1 f m b) := fun b hb => by
    unfold put1 at hb ⊢
    split at hb
    · rename_i c
      rw [if_pos c]
      by_cases d : f b = 0
      · rw [d, Nat.zero_max, c]
        exact .one e
      · rw [Nat.max_eq_left (by omega)]
        exact h.1 b d
    · rename_i c
      rw [if_neg c]
      exact h.1 b hb
  refine ⟨fun b hb => ?_, fun x hx => ?_⟩
  · unfold putR at hb ⊢
    split at hb
    · rename_i c
      rw [if_pos c]
      by_cases d : put1 f m b ≤ 1 + g b
      · rw [Nat.max_eq_right d, Nat.add_comm]
        exact .cons e (hg.1 b c.1)
      · rw [Nat.max_eq_left (by omega)]
        exact s1 b (by omega)
    · rename_i c
      rw [if_neg c]
      exact s1 b hb
  · rcases List.mem_append.mp hx with hx | hx
    · obtain ⟨h1, h2⟩ := h.2 x hx
      exact ⟨Nat.le_trans h1 (Nat.le_trans (le1 x) (le2 x)), fun b k p => Nat.le_trans (h2 b k p) (Nat.le_trans (le1 b) (le2 b))⟩
    · have hx := List.mem_singleton.mp hx
      subst hx
      refine ⟨Nat.le_trans ?_ (le2 x), fun b k p => ?_⟩
      · unfold put1
        rw [if_pos rfl]
        exact Nat.le_max_right _ _
      · have hk := hg.2 b k p
        have := p.pos
        unfold putR
        rw [if_pos ⟨by omega, rfl⟩]
        exact Nat.le_trans (by omega) (Nat.le_max_right _ _)
/-! ### all pairs at once, middle by middle -/
/-- a way whose nodes between are in S -/
inductive PthS (E : Nat → Nat → Prop) (S : Nat → Prop) : Nat → Nat → Nat → Prop
  | one {a b : Nat} : E a b → PthS E S a b 1
  | cons {a m b k : Nat} : E a m → S m → PthS E S m b k → PthS E S a b (k + 1)
theorem PthS.pth {E : Nat → Nat → Prop} {S : Nat → Prop} {a b k : Nat} (h : PthS E S a b k) : Pth E a b k := by
  induction h with
  | one e => exact .one e
  | cons e _ _ ih => exact .cons e ih
theorem Pth.all {E : Nat → Nat → Prop} {S : Nat → Prop} (h : ∀ a b, E a b → S a) {a b k : Nat} (p : Pth E a b k) : PthS E S a b k := by
  induction p with
  | one e => exact .one e
  | @cons a m b k e p ih => exact .cons e (by cases p with | one e2 => exact h _ _ e2 | cons e2 _ => exact h _ _ e2) ih
/-- a way may come by m once -/
theorem PthS.split {E : Nat → Nat → Prop} {S S' : Nat → Prop} {m : Nat} (u : Up E) (hs : ∀ x, S' x → S x ∨ x = m) {a b k : Nat} (p : PthS E S' a b k) : PthS E S a b k ∨ ∃ i j, k = i + j ∧ PthS E S a m i ∧ PthS E S m b j := by
  have low : ∀ {a b k : Nat}, PthS E S' a b k → m ≤ a → PthS E S a b k := fun {a b k} p => by
    induction p with
    | one e => exact fun _ => .one e
    | @cons a x b k e sx p ih =>
      intro hm
      have := u _ _ e
      refine .cons e ?_ (ih (by omega))
      rcases hs x sx with z | z
      · exact z
      · omega
  induction p with
  | one e => exact .inl (.one e)
  | @cons a x b k e sx p ih =>
    by_cases c : x = m
    · subst c
      refine .inr ⟨1, k, Nat.add_comm _ _, .one e, low p (Nat.le_refl _)⟩
    · have sx' : S x := (hs x sx).resolve_right c
      rcases ih with z | ⟨i, j, e1, p1, p2⟩
      · exact .inl (.cons e sx' z)
      · exact .inr ⟨i + 1, j, by omega, .cons e sx' p1, p2⟩
/-- what the table F holds: ways, and all that go by S; of the pairs that D tells also those by m -/
def TabF (E : Nat → Nat → Prop) (F : Nat → Nat → Nat) (S : Nat → Prop) : Prop := (∀ a b, F a b ≠ 0 → Pth E a b (F a b)) ∧ ∀ a b k, PthS E S a b k → k ≤ F a b
def putF (F : Nat → Nat → Nat) (m a b : Nat) : Nat → Nat → Nat := fun x y => if x = a ∧ y = b ∧ F a m ≠ 0 ∧ F m b ≠ 0 then max (F a b) (F a m + F m b) else F x y
theorem putF_le (F : Nat → Nat → Nat) (m a b x y : Nat) : F x y ≤ putF F m a b x y := by
  unfold putF
  split
  · rename_i c
    rw [c.1, c.2.1]
    exact Nat.le_max_left _ _
  · exact Nat.le_refl _
theorem putF_ok {E : Nat → Nat → Prop} {F : Nat → Nat → Nat} {S : Nat → Prop} (h : TabF E F S) (m a b : Nat) : TabF E (putF F m a b) S := by
  refine ⟨fun x y hx => ?_, fun x y k p => Nat.le_trans (h.2 x y k p) (putF_le ..)⟩
  unfold putF at hx ⊢
  split at hx
  · rename_i c
    rw [if_pos c]
    obtain ⟨c1, c2, c3, c4⟩ := c
    subst c1
    subst c2
    by_cases d : F x y ≤ F x m + F m y
    · rw [Nat.max_eq_right d]
      exact (h.1 _ _ c3).app (h.1 _ _ c4)
    · rw [Nat.max_eq_left (by omega)]
      exact h.1 _ _ (by omega)
  · rename_i c
    rw [if_neg c]
    exact h.1 _ _ hx
/-- the pair a, b is done for the middle m -/
def DoneF (E : Nat → Nat → Prop) (F : Nat → Nat → Nat) (S : Nat → Prop) (m a b : Nat) : Prop := ∀ i j, PthS E S a m i → PthS E S m b j → i + j ≤ F a b
theorem DoneF.mono {E : Nat → Nat → Prop} {F F' : Nat → Nat → Nat} {S : Nat → Prop} {m a b : Nat} (h : DoneF E F S m a b) (le : F a b ≤ F' a b) : DoneF E F' S m a b := fun i j p q => Nat.le_trans (h i j p q) le
theorem putF_done {E : Nat → Nat → Prop} {F : Nat → Nat → Nat} {S : Nat → Prop} (h : TabF E F S) (m a b : Nat) : DoneF E (putF F m a b) S m a b := fun i j p q => by
  have h1 := h.2 _ _ _ p
  have h2 := h.2 _ _ _ q
  have p1 := p.pth.pos
  have p2 := q.pth.pos
  unfold putF
  rw [if_pos ⟨rfl, rfl, by omega, by omega⟩]
  exact Nat.le_trans (by omega) (Nat.le_max_right _ _)
theorem TabF.next {E : Nat → Nat → Prop} {F : Nat → Nat → Nat} {S S' : Nat → Prop} {m : Nat} {N : Nat → Prop} (u : Up E) (hN : ∀ a b, E a b → N a ∧ N b) (h : TabF E F S) (d : ∀ a b, N a → N b → DoneF E F S m a b) (hs : ∀ x, S' x → S x ∨ x = m) : TabF E F S' := by
  refine ⟨h.1, fun a b k p => ?_⟩
  rcases p.split u hs with q | ⟨i, j, rfl, p1, p2⟩
  · exact h.2 _ _ _ q
  · have ends : ∀ {a b k : Nat}, PthS E S a b k → N a ∧ N b := fun {a b k} p => by
      induction p with
      | one e => exact hN _ _ e
      | cons e _ _ ih => exact ⟨(hN _ _ e).1, ih.2⟩
    exact d a b (ends p1).1 (ends p2).2 i j p1 p2
theorem TabF.rows {E : Nat → Nat → Prop} {F : Nat → Nat → Nat} {S : Nat → Prop} (h : TabF E F S) (all : ∀ a b, E a b → S a) (a : Nat) : RowL E a (F a) := ⟨fun b hb => h.1 a b hb, fun b k p => h.2 a b k (p.all all)⟩
theorem TabF.start {E : Nat → Nat → Prop} (F : Nat → Nat → Nat) (h : ∀ a b, F a b = 1 ∧ E a b ∨ F a b = 0 ∧ ¬ E a b) : TabF E F fun _ => False := by
  refine ⟨fun a b hb => ?_, fun a b k p => ?_⟩
  · rcases h a b with ⟨e1, e2⟩ | ⟨e1, _⟩
    · rw [e1]; exact .one e2
    · exact absurd e1 hb
  · cases p with
    | one e =>
      rcases h a b with ⟨e1, _⟩ | ⟨_, e2⟩
      · omega
      · exact absurd e e2
    | cons _ z _ => exact z.elim
/-- D: the greatest lengths of all pairs -/
def AllL (E : Nat → Nat → Prop) (D : Nat → Nat → Nat) : Prop := ∀ a, RowL E a (D a)
theorem AllL.add {E : Nat → Nat → Prop} {D : Nat → Nat → Nat} (h : AllL E D) {a b c : Nat} (h1 : D a b ≠ 0) (h2 : D b c ≠ 0) : D a b + D b c ≤ D a c := (h a).2 c _ (((h a).1 b h1).app ((h b).1 c h2))
theorem AllL.lt {E : Nat → Nat → Prop} {D : Nat → Nat → Nat} (u : Up E) (h : AllL E D) {a b : Nat} (h1 : D a b ≠ 0) : a < b := by
  have := ((h a).1 b h1).lt u
  omega
/-! ### values that can stay -/
def KeepsW (D : Nat → Nat → Nat) (v : Nat → Int) (kept : List Nat) : Prop := ∀ a, a ∈ kept → ∀ b, b ∈ kept → D a b ≠ 0 → v a + D a b ≤ v b
/-- a filling that keeps the kept values and rises with each required pair -/
theorem keeps_of_fill {E : Nat → Nat → Prop} {D : Nat → Nat → Nat} {v w : Nat → Int} {kept : List Nat} (h : AllL E D) (hE : ∀ a b, E a b → w a + 1 ≤ w b) (hk : ∀ a, a ∈ kept → w a = v a) : KeepsW D v kept := by
  intro a ha b hb hd
  have key : ∀ {a b k : Nat}, Pth E a b k → w a + k ≤ w b := fun {a b k} p => by
    induction p with
    | one e => exact hE _ _ e
    | cons e _ ih => have := hE _ _ e; omega
  rw [← hk a ha, ← hk b hb]
  exact key ((h a).1 b hd)
end HSP
namespace HSP
open PySem PySem.Spec PyProof.Rows L2
/-! ## sum(rows, start): lists put behind one another -/
/-- a list object with these items -/
def LO (its : List Value) (n : Nat) : Obj := { cls := .type "list", data := .seq its.toArray n }
section
variable {prog : Program} {w : World} {A : Around}
theorem sumL_loop {I S : Addr} {fp wr : List Addr} {n : Nat} {Pv : Nat → Value → Prop} {St : Nat → Heap → Prop} (W : Walks prog w A.in1 I fp wr n Pv St) (hS : S ∉ fp) (row : Nat → Addr) (part : Nat → List Value) (hv : ∀ i v, Pv i v → v = .ref (row i)) (R : Result → Shared → Prop)
    (most : Nat) (hmost : most ≤ sizeLine) (hfp : ∀ i h, St i h → ∀ b ∈ fp, b < h.objs.size) :
    ∀ (k i : Nat) (s : Shared) (T : Addr) (acc : List Value) (c cT : Nat), n - i = k → i ≤ n → St i s.heap → s.heap.get? S = some (LO [.ref T] c) → s.heap.get? T = some (LO acc cT) → T ≠ S → T ∉ wr →
      (∀ j, j < n → row j ≠ S ∧ row j ∉ wr ∧ ∃ m, s.heap.get? (row j) = some (LO (part j) m)) → acc.length + (((List.range n).drop i).map fun j => (part j).length).sum ≤ most →
      (∀ (s' : Shared) (T' : Addr) (c' : Nat), (∀ b o, b ∉ wr → b ≠ S → s.heap.get? b = some o → s'.heap.get? b = some o) → s'.gens = s.gens → s'.drawn = s.drawn → s'.os = s.os →
        s'.heap.get? T' = some (LO (acc ++ (((List.range n).drop i).map part).flatten) c') → T' ≠ S → T' ∉ wr → (i = n ∧ T' = T ∨ s.heap.get? T' = none) → R (.ok (.ret (.ref T'))) s') →
      codeAny (model prog w) A (.builtin "sum.loop" ⟨[.ref I, .ref S, rawInt 2, rawInt 0], []⟩) R s := by
  have hSw : S ∉ wr := fun h => hS (W.sub _ h)
  intro k
  induction k with
  | zero =>
    intro i s T acc c cT hk hi hst eS eT nTS nTw rows hz hR
    obtain rfl : i = n := by omega
    refine codeAny_builtin F.entry_sum_loop ?_
    rw [Around.under_plainId F.plain_sum_loop _]
    show wpAny _ A.in1 (seqItems? (.ref S) >>= _) _ _ s
    refine wpAny_bind (wpAny_seqItems eS rfl (wpAny_bind (wpAny_tryCatch (W.done s _ _ hst fun h' tk kp => ?_))))
    have e0 : ((List.range i).drop i) = [] := List.drop_eq_nil_of_le (by rw [List.length_range]; exact Nat.le_refl _)
    refine wpAny_pure (hR { s with heap := h', toks := tk } T cT (fun b o n1 _ e => kp b o n1 e) rfl rfl rfl ?_ nTS nTw (.inl ⟨rfl, rfl⟩))
    rw [e0, List.map_nil, List.flatten_nil, List.append_nil]
    exact kp T _ nTw eT
  | succ k ih =>
    intro i s T acc c cT hk hi hst eS eT nTS nTw rows hz hR
    have hlt : i < n := by omega
    have ed : (List.range n).drop i = i :: (List.range n).drop (i + 1) := by
      have q := List.drop_eq_getElem_cons (l := List.range n) (i := i) (by rw [List.length_range]; exact hlt)
      rw [List.getElem_range] at q
      exact q
    rw [ed, List.map_cons, List.sum_cons] at hz
    refine codeAny_builtin F.entry_sum_loop ?_
    rw [Around.under_plainId F.plain_sum_loop _]
    show wpAny _ A.in1 (seqItems? (.ref S) >>= _) _ _ s
    refine wpAny_bind (wpAny_seqItems eS rfl (wpAny_bind (wpAny_tryCatch (W.item i s _ _ hlt hst fun v h1 tk hp hst1 kp => ?_))))
    obtain rfl := hv i v hp
    obtain ⟨nrS, nrw, m, er⟩ := rows i hlt
    have eS1 := kp S _ hSw eS
    have eT1 := kp T _ nTw eT
    have er1 := kp (row i) _ nrw er
    show wpAny _ A.in1 ((holding [Value.ref (row i)] (binaryOp .Add (.ref T) (.ref (row i)))).attempt >>= _) _ _ _
    refine wpAny_bind (wpAny_attempt (wpAny_holding (PySem.P.add_list eT1 er1 ?_ (by rw [List.size_toArray, List.size_toArray]; omega))))
    dsimp only
    have z1 : h1.objs.size ≠ S := fun z => by
      have q : S < h1.objs.size := Heap.lt_size eS1
      rw [z] at q
      exact Nat.lt_irrefl _ q
    have eS2 := Heap.get?_push_of_some ({ cls := .type "list", data := .seq (acc.toArray ++ (part i).toArray) } : Obj) eS1
    refine wpAny_bind (wpAny_updateSeq eS2 rfl ?_)
    have eS3 := Heap.get?_update_self (Obj.mapSeq fun _ => #[Value.ref h1.objs.size]) eS2 rfl
    refine wpAny_bind (wpAny_letGo (wpAny_bind (wpAny_updateSeq eS3 rfl ?_)))
    have eS4 := Heap.get?_update_self (Obj.mapSeq fun _ => #[Value.ref h1.objs.size]) eS3 rfl
    have kk : ∀ b o, b ≠ S → h1.get? b = some o → (((h1.push ({ cls := .type "list", data := .seq (acc.toArray ++ (part i).toArray) } : Obj)).update S (Obj.mapSeq fun _ => #[Value.ref h1.objs.size])).update S (Obj.mapSeq fun _ => #[Value.ref h1.objs.size])).get? b = some o := fun b o nb e =>
      (Heap.get?_update_other _ _ (Ne.symm nb)).trans ((Heap.get?_update_other _ _ (Ne.symm nb)).trans (Heap.get?_push_of_some _ e))
    have eN : (((h1.push ({ cls := .type "list", data := .seq (acc.toArray ++ (part i).toArray) } : Obj)).update S (Obj.mapSeq fun _ => #[Value.ref h1.objs.size])).update S (Obj.mapSeq fun _ => #[Value.ref h1.objs.size])).get? h1.objs.size = some (LO (acc ++ part i) 0) := by
      rw [Heap.get?_update_other _ _ (Ne.symm z1), Heap.get?_update_other _ _ (Ne.symm z1), Heap.get?_push_size _ rfl]
      unfold LO
      rw [List.append_toArray]
    refine wpAny_pure ⟨plainId_quiet F.plain_sum_loop _, ih (i + 1) _ h1.objs.size (acc ++ part i) _ 0 (by omega) hlt (W.frame _ _ _ hst1 fun b hb o e => kk b o (fun z => hS (z ▸ hb)) e) eS4 eN z1 (fun z => Nat.lt_irrefl _ (hfp _ _ hst1 _ (W.sub _ z))) (fun j hj => ?_) ?_ fun s' T' c' kp' g' d' o' e' m1 m2 m3 => ?_⟩
    · obtain ⟨n1, n2, m', e1⟩ := rows j hj
      exact ⟨n1, n2, m', kk _ _ n1 (kp _ _ n2 e1)⟩
    · rw [List.length_append]
      omega
    · refine hR s' T' c' (fun b o n1 n2 e => kp' b o n1 n2 (kk b o n2 (kp b o n1 e))) g' d' o' ?_ m1 m2 (.inr ?_)
      · rw [e', ed, List.map_cons, List.flatten_cons, List.append_assoc]
      · cases eo : s.heap.get? T' with
        | none => rfl
        | some o =>
          have e1 := kp T' o m2 eo
          rcases m3 with ⟨_, z⟩ | z
          · rw [z] at e1
            exact absurd (Heap.lt_size e1) (Nat.lt_irrefl _)
          · rw [kk T' o m1 e1] at z
            cases z
end
section
variable {prog : Program} {w : World} {A : Around} {E : Value → Shared → Prop} {s : Shared}
theorem args_sum2 (a b : Value) : argsOk "sum" ⟨[a, b], []⟩ := by
  unfold argsOk
  kernel_rfl
theorem sumL_call {l s0 : Addr} {rows : List Addr} {lits : List Value} {nl n0 : Nat} {parts : Nat → List Value} {acc : List Value} {Q : Value → Shared → Prop} (hh : A.handled = none)
    (el : s.heap.get? l = some (LO lits nl)) (hl : lits = rows.map Value.ref) (e0 : s.heap.get? s0 = some (LO acc n0)) (hr : ∀ j (h : j < rows.length), ∃ m, s.heap.get? rows[j] = some (LO (parts j) m))
    (hz : acc.length + ((List.range rows.length).map fun j => (parts j).length).sum ≤ sizeLine)
    (h : ∀ (s' : Shared) (T : Addr) (c : Nat), (∀ b o, s.heap.get? b = some o → s'.heap.get? b = some o) → s'.gens = s.gens → s'.os = s.os → s'.heap.get? T = some (LO (acc ++ ((List.range rows.length).map parts).flatten) c) → (rows = [] ∧ T = s0 ∨ s.heap.get? T = none) → Q (.ref T) s') :
    wpAny (model prog w) A (call (.builtin "sum") [.ref l, .ref s0]) Q E s := by
  have hlen : lits.toArray.size = rows.length := by rw [hl, List.size_toArray, List.length_map]
  refine call_function_tree F.kind_sum F.plain_sum F.entry_sum (args_sum2 _ _) ?_
  unfold Builtin.«sum»
  simp only [List.length_cons, List.length_nil]
  rw [if_neg (by decide)]
  refine wpAny_bind (wpAny_of_eq (show Builtin.Builtins.bindParams "sum" ["start"] 0 ⟨[.ref s0], []⟩ = pure [some (.ref s0)] from rfl) ?_)
  have hL : s.heap.IsList l lits.toArray := ⟨_, el, rfl, nl, rfl⟩
  refine wpAny_bind (wpAny_pyIter_list hL ?_)
  have lt1 : l < s.heap.objs.size := Heap.lt_size el
  have lt0 : s0 < s.heap.objs.size := Heap.lt_size e0
  have e1 := Heap.get?_push_of_some ({ cls := .type "list_iterator", data := .fields #[.ref l, .int 0 0] } : Obj) e0
  have tL : Shared.TypeIs { s with heap := s.heap.push { cls := .type "list_iterator", data := .fields #[.ref l, .int 0 0] } } (.ref s0) "list" := ⟨_, e1, rfl⟩
  refine wpAny_bind (wpAny_pure ?_)
  simp only [List.forIn_cons, List.forIn_nil]
  refine wpAny_bind (wpAny_bind (wpAny_bind (wpAny_isInstance (T := "list") (b := false) tL PySem.F.sub_list_str ?_)))
  simp only [Bool.false_eq_true, if_false]
  refine wpAny_pure (wpAny_bind (wpAny_bind (wpAny_isInstance (T := "list") (b := false) tL PySem.F.sub_list_bytes ?_)))
  simp only [Bool.false_eq_true, if_false]
  refine wpAny_pure (wpAny_bind (wpAny_bind (wpAny_isInstance (T := "list") (b := false) tL PySem.F.sub_list_bytearray ?_)))
  simp only [Bool.false_eq_true, if_false]
  refine wpAny_pure (wpAny_pure (wpAny_bind (wpAny_newObj_type ?_)))
  have sz1 : (s.heap.push ({ cls := .type "list_iterator", data := .fields #[.ref l, .int 0 0] } : Obj)).objs.size = s.heap.objs.size + 1 := Heap.size_push ..
  have nlI : l ≠ s.heap.objs.size := Nat.ne_of_lt lt1
  have kp : ∀ b o, s.heap.get? b = some o → ((s.heap.push ({ cls := .type "list_iterator", data := .fields #[.ref l, .int 0 0] } : Obj)).push (LO [.ref s0] 0)).get? b = some o := fun b o e => Heap.get?_push_of_some _ (Heap.get?_push_of_some _ e)
  refine wpAny_pure ⟨plainId_quiet F.plain_sum_loop _, sumL_loop (Walks.list (A := A.in1) (by simp [hh]) s.heap.objs.size l nlI lits.toArray) (S := (s.heap.push ({ cls := .type "list_iterator", data := .fields #[.ref l, .int 0 0] } : Obj)).objs.size) ?_ (fun j => rows.getD j 0) parts ?_ _ sizeLine (Nat.le_refl _) ?_
    (rows.length - 0) 0 _ s0 acc 0 n0 (by rw [hlen]) (Nat.zero_le _) ⟨⟨_, Heap.get?_push_of_some _ (Heap.get?_push_size _ rfl), rfl, rfl⟩, (hL.push _).push _⟩ ?_ (kp _ _ e0) (by rw [sz1]; exact Nat.ne_of_lt (Nat.lt_succ_of_lt lt0)) ?_ ?_ ?_ ?_⟩
  · rw [sz1]
    intro z
    rcases List.mem_cons.mp z with z | z
    · exact absurd z (Nat.ne_of_gt (Nat.lt_succ_self _))
    · exact absurd (List.mem_singleton.mp z) (Nat.ne_of_gt (Nat.lt_succ_of_lt lt1))
  · intro i v hv
    rw [List.getElem?_toArray, hl, List.getElem?_map] at hv
    cases hr2 : rows[i]? with
    | none => rw [hr2] at hv; cases hv
    | some b =>
      rw [hr2] at hv
      cases hv
      rw [List.getD_eq_getElem?_getD, hr2]
      rfl
  · intro i h st b hb
    rcases List.mem_cons.mp hb with z | z
    · obtain ⟨⟨o, ho, _⟩, _⟩ := st
      rw [z]
      exact Heap.lt_size ho
    · obtain ⟨_, ⟨o, ho, _⟩⟩ := st
      rw [List.mem_singleton.mp z]
      exact Heap.lt_size ho
  · exact Heap.get?_push_size _ rfl
  · intro z
    exact absurd (List.mem_singleton.mp z) (Nat.ne_of_lt lt0)
  · intro j hj
    rw [hlen] at hj
    obtain ⟨m, e⟩ := hr j hj
    have eg : rows.getD j 0 = rows[j] := by
      rw [List.getD_eq_getElem?_getD, List.getElem?_eq_getElem hj]
      rfl
    have lt2 : rows[j] < s.heap.objs.size := Heap.lt_size e
    refine ⟨?_, ?_, m, ?_⟩
    · rw [eg, sz1]; exact Nat.ne_of_lt (Nat.lt_succ_of_lt lt2)
    · rw [eg]; exact fun z => absurd (List.mem_singleton.mp z) (Nat.ne_of_lt lt2)
    · rw [eg]; exact kp _ _ e
  · rw [hlen, List.drop_zero]
    exact hz
  · intro s' T' c' k1 g1 d1 o1 e' m1 m2 m3
    rw [hlen, List.drop_zero] at e'
    refine h s' T' c' (fun b o e => ?_) g1 o1 e' (m3.imp (fun z => ⟨List.eq_nil_of_length_eq_zero (by rw [← hlen]; exact z.1.symm), z.2⟩) fun z => ?_)
    rotate_left
    · cases eo : s.heap.get? T' with
      | none => rfl
      | some o =>
        cases (kp _ _ eo).symm.trans z
    have lt3 : b < s.heap.objs.size := Heap.lt_size e
    exact k1 b o (fun z => absurd (List.mem_singleton.mp z) (Nat.ne_of_lt lt3)) (by rw [sz1]; exact Nat.ne_of_lt (Nat.lt_succ_of_lt lt3)) (kp _ _ e)
end
section
variable {X : Cx}
/-- sum(a list of lists of ints, a list of ints) -/
def rSumL (K : PySem.W.Frag) : List V → Hp → VK → Prop := fun vs H Q => ∃ (a b : Addr) (rows : List Addr) (parts : List (List Int)) (ms : List Int), vs = [V.ref a, V.ref b] ∧ H a = some (.lst (rows.map V.ref)) ∧ H b = some (.lst (ms.map V.int)) ∧
  Paired (fun r ns => H r = some (.lst (ns.map V.int))) rows parts ∧ ms.length + parts.flatten.length ≤ sizeLine ∧ ∀ (H' : Hp) (p : Addr), Same H H' → H' p = some (.lst ((ms ++ parts.flatten).map V.int)) → Q (.ref p) H'
theorem refs_of : ∀ {rows : List Addr} {its : List Value}, Vals (rows.map V.ref) its → its = rows.map Value.ref
  | [], _, .nil => rfl
  | a :: r, _, .cons q t => by rw [List.map_cons, ← refs_of t, (show _ = Value.ref a from q)]
theorem Paired.at' {α β : Type} {R : α → β → Prop} : ∀ {l : List α} {m : List β}, Paired R l m → ∀ j (h : j < l.length) (h' : j < m.length), R l[j] m[j]
  | _, _, .cons q _, 0, _, _ => q
  | _, _, .cons _ t, j + 1, h, h' => Paired.at' t j (Nat.lt_of_succ_lt_succ h) (Nat.lt_of_succ_lt_succ h')
theorem range_map {α β : Type} (f : α → β) (d : α) : ∀ l : List α, (List.range l.length).map (fun j => f (l.getD j d)) = l.map f := by
  intro l
  apply List.ext_getElem
  · rw [List.length_map, List.length_map, List.length_range]
  · intro i h1 h2
    rw [List.length_map] at h2
    rw [List.getElem_map, List.getElem_map, List.getElem_range, List.getD_eq_getElem?_getD, List.getElem?_eq_getElem h2]
    rfl
theorem rows_of {P : Program} {w : World} {H : Hp} {h : Heap} (ok : HOk P w H h) : ∀ {rows : List Addr} {parts : List (List Int)}, Paired (fun r ns => H r = some (.lst (ns.map V.int))) rows parts →
    ∃ pits : List (List Value), pits.length = rows.length ∧ (∀ j (hj : j < rows.length), ∃ m, h.get? rows[j] = some (LO (pits.getD j []) m)) ∧ Vals (parts.flatten.map V.int) pits.flatten ∧ (pits.map List.length).sum = parts.flatten.length
  | [], [], .nil => ⟨[], rfl, fun j hj => absurd hj (Nat.not_lt_zero j), .nil, rfl⟩
  | r :: rows, ns :: parts, .cons e t => by
    obtain ⟨pits, h1, h2, h3, h4⟩ := rows_of ok t
    obtain ⟨z, its, n, v, g⟩ : ObjOk P w H h r (.lst (ns.map V.int)) := ok r _ e
    refine ⟨its :: pits, by rw [List.length_cons, h1, List.length_cons], fun j hj => ?_, ?_, ?_⟩
    · cases j with
      | zero => exact ⟨n, g⟩
      | succ j => exact h2 j (Nat.lt_of_succ_lt_succ hj)
    · rw [List.flatten_cons, List.map_append, List.flatten_cons]
      exact v.append h3
    · rw [List.map_cons, List.sum_cons, h4, List.flatten_cons, List.length_append, ← v.length, List.length_map]
theorem cr_sumL (hc : X.calm = true) : CallR X (.builtin "sum") (rSumL X.K) := by
  intro pins s σ H vs us Q I r h
  obtain ⟨a, b, rows, parts, ms, rfl, ha, hb, hp, hz, q⟩ := h
  cases r with
  | cons r1 t1 =>
    cases t1 with
    | cons r2 t2 =>
      cases t2
      cases r1
      cases r2
      obtain ⟨za, its, n, va, ea⟩ : ObjOk X.prog X.w H s.heap a (.lst (rows.map V.ref)) := I.hok a _ ha
      obtain ⟨zb, it0, n0, vb, eb⟩ : ObjOk X.prog X.w H s.heap b (.lst (ms.map V.int)) := I.hok b _ hb
      obtain ⟨pits, hl2, hg2, hv2, hn2⟩ := rows_of I.hok hp
      have e1 : (List.range rows.length).map (fun j => pits.getD j []) = pits := by
        have q := range_map (fun x : List Value => x) [] pits
        rw [List.map_id', hl2] at q
        exact q
      have e2 : ((List.range rows.length).map fun j => (pits.getD j []).length).sum = parts.flatten.length := by
        have q := range_map (fun x : List Value => x.length) [] pits
        rw [hl2] at q
        rw [q, hn2]
      refine sumL_call (I.ok.hd hc) (lits := its) (acc := it0) (parts := fun j => pits.getD j []) ea (refs_of va) eb hg2 (by rw [e2, ← vb.length, List.length_map]; exact hz) fun s' T c kp hg ho hT hw => ?_
      rw [e1] at hT
      have hvals : Vals ((ms ++ parts.flatten).map V.int) (it0 ++ pits.flatten) := by
        rw [List.map_append]
        exact vb.append hv2
      rcases hw with ⟨z1, z2⟩ | hnew
      · subst z1
        cases hp
        refine ⟨.ref T, H, I.call' (ch := []) ho (Un.kept kp) (I.hok.kept kp) (by rw [hg]; exact I.bare) (fun _ z => nomatch z), rfl, q H T (Same.refl H) ?_⟩
        rw [z2, hb, List.flatten_nil, List.append_nil]
      · have hn : H T = none := by
          cases eo : H T with
          | none => rfl
          | some o =>
            obtain ⟨u, hu⟩ := objOk_get (I.hok T o eo)
            rw [hnew] at hu
            cases hu
        refine ⟨.ref T, upd H T (.lst ((ms ++ parts.flatten).map V.int)), I.call' (ch := []) ho (Un.laidN kp hnew hn) (I.hok.laidN kp hn ⟨?_, _, c, hvals, hT⟩) (by rw [hg]; exact I.bare) (fun _ z => nomatch z), rfl, q _ T (Same.new hn) upd_same⟩
        rw [List.length_map, List.length_append]
        exact hz
end
end HSP
namespace HSP
open PySem PySem.Spec PyProof.Rows L2
/-! ## set(a list of ints) -/
/-- a set that was just made, as the world bears it -/
abbrev nSet (w : World) : Obj := { cls := .type "set", dict := none, data := .set #[] 0 (.fresh 0 0 (!w.params.followText "set-order")) }
abbrev nIt (l : Addr) : Obj := { cls := .type "list_iterator", data := .fields #[.ref l, .int 0 0] }
section
variable {P : Program} {w : World} {A : Around} {E : Value → Shared → Prop} {s : Shared}
/-- what the filling of the new set leaves -/
def Filled (w : World) (s : Shared) (ns : List Int) (v : Value) (s2 : Shared) : Prop :=
  v = .none ∧ ∃ (h2 : Heap) (tk c : Nat), s2 = { s with heap := h2, toks := tk } ∧ SetR w h2 s.heap.objs.size (fun j => decide (j ∈ ns)) c ∧ c ≤ ns.length ∧ ∀ b o, s.heap.get? b = some o → h2.get? b = some o
theorem setL_fill {l : Addr} {items : Array Value} {nl : Nat} {dd : Option Addr} {sl : Array (Option Value)} (ns : List Int) (hh : A.handled = none) (el : s.heap.get? l = some { cls := .type "list", dict := dd, data := .seq items nl, slots := sl }) (hi : IntsAre items.toList ns) (hb : ns.length + 1 < scanBound) :
    codeAny (model P w) A (.call (.builtin "set.__init__") ⟨[.ref s.heap.objs.size, .ref l], []⟩) (wants (Filled w s ns) E) { s with heap := s.heap.push (nSet w) } := by
  have many : items.size = ns.length := by rw [← Array.length_toList]; exact IntsAre.length hi
  have lS : l < s.heap.objs.size := Heap.lt_size el
  have sz : (s.heap.push (nSet w)).objs.size = s.heap.objs.size + 1 := Heap.size_push ..
  have gS : (s.heap.push (nSet w)).get? s.heap.objs.size = some (nSet w) := Heap.get?_push_size _ rfl
  have el1 := Heap.get?_push_of_some (nSet w) el
  have isL : (s.heap.push (nSet w)).IsList l items := ⟨_, el1, rfl, nl, rfl⟩
  refine codeAny_call_builtin F.called_set.init.plain F.entry_set_init (check_set_init_1 ⟨_, gS, rfl⟩ ?_)
  have t1 := F.sub_list_set
  have t2 := F.sub_list_frozenset
  have t3 : (Value.type "list" == Value.type "dict") = false := by decide
  unfold Builtin.«set.__init__» noKeywords Builtin.Frozenset.updateFrom
  generalize hPI : pyIter = PI
  wp_walk
  subst hPI
  refine wpAny_pyIter_list isL (wpAny_bind (wpAny_runValue ?_))
  have nlI : l ≠ (s.heap.push (nSet w)).objs.size := by rw [sz]; exact Nat.ne_of_lt (Nat.lt_succ_of_lt lS)
  have offS : s.heap.objs.size ∉ [(s.heap.push (nSet w)).objs.size, l] := fun z => by
    rw [sz] at z
    rcases List.mem_cons.mp z with z | z
    · exact absurd z (Nat.ne_of_lt (Nat.lt_succ_self _))
    · exact absurd (List.mem_singleton.mp z) (Nat.ne_of_gt lS)
  have vals : ∀ (i : Nat) (v : Value), items[i]? = some v → ∃ k t, ns[i]? = some k ∧ v = .int k t := fun i v hv => by
    have lt : i < ns.length := by rw [← many]; exact (Array.getElem?_eq_some_iff.mp hv).1
    obtain ⟨t, e⟩ := IntsAre.int_at hi i v (by rw [Array.getElem?_toList]; exact hv)
    have eg : ns.getD i 0 = ns[i] := by rw [List.getD_eq_getElem?_getD, List.getElem?_eq_getElem lt]; rfl
    exact ⟨ns[i], t, List.getElem?_eq_getElem lt, by rw [e, eg]⟩
  refine set_update_ints (Walks.list (A := A.in1.in1) (by simp [hh]) _ l nlI items).toS s.heap.objs.size offS ns many hb vals (items.size - 0) 0 _ rfl (Nat.zero_le _) ?st ?new fun s2 c hm hc hR => ?_
  case st => exact ⟨⟨_, Heap.get?_push_size _ rfl, rfl, rfl⟩, isL.push _⟩
  case new => exact ⟨0, Nat.le_refl 0, setR_new_at (w := w) (show ((s.heap.push (nSet w)).push (nIt l)).get? s.heap.objs.size = some (nSet w) from Heap.get?_push_of_some _ gS)⟩
  obtain ⟨h2, g2, d2, tk2, os2⟩ := s2
  obtain rfl : g2 = s.gens := hm.gens
  obtain rfl : d2 = s.drawn := hm.drawn
  obtain rfl : os2 = s.os := hm.os
  rw [many] at hc
  refine wpAny_pure (wpAny_pure ⟨rfl, h2, tk2, c, rfl, hR, hc, fun b o e => ?_⟩)
  have bS : b < s.heap.objs.size := Heap.lt_size e
  refine hm.heap b o (fun z => ?_) (Heap.get?_push_of_some _ (Heap.get?_push_of_some _ e))
  rcases List.mem_cons.mp z with z | z
  · exact absurd z (Nat.ne_of_lt bS)
  · have z' := List.mem_singleton.mp z
    rw [sz] at z'
    exact absurd z' (Nat.ne_of_lt (Nat.lt_succ_of_lt bS))
theorem setL_call {l : Addr} {items : Array Value} {nl : Nat} {dd : Option Addr} {sl : Array (Option Value)} (ns : List Int) {Q : Value → Shared → Prop} (hh : A.handled = none) (el : s.heap.get? l = some { cls := .type "list", dict := dd, data := .seq items nl, slots := sl }) (hi : IntsAre items.toList ns) (hb : ns.length + 1 < scanBound)
    (h : ∀ s2, Filled w s ns .none s2 → Q (.ref s.heap.objs.size) s2) : wpAny (model P w) A (call (.type "set") [.ref l]) Q E s := by
  obtain ⟨cl, tl, f1⟩ := F.called_set.mro
  have f2 := F.called_set.made
  have f3 := F.called_set.sub
  have f4 := F.called_set.notType
  have f5 := F.called_set.canCreate
  have f6 := F.typeCall_set_1 (.ref l)
  refine wpAny_call (codeAny_of_tree (show wpAny _ _ (callAny (.type "set") _) _ _ _ from wpAny_pure ⟨Code.quiet_builtin _ (by decide +kernel), codeAny_builtin F.entry_type_call ?_⟩))
  rw [Around.under_plain (weight_type_call_type "set" [.ref l] []) rfl]
  repeat any_goals (first | assumption | wp_step)
  refine codeAny_mono (code_set_led1 (.ref l) (E := E) (Q₁ := fun v s1 => v = .ref s.heap.objs.size ∧ s1 = { s with heap := s.heap.push (nSet w) }) ⟨rfl, rfl⟩) fun r s1 hr => ?_
  match r, hr with
  | .error _, hr => exact hr
  | .ok (.ret v), hr =>
    obtain ⟨e1, e2⟩ := hr
    subst e1 e2
    have f7 := F.called_set.init.lookup
    have f8 := F.called_set.init.bind (.ref s.heap.objs.size)
    have f9 : Shared.TypeIs { s with heap := s.heap.push (nSet w) } (.ref s.heap.objs.size) "set" := ⟨_, Heap.get?_push_size _ rfl, rfl⟩
    repeat any_goals (first | assumption | wp_step)
    refine codeAny_mono (setL_fill (E := E) (A := A.in1) ns (by simp [hh]) el hi hb) fun r2 s2 hr2 => ?_
    match r2, hr2 with
    | .error _, hr2 => exact hr2
    | .ok (.ret u), hr2 =>
      obtain ⟨e3, q⟩ := hr2
      subst e3
      repeat any_goals (first | assumption | wp_step)
      exact h _ ⟨rfl, q⟩
end
section
variable {X : Cx}
/-- set(a list of ints): its members, at most as many as there are items -/
def rSetInts (w : World) : List V → Hp → VK → Prop := fun vs H Q => ∃ (a : Addr) (ns : List Int), vs = [V.ref a] ∧ H a = some (.lst (ns.map V.int)) ∧ ns.length ≤ 1000 ∧
  ∀ (p : Addr) (c : Nat), H p = none → c ≤ ns.length → Q (.ref p) (upd H p (SetO w p (fun j => decide (j ∈ ns)) c))
theorem cr_setInts (hc : X.calm = true) : CallR X (.type "set") (rSetInts X.w) := by
  intro pins s σ H vs us Q I r h
  obtain ⟨a, ns, rfl, ha, hl, q⟩ := h
  rw [Vals.ref1 r]
  obtain ⟨z, its, n, rv, e⟩ : ObjOk X.prog X.w H s.heap a (.lst (ns.map V.int)) := I.hok a _ ha
  refine setL_call ns (I.ok.hd hc) e (ints_of_vals rv) (by unfold scanBound; omega) fun s2 hf => ?_
  obtain ⟨_, h2, tk, c, rfl, hR, hc2, kp⟩ := hf
  have hn : H s.heap.objs.size = none := I.hok.fresh (Nat.le_refl _)
  exact ⟨.ref _, _, I.laid kp (Nat.le_refl _) (setO_new hR), rfl, q _ c hn hc2⟩
end
end HSP
namespace HSP
open PySem PySem.Spec PyProof.Rows L2
/-! ## sorted(a set of ints), any number of them -/
section
variable {P : Program} {w : World} {A : Around} {E : Value → Shared → Prop} {s : Shared} {a : Addr}
theorem sorted_setB {S : Int → Bool} {n : Nat} {Q : Value → Shared → Prop} (R : SetR w s.heap a S n) (hh : A.handled = none)
    (hQ : ∀ s' p (out : List Value) (c : Nat) (ns : List Int), (∀ b o, s.heap.get? b = some o → s'.heap.get? b = some o) → s'.gens = s.gens → s'.os = s.os → s.heap.objs.size ≤ p →
      s'.heap.get? p = some (seqObj "list" out.toArray c) → IntsAre out ns → ns.Pairwise (· < ·) → (∀ k, k ∈ ns ↔ S k = true) → ns.length = n → Q (.ref p) s') :
    wpAny (model P w) A (call (.builtin "sorted") [.ref a]) Q E s := by
  obtain ⟨o, es, ep, t, ho, hex, hd, g, nd, hm, hb, hf, hn, hr, hl⟩ := R
  refine Calls.call_function_entry kind_sorted plain_sorted entry_sorted (args_sorted1 _) ?_
  unfold Builtin.«sorted»
  refine wpAny_bind (m := PySem.checkCount "sorted" 1 1 _) (wpAny_pure ?_)
  refine wpAny_bind (collect_set (A := A.in1) hh ⟨o, ho, hex.1, hd⟩ hf hb hr hl fun s1 vs k1 hz g1 o1 pm => ?_)
  have hvl : vs.length = n := by rw [pm.length_eq, List.length_map, Array.length_toList]; exact hn
  have hI : IntsAre vs (vs.map Builtin.Re.reRawOf) := ints_of vs fun v hv => by
    obtain ⟨e, he, q⟩ := List.mem_map.mp (pm.mem_iff.mp hv)
    obtain ⟨k, tk, h1, _⟩ := g e he
    exact ⟨k, tk, by rw [← q]; exact h1⟩
  have pk : (vs.map Builtin.Re.reRawOf).Perm (es.toList.map keyOf) := by
    have q := pm.map Builtin.Re.reRawOf
    rw [List.map_map] at q
    exact q
  have hzl : vs.length ≤ sizeLine := by
    rw [pm.length_eq, List.length_map, Array.length_toList]
    exact fits_of_scanBound hb
  refine wpAny_bind (wpAny_newList ?_ hzl)
  have hoL : (s1.heap.push (seqObj "list" vs.toArray 0)).get? s1.heap.objs.size = some (seqObj "list" vs.toArray 0) := Heap.get?_push_size _ rfl
  refine wpAny_bind (wpAny_holding (wpAny_call_entry slot_list_sort ⟨_, hoL, rfl⟩ entry_list_sort (SrtO.list_sort_ord SrtO.swo_int hoL hzl (fun h2 => SrtO.ints_sortable hI h2) fun out h1 h2 => ⟨_, rfl, ?_⟩) (args_list_sort _)))
  obtain ⟨q1, q2, q3⟩ := SrtO.ints_out hI h1 h2
  obtain ⟨c, hc⟩ := sortedHeap_at (vs := vs) (out := out.toArray) hoL
  have pn := q2.trans pk
  refine wpAny_pure ⟨_, rfl, hQ _ s1.heap.objs.size out c _ (fun b u e => ?_) g1 o1 hz hc q1 (lt_of_le_nodup _ q3 (pn.nodup_iff.mpr nd)) (fun k => by rw [pn.mem_iff, ← hm k]) ?_⟩
  · have q := k1 b u e
    have hlt := Heap.lt_size q
    show (sortedHeap (s1.heap.push (seqObj "list" vs.toArray 0)) s1.heap.objs.size vs out.toArray).get? b = some u
    rw [sortedHeap_old (Nat.ne_of_lt hlt) (by rw [size_push']; exact Nat.lt_succ_of_lt hlt)]
    exact Heap.get?_push_of_some _ q
  · rw [pn.length_eq, List.length_map, Array.length_toList]; exact hn
end
section
variable {X : Cx}
def rSortedSetB (w : World) : List V → Hp → VK → Prop := fun vs H Q => ∃ (a : Addr) (S : Int → Bool) (n : Nat), vs = [V.ref a] ∧ H a = some (SetO w a S n) ∧ n ≤ 10000 ∧
  ∀ (ns : List Int) (p : Addr), ns.Pairwise (· < ·) → (∀ k : Int, k ∈ ns ↔ S k = true) → ns.length = n → H p = none → Q (.ref p) (upd H p (.lst (ns.map V.int)))
theorem cr_sortedSetB (hc : X.calm = true) : CallR X (.builtin "sorted") (rSortedSetB X.w) := by
  intro pins s σ H vs us Q I r h
  obtain ⟨a, S, n, rfl, ha, hnb, q⟩ := h
  have R := setO_get I ha
  rw [Vals.ref1 r]
  refine sorted_setB R (I.ok.hd hc) fun s' p out c ns k g o hp hg hi hs hm hl => ?_
  have hlen : (ns.map V.int).length ≤ sizeLine := by
    rw [List.length_map, hl, sizeLine_eq]
    omega
  have hn : H p = none := I.hok.fresh hp
  have J : Inv X pins σ (upd H p (.lst (ns.map V.int))) { s with heap := s'.heap, gens := s'.gens, drawn := s'.drawn, toks := s'.toks } :=
    I.call (ch := []) (Un.laid k hp hn) (I.hok.laid k hp ⟨hlen, out, c, vals_of_ints hi, hg⟩) (by rw [g]; exact I.bare) (fun _ z => nomatch z)
  have e : s' = { s with heap := s'.heap, gens := s'.gens, drawn := s'.drawn, toks := s'.toks } := by
    cases s'
    cases s
    cases o
    rfl
  rw [e]
  exact ⟨.ref p, _, J, rfl, q ns p hs hm hl hn⟩
end
end HSP
namespace HSP
open PySem PySem.Spec PyProof.Rows L2
section
variable {P : Program} {w : World} {K : PySem.W.Frag} {mg : Str → Option Value} {base : Heap}
/-! ### is_node, check_among, check_node, where it is one -/
theorem sc_isN : FnScope n_is_node ["thing", "many"] (defScope s_is_node) := ⟨rfl, rfl, rfl, by decide +kernel, rfl, by decide +kernel, by decide +kernel⟩
def spIsN : Sp := fun vs H Q _ => ∃ (i m : Nat), vs = [natV i, natV m] ∧ i < m ∧ Q (.bl true) H
theorem ok_isN (W1 : Df P w K mg base "is_whole" 1 ["thing"] spWhole) (a : At K mg "is_node" s_is_node) : Df P w K mg base "is_node" 2 ["thing", "many"] spIsN := by
  refine Df.mk' a sc_isN (fun vs H Q E h => ?_) (fun _ _ _ _ _ _ us hl => match us, hl with | [_, _], _ => rfl) (fun f cdv A outer s H vs Q E hr h => ?_)
  · obtain ⟨i, m, rfl, _⟩ := h
    rfl
  obtain ⟨i, m, rfl, hi, q⟩ := h
  refine ⟨_, (pss_one (ps_ret (pe_and (pe_df W1 hr (pa_cons (pv 0) pa_nil)) (pe_one (pe_chain op_le op_lt pe_int (pv 0) (pv 1)))))), ?_⟩
  refine ⟨_, rfl, _, rfl, true, rfl, iteT ?_⟩
  refine ⟨_, rfl, _, _, rfl, rfl, _, rfl, ite_yes (by omega) ?_⟩
  refine ⟨_, rfl, _, _, rfl, rfl, ?_⟩
  have z : Q (.bl (decide ((i : Int) < (m : Int)))) H := by
    rw [decide_eq_true (show (i : Int) < (m : Int) by omega)]
    exact q
  exact z
def spChkA : Sp := fun vs H Q _ => ∃ (i m : Nat), vs = [natV m, natV i] ∧ i < m ∧ Q .non H
end
end HSP
namespace HSP
open PySem PySem.Spec PyProof.Rows L2
section
variable {P : Program} {w : World} {K : PySem.W.Frag} {mg : Str → Option Value} {base : Heap}
/-! ### check_row -/
theorem sc_chkR : FnScope n_check_row ["row"] (defScope s_check_row) := ⟨rfl, rfl, rfl, by decide +kernel, rfl, by decide +kernel, by decide +kernel⟩
def spChkR : Sp := fun vs H Q _ => ∃ (a : Addr) (ns : List Int), vs = [.ref a] ∧ H a = some (.lst (ns.map V.int)) ∧ ∀ H', Same H H' → Q .non H'
theorem ok_chkR (B : Bl mg) (W1 : Df P w K mg base "is_whole" 1 ["thing"] spWhole) (a : At K mg "check_row" s_check_row) : Df P w K mg base "check_row" 2 ["row"] spChkR := by
  refine Df.mk' a sc_chkR (fun vs H Q E h => ?_) (fun _ _ _ _ _ _ us hl => match us, hl with | [_], _ => rfl) (fun f cdv A outer s H vs Q E hr h => ?_)
  · obtain ⟨a, ns, rfl, _⟩ := h
    rfl
  obtain ⟨a, ns, rfl, ha, q⟩ := h
  refine ⟨_, (pss_cons (ps_if (pt_not (pt_val (pe_callB call_isi (by rfl) B.isinstance (by decide +kernel) (pa_cons (pv 0) (pa_cons (pe_bltn (v := .ty "list") (by rfl) B.list (by decide +kernel) rfl) pa_nil))))) (pss_one ps_never) pss_nil)
 (pss_one (ps_for PassesOwn.never rfl (pi_enum (by rfl) B.enumerate (pa_cons (pv 0) pa_nil)) (pg_tup rfl (pgs_cons (pg_name (i := 1) sc_chkR.nd rfl (.inl rfl)) (pgs_cons (pg_name (i := 2) sc_chkR.nd rfl (.inl rfl)) pgs_nil))) (pss_one (ps_if (pt_not (pt_val (pe_df W1 hr (pa_cons (pv 2) pa_nil)))) (pss_one ps_never) pss_nil))))), ?_⟩
  refine ⟨_, rfl, _, _, _, _, true, rfl, .ty "list", .base (.lst ha), rfl, true, rfl, iteF ?_⟩
  refine ⟨.ref a, rfl, a, ns.map V.int, rfl, .of ha, ?_⟩
  refine for_it (walk_enum (K := K) (a := a) (xs := ns.map V.int)) (fun _ σ H3 => Same H H3 ∧ ∃ y2 y3, σ = [some (.ref a), y2, y3]) ⟨Same.refl _, none, none, rfl⟩ (fun i σ H3 _ h3 => .of (h3.1 _ _ ha)) (fun i x σ H3 H4 hi h3 hy => ?_) (fun σ H3 h3 => q _ h3.1)
  obtain ⟨s3, y2, y3, rfl⟩ := h3
  obtain ⟨p, x1, x2, rfl, np, rfl, ex1, ex2⟩ := hy
  rw [List.length_map] at hi
  have g1 : (ns.map V.int)[i]? = some (.int ns[i]) := by
    rw [List.getElem?_map, List.getElem?_eq_getElem hi]
    rfl
  cases g1.symm.trans ex2
  refine ⟨p, [x1, .int ns[i]], rfl, .of upd_same, rfl, x1, _, rfl, _, [], rfl, rfl, ?_⟩
  refine ⟨_, rfl, _, rfl, true, rfl, iteF ?_⟩
  exact ⟨s3.trans (Same.new np), _, _, rfl⟩
end
end HSP
namespace HSP
open PySem PySem.Spec PyProof.Rows L2
section
variable {P : Program} {w : World} {K : PySem.W.Frag} {mg : Str → Option Value} {base : Heap}
/-! ### check_values -/
theorem sc_chkV : FnScope n_check_values ["tree", "values"] (defScope s_check_values) := ⟨rfl, rfl, rfl, by decide +kernel, rfl, by decide +kernel, by decide +kernel⟩
def spChkV : Sp := fun vs H Q _ => ∃ (v : V) (t : Tr) (a : Addr) (ns : List Int), vs = [v, .ref a] ∧ TrAt H v t ∧ t.size ≤ 1000 ∧ H a = some (.lst (ns.map V.int)) ∧ ns.length = t.size ∧ ∀ H', Same H H' → Q .non H'
theorem ok_chkV (B : Bl mg) (R : Df P w K mg base "check_row" 2 ["row"] spChkR) (C : Df P w K mg base "count_nodes" 1 ["tree"] spCount) (T : Df P w K mg base "check_tree" 2 ["tree"] spChkT)
    (a : At K mg "check_values" s_check_values) : Df P w K mg base "check_values" 3 ["tree", "values"] spChkV := by
  refine Df.mk' a sc_chkV (fun vs H Q E h => ?_) (fun _ _ _ _ _ _ us hl => match us, hl with | [_, _], _ => rfl) (fun f cdv A outer s H vs Q E hr h => ?_)
  · obtain ⟨v, t, a, ns, rfl, _⟩ := h
    rfl
  obtain ⟨v, t, a, ns, rfl, ht, hz, ha, hn, q⟩ := h
  refine ⟨_, (pss_cons (ps_expr (pe_df T hr (pa_cons (pv 0) pa_nil)))
 (pss_cons (ps_if (PW.pt (pw_and (pt_val (pe_callB call_isi (by rfl) B.isinstance (by decide +kernel) (pa_cons (pv 1) (pa_cons (pe_bltn (v := .ty "list") (by rfl) B.list (by decide +kernel) rfl) pa_nil)))) (pw_and1 (pt_cmpR op_ne (pe_callB call_len_seq (by rfl) B.len PySem.boot_len (pa_cons (pv 1) pa_nil)) (pe_df C (hr.mono (by decide)) (pa_cons (pv 0) pa_nil)) (nomark _))))) (pss_one ps_never) pss_nil)
 (pss_one (ps_expr (pe_df R hr (pa_cons (pv 1) pa_nil)))))), ?_⟩
  refine ⟨v, rfl, v, t, rfl, ht, hz, fun H1 s1 => ?_⟩
  refine ⟨_, rfl, _, _, _, _, true, rfl, .ty "list", .base (.lst (s1 _ _ ha)), rfl, true, rfl, iteT ?_⟩
  refine ⟨_, rfl, a, _, rfl, .inl (.of (s1 _ _ ha)), v, rfl, v, t, rfl, ht.same s1, hz, fun H2 s2 => ?_⟩
  have e1 : V.int (((ns.map V.int).length : Nat) : Int) = V.int ((t.size : Nat) : Int) := by rw [List.length_map, hn]
  refine ⟨rfl, _, rfl, ?_⟩
  rw [e1, decide_eq_true rfl]
  refine iteF ?_
  exact ⟨.ref a, rfl, a, ns, rfl, s2 _ _ (s1 _ _ ha), fun H3 s3 => q _ ((s1.trans s2).trans s3)⟩
end
end HSP
namespace HSP
open PySem PySem.Spec PyProof.Rows L2
/-! ## defs that may show an object: nothing is being shown around them -/
structure FnG (P : Program) (w : World) (K : PySem.W.Frag) (mg : Str → Option Value) (base : Heap) (CX : CXT) (k : Nat) (f : Addr) (fd : FuncData) (ps : List Str) (sp : Sp) : Prop where
  len : ∀ vs H Q E, sp vs H Q E → vs.length = ps.length
  run : ∀ (A : Around) (outer : List Env) (s : Shared) (H : Hp) (args : Args) (us : List Value) (vs : List V) (Q : VK) (E : XK), A.guards = some [] → Room k A → Env0 P w K mg base A outer s H → BindsTo s fd args (ps.zip us) → Vals vs us → sp vs H Q E →
    codeAny (model P w) A (.call (.ref f) args) (CR CX outer P w H s Q E) s
section
variable {P : Program} {w : World} {K : PySem.W.Frag} {mg : Str → Option Value} {base : Heap}
theorem FnG.of {CX : CXT} {k : Nat} {f : Addr} {fd : FuncData} {ps : List Str} {sp : Sp} (F : FnOk P w K mg base CX k f fd ps sp) : FnG P w K mg base CX k f fd ps sp :=
  ⟨F.len, fun A outer s H args us vs Q E _ hr e hb hv hs => F.run A outer s H args us vs Q E hr e hb hv hs⟩
theorem FnG.mk' {CX : CXT} {x qual : Str} {st : Stmt} {f : Addr} {fd : FuncData} {N ps : List Str} {k : Nat} {sp : Sp} (F : Fun K x qual st f fd) (S : FnScope N ps (defScope st)) (len : ∀ vs H Q E, sp vs H Q E → vs.length = ps.length)
    (body : ∀ (cdv : Value) (A : Around) (outer : List Env) (s : Shared) (H : Hp) (vs : List V) (Q : VK) (E : XK), A.guards = some [] → Room k (A.deeper (envOfC qual (defScope st) s.heap.objs.size f cdv)) → sp vs H Q E →
      ∃ t, PSs (cxOf CX P w K mg base N qual (defScope st) f cdv A outer s H E) (defBody st) t ∧ t { nx := fun _ H' => Q .non H', rt := Q } (start N vs) H) : FnG P w K mg base CX (k + 1) f fd ps sp := by
  obtain ⟨oc, od, kV, doc, pm, an, cdv, ct, osl, e1, lk, hcd⟩ := F.ex
  subst e1
  refine ⟨len, fun A outer s H args us vs Q E hg hr e0 hb rv hs => ?_⟩
  have kin : K.In s.heap := e0.mod.kin.keeps fun b o e => (e0.bs b o e).1
  have nol : s.heap.NoLimit := e0.mod.nolimit.keeps fun b o e => (e0.bs b o e).1
  have kinds : ∀ y ∈ ps.zip us, (defScope st).names.lookup y.1 = some .local ∨ ((defScope st).names.lookup y.1 = some .cell ∧ ((cellsFrom (s.heap.objs.size + 1) (defScope st).names []).lookup y.1).isSome = true) := by
    intro y hy
    refine (S.par y.1 (List.of_mem_zip (a := y.1) (b := y.2) hy).1).imp id fun c => ⟨c, PySem.W.cellsFrom_some _ _ _ (.inl c)⟩
  refine codeAny_call_function hr.depth (kin _ _ lk) rfl S.co S.gen rfl (PySem.W.codeRec_of kin hcd) (hb _ _ _ _ (wpAny_newFunctionEnv_cells S.kind kinds fun env he s1 x => ?_))
  subst he
  obtain ⟨t, ht, hq⟩ := body cdv A outer s H vs Q E hg (hr.deeper _) hs
  have I := inv_start (CX := CX) (E := E) S hr.hd e0 (len _ _ _ _ hs) rv x
  refine ⟨nol.keeps x.toInCall.keep, codeAny_func (wpAny_mono (ht.run [] s1 (start N vs) H _ I hq) (fun fl s' q => ?_) fun _ _ q => q)⟩
  match fl, q with
  | .ret u, ⟨v, σ', H', J, r, q⟩ => exact ⟨v, H', J.os, J.bare, J.base, J.hok, r, q⟩
  | .next, ⟨σ', H', J, q⟩ => exact ⟨.non, H', J.os, J.bare, J.base, J.hok, rfl, q⟩
  | .brk, ⟨_, _, _, q⟩ => exact q.elim
  | .cont, ⟨_, _, _, q⟩ => exact q.elim
end
end HSP
namespace HSP
open PySem PySem.Spec PyProof.Rows L2
theorem deeper_guards (A : Around) (env : Env) : (A.deeper env).guards = A.guards := rfl
/-! ### calls of such defs -/
structure DfG (P : Program) (w : World) (K : PySem.W.Frag) (mg : Str → Option Value) (base : Heap) (x : Str) (n : Nat) (ps : List Str) (sp : Sp) : Prop where
  ex : ∃ (f : Addr) (fd : FuncData), mg x = some (.ref f) ∧ PySem.W.keepIn K (.ref f) = true ∧ Binds K fd ps [] ∧ FnG P w K mg base CX0 n f fd ps sp
section
variable {P : Program} {w : World} {K : PySem.W.Frag} {mg : Str → Option Value} {base : Heap}
theorem DfG.mk' {x : Str} {st : Stmt} {N ps : List Str} {k : Nat} {sp : Sp} (a : At K mg x st) (S : FnScope N ps (defScope st)) (len : ∀ vs H Q E, sp vs H Q E → vs.length = ps.length)
    (hb : ∀ (kV doc pm : Value) (an : Option Addr) (cdv ct : Value) (us : List Value), us.length = ps.length → bindArgs (PySem.W.fnOf x x (defArgs st) (defBody st) (defScope st) .none kV doc pm an cdv ct) ⟨us, []⟩ = pure (ps.zip us))
    (body : ∀ (f : Addr) (cdv : Value) (A : Around) (outer : List Env) (s : Shared) (H : Hp) (vs : List V) (Q : VK) (E : XK), A.guards = some [] → Room k (A.deeper (envOfC x (defScope st) s.heap.objs.size f cdv)) → sp vs H Q E →
      ∃ t, PSs (cxOf CX0 P w K mg base N x (defScope st) f cdv A outer s H E).nox (defBody st) t ∧ t { nx := fun _ H' => Q .non H', rt := Q } (start N vs) H) : DfG P w K mg base x (k + 1) ps sp := by
  obtain ⟨f, fd, hm, F⟩ := a
  refine ⟨f, fd, hm, F.kp, F.binds hb, FnG.mk' F S len fun cdv A outer s H vs Q E hg hr hs => ?_⟩
  obtain ⟨t, h1, h2⟩ := body f cdv A outer s H vs Q E hg hr hs
  exact ⟨t, h1.nox, h2⟩
end
section
variable {X : Cx} {k n : Nat} {ps ks : List Str} {sp : Sp} {x : Str} {p pos : Pos} {e : Expr} {es : List Expr} {kws : List Keyword} {t tk : TA} {f : Addr} {fd : FuncData} {ds : List Value} {dvs : List V} {g : List Value → List Value → List Value} {gV : List V → List V → List V}
theorem pe_dfG (D : DfG X.prog X.w X.K X.mg X.base x k ps sp) (hgd : X.A.guards = some []) (hr : Room k X.A) (ha : PA X (e :: es) t) (hg : Gl X x := by rfl) (hdb : (x == ("__debug__" : Str)) = false := by decide)
    (he : starEach (e :: es) X.env = (false, eval e X.env) :: starEach es X.env := by rfl) (hpl : (backTo pos (starEach es X.env)).any (·.1) = false := by rfl) : PE X (.Call (.Name x p) (e :: es) [] pos) (tCall sp [] E0 t) := by
  obtain ⟨f, fd, hm, hk, hb, F⟩ := D.ex
  refine ⟨fun pins s σ H Q I h => wpAny_Call_Name_kw (ld_glob I hg hm ?_ hdb)⟩
  refine PySem.W.callWith_K (h₀ := X.base) I.ok.mod.kin hk (thn (ha.run pos pins s σ H _ I h) fun us s1 z => ?_) he hpl
  obtain ⟨vs, H1, I1, r, q⟩ := z
  refine ⟨I1.kIn, ?_⟩
  have q' : sp vs H1 Q E0 := by
    have z : sp (vs ++ []) H1 Q E0 := q
    rw [List.append_nil] at z
    exact z
  have l1 : (us ++ []).length = ps.length := by rw [List.append_nil, ← r.length]; exact F.len _ _ _ _ q'
  have hb' := hb s1 us I1.kIn l1
  rw [List.append_nil] at hb'
  refine wpAny_call (codeAny_mono (F.run X.A X.stack s1 H1 ⟨us, []⟩ us vs Q E0 hgd hr I1.env0 hb' r q') fun res s' hq => ?_)
  match res, hq with
  | .error _, hq => exact (show False from hq).elim
  | .ok (.ret u), hq => exact I1.after hq
/-- f(k = v, ..): keywords alone -/
theorem pe_callK0 {CX : CXT} {E : XK} (F : FnOk X.prog X.w X.K X.mg X.base CX k f fd ps sp) (hr : Room k X.A) (hg : Gl X x) (hm : X.mg x = some (.ref f)) (hk : PySem.W.keepIn X.K (.ref f) = true) (hb : KBn X.K fd ps 0 ks g gV) (hx : Passes CX X E) (hkw : PK X kws tk)
    (hall : (backToKw pos (keywordEach kws X.env)).all (·.1.isSome) = true := by rfl) (hks : (backToKw pos (keywordEach kws X.env)).filterMap (·.1) = ks := by rfl) (hdb : (x == ("__debug__" : Str)) = false := by decide)
    (hpl : (backToKw pos (keywordEach kws X.env)).any (·.1.isNone) = false := by rfl) : PE X (.Call (.Name x p) [] kws pos) (tCallN 0 ks.length sp gV E tNil tk) := by
  refine ⟨fun pins s σ H Q I h => wpAny_Call_Name_kw (ld_glob I hg hm ?_ hdb)⟩
  refine PySem.W.callWith_KW0 (h₀ := X.base) I.ok.mod.kin hk hall (thn (hkw.run pos pins s σ H _ I h) fun ws s1 z => ?_) hpl
  obtain ⟨zs, H1, I1, rz, l1, l2, q⟩ := z
  rw [hks]
  exact ⟨I1.kIn, run_fnN (us := []) F hr hb hx I1 .nil rz l1 l2 q⟩
/-! ### repr of data -/
def rReprD (K : PySem.W.Frag) : List V → Hp → VK → Prop := fun vs H Q => ∃ (a : Addr) (d : PyData), vs = [.ref a] ∧ Dp K H (.ref a) d ∧ d.showable = true ∧ d.hasDict = false ∧ d.depth ≤ 60 ∧ d.shown.length ≤ sizeLine ∧ Q (.str d.shown) H
theorem cr_reprD (hgd : X.A.guards = some []) (hu : X.A.units + 64 < cLine) : CallR X (.builtin "repr") (rReprD X.K) := by
  intro pins s σ H vs us Q I r h
  obtain ⟨a, d, rfl, hd, hs, hn, h60, hz, q⟩ := h
  rw [Vals.ref1 r]
  obtain ⟨as, rd⟩ := Dp.reads I d (.ref a) (.ref a) hd rfl
  exact repr_of_reads' rd hs (fun z => by rw [hn] at z; cases z) hgd (by omega) (fun _ _ e => e) (fun h' u tk kp => ⟨.str _, H, I.kept kp, ⟨u, rfl⟩, q⟩) hz
end
end HSP
namespace HSP
open PySem PySem.Spec PyProof.Rows L2
/-! ## defs that are also called by name, the names the other way round -/
structure DfB (P : Program) (w : World) (K : PySem.W.Frag) (mg : Str → Option Value) (base : Heap) (x : Str) (n : Nat) (ps ks : List Str) (sp : Sp) : Prop where
  ex : ∃ (f : Addr) (fd : FuncData), mg x = some (.ref f) ∧ PySem.W.keepIn K (.ref f) = true ∧ Binds K fd ps [] ∧ KBn K fd ps 0 ks (fun _ ws => ws.reverse) (fun _ zs => zs.reverse) ∧ FnOk P w K mg base CX0 n f fd ps sp
section
variable {P : Program} {w : World} {K : PySem.W.Frag} {mg : Str → Option Value} {base : Heap}
theorem DfB.df {x : Str} {n : Nat} {ps ks : List Str} {sp : Sp} (D : DfB P w K mg base x n ps ks sp) : Df P w K mg base x n ps sp := by
  obtain ⟨f, fd, h1, h2, h3, _, h5⟩ := D.ex
  exact ⟨f, fd, h1, h2, h3, h5⟩
theorem Vals.rev {vs : List V} {us : List Value} (r : Vals vs us) : Vals vs.reverse us.reverse := by
  induction r with
  | nil => exact .nil
  | cons h t ih =>
    rw [List.reverse_cons, List.reverse_cons]
    exact ih.append (.cons h .nil)
theorem DfB.mk' {x : Str} {st : Stmt} {N ps ks : List Str} {k : Nat} {sp : Sp} (a : At K mg x st) (S : FnScope N ps (defScope st)) (len : ∀ vs H Q E, sp vs H Q E → vs.length = ps.length)
    (hb : ∀ (kV doc pm : Value) (an : Option Addr) (cdv ct : Value) (us : List Value), us.length = ps.length → bindArgs (PySem.W.fnOf x x (defArgs st) (defBody st) (defScope st) .none kV doc pm an cdv ct) ⟨us, []⟩ = pure (ps.zip us))
    (hk : ∀ (kV doc pm : Value) (an : Option Addr) (cdv ct : Value) (ws : List Value), ws.length = ks.length → bindArgs (PySem.W.fnOf x x (defArgs st) (defBody st) (defScope st) .none kV doc pm an cdv ct) ⟨[], ks.zip ws⟩ = pure (ps.zip ws.reverse))
    (body : ∀ (f : Addr) (cdv : Value) (A : Around) (outer : List Env) (s : Shared) (H : Hp) (vs : List V) (Q : VK) (E : XK), Room k (A.deeper (envOfC x (defScope st) s.heap.objs.size f cdv)) → sp vs H Q E →
      ∃ t, PSs (cxOf CX0 P w K mg base N x (defScope st) f cdv A outer s H E).nox (defBody st) t ∧ t { nx := fun _ H' => Q .non H', rt := Q } (start N vs) H) : DfB P w K mg base x (k + 1) ps ks sp := by
  obtain ⟨f, fd, hm, F⟩ := a
  refine ⟨f, fd, hm, F.kp, F.binds hb, ⟨fun s us ws _ h1 h2 => ?_, fun _ r => HSP.Vals.rev r⟩, F.ok S len (body f)⟩
  obtain ⟨oc, od, kV, doc, pm, an, cdv, ct, osl, rfl, _⟩ := F.ex
  rw [List.length_eq_zero_iff.mp h1]
  exact .of_eq (hk kV doc pm an cdv ct ws h2)
end
section
variable {X : Cx} {k : Nat} {ps ks : List Str} {sp : Sp} {x : Str} {p pos : Pos} {kws : List Keyword} {tk : TA}
theorem pe_dfK (D : DfB X.prog X.w X.K X.mg X.base x k ps ks sp) (hr : Room k X.A) (hkw : PK X kws tk) (hg : Gl X x := by rfl) (hall : (backToKw pos (keywordEach kws X.env)).all (·.1.isSome) = true := by rfl) (hks : (backToKw pos (keywordEach kws X.env)).filterMap (·.1) = ks := by rfl)
    (hdb : (x == ("__debug__" : Str)) = false := by decide) (hpl : (backToKw pos (keywordEach kws X.env)).any (·.1.isNone) = false := by rfl) : PE X (.Call (.Name x p) [] kws pos) (tCallN 0 ks.length sp (fun _ zs => zs.reverse) E0 tNil tk) := by
  obtain ⟨f, fd, hm, hk, _, kb, F⟩ := D.ex
  exact pe_callK0 F hr hg hm hk kb pass0 hkw hall hks hdb hpl
end
end HSP
namespace HSP
open PySem PySem.Spec PyProof.Rows L2
/-! ### slices -/
theorem cut_from (xs : List V) (k : Nat) : cutV xs (some (k : Int)) none = xs.drop k := by
  unfold cutV
  rw [HT.sIx_nat, HT.sIx_none]
  by_cases h : k ≤ xs.length
  · rw [Nat.min_eq_left h]
    exact List.take_of_length_le (by rw [List.length_drop]; exact Nat.le_refl _)
  · rw [Nat.min_eq_right (by omega), Nat.sub_self, List.take_zero, List.drop_eq_nil_of_le (by omega)]
theorem cut_to (xs : List V) (k : Nat) : cutV xs none (some (k : Int)) = xs.take k := by
  unfold cutV
  rw [HT.sIx_nat, HT.sIx_none, List.drop_zero, Nat.sub_zero]
  by_cases h : k ≤ xs.length
  · rw [Nat.min_eq_left h]
  · rw [Nat.min_eq_right (by omega), List.take_of_length_le (by omega), List.take_of_length_le (by omega)]
theorem cut_init (xs : List V) (x : V) : cutV (xs ++ [x]) none (some (-1)) = xs := by
  unfold cutV
  have e1 : HT.sIx (xs ++ [x]).length (xs ++ [x]).length (some (-1)) = xs.length := by
    show (if (-1 : Int) < 0 then ((-1 : Int) + ((xs ++ [x]).length : Int)).toNat else min (-1 : Int).toNat (xs ++ [x]).length) = _
    rw [if_pos (by decide), List.length_append, List.length_singleton]
    omega
  have e2 : HT.sIx (xs ++ [x]).length 0 none = 0 := rfl
  rw [e1, e2, List.drop_zero, Nat.sub_zero]
  exact List.take_left
/-- len(..) within a comprehension -/
def rLenK (K : PySem.W.Frag) : List V → Hp → VK → Prop := fun xs H Q => ∃ p ys, xs = [V.ref p] ∧ (SqL K H p ys ∨ SqT K H p ys) ∧ Q (.int ((ys.length : Nat) : Int)) H
end HSP
namespace HSP
open PySem PySem.Spec PyProof.Rows L2
theorem cut_last (xs : List V) (y : V) : cutV (xs ++ [y]) none (some (-1)) = xs := by
  unfold cutV
  have e : HT.sIx (xs ++ [y]).length (xs ++ [y]).length (some (-1)) = xs.length := by
    show (if (-1 : Int) < 0 then ((-1 : Int) + ((xs ++ [y]).length : Int)).toNat else min (-1 : Int).toNat (xs ++ [y]).length) = xs.length
    rw [if_pos (by decide), List.length_append, List.length_singleton]
    omega
  rw [e, HT.sIx_none, List.drop_zero, Nat.sub_zero, List.take_left]
theorem inV_nat (i : Nat) : ∀ xs : List Nat, inV (natV i) (xs.map natV) = decide (i ∈ xs)
  | [] => rfl
  | x :: r => by
    have ih := inV_nat i r
    have e : inV (natV i) ((x :: r).map natV) = (eqV (natV x) (natV i) || inV (natV i) (r.map natV)) := rfl
    rw [e, ih]
    have e2 : eqV (natV x) (natV i) = decide ((x : Int) = (i : Int)) := rfl
    rw [e2]
    by_cases c : i = x
    · rw [decide_eq_true (show (x : Int) = (i : Int) by omega), Bool.true_or, decide_eq_true (List.mem_cons.mpr (.inl c))]
    · rw [decide_eq_false (show ¬ (x : Int) = (i : Int) by omega), Bool.false_or]
      by_cases d : i ∈ r
      · rw [decide_eq_true d, decide_eq_true (List.mem_cons_of_mem _ d)]
      · rw [decide_eq_false d, decide_eq_false (fun z => (List.mem_cons.mp z).elim c d)]
theorem inV_int (i : Int) : ∀ xs : List Int, inV (.int i) (xs.map V.int) = decide (i ∈ xs)
  | [] => rfl
  | x :: r => by
    have ih := inV_int i r
    have e : inV (.int i) ((x :: r).map V.int) = (eqV (.int x) (.int i) || inV (.int i) (r.map V.int)) := rfl
    rw [e, ih]
    have e2 : eqV (.int x) (.int i) = decide (x = i) := rfl
    rw [e2]
    by_cases c : i = x
    · rw [decide_eq_true c.symm, Bool.true_or, decide_eq_true (List.mem_cons.mpr (.inl c))]
    · rw [decide_eq_false (show ¬ x = i by omega), Bool.false_or]
      by_cases d : i ∈ r
      · rw [decide_eq_true d, decide_eq_true (List.mem_cons_of_mem _ d)]
      · rw [decide_eq_false d, decide_eq_false (fun z => (List.mem_cons.mp z).elim c d)]
theorem flat_nats : ∀ xs : List Nat, (xs.map natV).all flatV = true
  | [] => rfl
  | x :: r => by
    rw [List.map_cons, List.all_cons, flat_nats r]
    rfl
theorem flat_ints : ∀ xs : List Int, (xs.map V.int).all flatV = true
  | [] => rfl
  | x :: r => by
    rw [List.map_cons, List.all_cons, flat_ints r]
    rfl
/-! ### lists of ints as data -/
def intsD (l : List Int) : PyData := .list (l.map PyData.int)
theorem ints_can : ∀ l : List Int, PyData.canLayAll0 (l.map PyData.int) = true
  | [] => by simp [PyData.canLayAll0]
  | z :: r => by
    have ih := ints_can r
    simp only [List.map_cons, PyData.canLayAll0, PyData.canLay0, ih, Bool.and_self]
theorem ints_deep : ∀ l : List Int, PyData.depthAll (l.map PyData.int) ≤ 1
  | [] => by simp [PyData.depthAll]
  | z :: r => by
    have ih := ints_deep r
    simp only [List.map_cons, PyData.depthAll, PyData.depth]
    omega
theorem ints_shaped (l : List Int) : SeqAt.shaped (intsD l) = true := by
  unfold SeqAt.shaped intsD
  have h1 := ints_can l
  have h2 := ints_deep l
  rw [Bool.and_eq_true]
  refine ⟨by simp only [PyData.canLay0]; exact h1, decide_eq_true ?_⟩
  simp only [PyData.depth]
  omega
theorem ints_dpAll {K : PySem.W.Frag} {H : Hp} : ∀ l : List Int, DpAll K H (l.map V.int) (l.map PyData.int)
  | [] => .nil
  | z :: r => .cons (.int z) (ints_dpAll r)
theorem ints_none (l : List Int) : PyData.eqv (intsD l) (intsD []) = decide (l = []) := by
  cases l with
  | nil => rw [decide_eq_true rfl]; exact SeqAt.eqv_refl _ (by unfold intsD; simp only [PyData.canLay0]; exact ints_can [])
  | cons x r =>
    rw [decide_eq_false (List.cons_ne_nil _ _)]
    unfold intsD
    simp [PyData.eqv, PyData.eqvAll]
end HSP
namespace HSP
open PySem PySem.Spec PyProof.Rows L2
/-! ## the required order of wished nodes -/
def edgesW (t : Tr) (ws : List Nat) : List (Nat × Nat) := ws.flatMap fun w => (pOf t 0 w).map fun z => if z.2 = true then (z.1, w) else (w, z.1)
def EdW (t : Tr) (ws : List Nat) (a b : Nat) : Prop := (a, b) ∈ edgesW t ws
def ancW (t : Tr) (ws : List Nat) : List Nat := ws.flatMap fun w => (pOf t 0 w).map (·.1)
/-- the wished nodes and their ancestors, rising -/
def NodesW (t : Tr) (ws : List Nat) (N : List Nat) : Prop := N.Pairwise (· < ·) ∧ ∀ x, x ∈ N ↔ x ∈ ws ++ ancW t ws
theorem anc_in {t : Tr} {ws : List Nat} {x : Nat} (h : x ∈ ancW t ws) : x < t.size := by
  obtain ⟨w, _, h2⟩ := List.mem_flatMap.mp h
  obtain ⟨z, hz, rfl⟩ := List.mem_map.mp h2
  have h3 : z.1 < 0 + t.size := (pOf_in t 0 w _ hz).2
  omega
theorem edge_in {t : Tr} {ws : List Nat} {a b : Nat} (h : EdW t ws a b) : (a ∈ ws ++ ancW t ws) ∧ b ∈ ws ++ ancW t ws := by
  obtain ⟨w, hw, h2⟩ := List.mem_flatMap.mp (show (a, b) ∈ edgesW t ws from h)
  obtain ⟨z, hz, e⟩ := List.mem_map.mp h2
  have ha : z.1 ∈ ancW t ws := List.mem_flatMap.mpr ⟨w, hw, List.mem_map.mpr ⟨z, hz, rfl⟩⟩
  split at e
  · cases e
    exact ⟨List.mem_append_right _ ha, List.mem_append_left _ hw⟩
  · cases e
    exact ⟨List.mem_append_left _ hw, List.mem_append_right _ ha⟩
theorem sideW : ∀ (t : Tr) (f i : Nat), f ≤ i → i < f + t.size → ∀ z, z ∈ pOf t f i → z.2 = decide (z.1 < i) ∧ z.1 ≠ i
  | .nil, _, _, _, _, z, hz => by cases hz
  | .nod l r, f, i, h1, h2, z, hz => by
    have hs : (Tr.nod l r).size = l.size + 1 + r.size := rfl
    unfold pOf at hz
    by_cases c : i = f + l.size
    · rw [if_pos c] at hz
      cases hz
    · rw [if_neg c] at hz
      by_cases d : i < f + l.size
      · rw [if_pos d] at hz
        rcases List.mem_cons.mp hz with e | e
        · rw [e]
          exact ⟨(decide_eq_false (show ¬ f + l.size < i by omega)).symm, by show f + l.size ≠ i; omega⟩
        · exact sideW l f i h1 d z e
      · rw [if_neg d] at hz
        rcases List.mem_cons.mp hz with e | e
        · rw [e]
          exact ⟨(decide_eq_true (show f + l.size < i by omega)).symm, by show f + l.size ≠ i; omega⟩
        · exact sideW r (f + l.size + 1) i (by omega) (by omega) z e
theorem edge_up {t : Tr} {ws : List Nat} (hw : ∀ w, w ∈ ws → w < t.size) : Up (EdW t ws) := fun a b h => by
  obtain ⟨w, hw', h2⟩ := List.mem_flatMap.mp (show (a, b) ∈ edgesW t ws from h)
  obtain ⟨z, hz, e⟩ := List.mem_map.mp h2
  have hs := sideW t 0 w (Nat.zero_le _) (by have := hw w hw'; omega) z hz
  split at e
  · rename_i c
    cases e
    rw [c] at hs
    exact of_decide_eq_true hs.1.symm
  · rename_i c
    cases e
    have h4 : ¬ z.1 < a := fun y => c (by rw [hs.1]; exact decide_eq_true y)
    have h5 := hs.2
    omega
def grE (es : List (Nat × Nat)) (x : Nat) : List Nat := (es.filter fun e => e.1 == x).map (·.2)
theorem grE_more (es : List (Nat × Nat)) (a b x : Nat) : grE (es ++ [(a, b)]) x = if x = a then grE es x ++ [b] else grE es x := by
  unfold grE
  rw [List.filter_append, List.map_append, List.filter_cons]
  by_cases c : x = a
  · rw [if_pos c, if_pos (by rw [beq_iff_eq]; exact c.symm)]
    rfl
  · rw [if_neg c, if_neg (by rw [beq_iff_eq]; exact fun z => c z.symm)]
    show _ ++ [] = _
    rw [List.append_nil]
theorem grE_mem {es : List (Nat × Nat)} {x y : Nat} : y ∈ grE es x ↔ (x, y) ∈ es := by
  unfold grE
  rw [List.mem_map]
  constructor
  · rintro ⟨⟨a, b⟩, h, rfl⟩
    obtain ⟨h1, h2⟩ := List.mem_filter.mp h
    have := eq_of_beq h2
    dsimp only at this
    rw [← this]
    exact h1
  · intro h
    exact ⟨(x, y), List.mem_filter.mpr ⟨h, beq_self_eq_true _⟩, rfl⟩
theorem grE_len (es : List (Nat × Nat)) (x : Nat) : (grE es x).length ≤ es.length := by
  unfold grE
  rw [List.length_map]
  exact List.length_filter_le _ _
/-- a dict by whole numbers: each key with the place of what it leads to -/
def kvN (prs : List (Nat × Addr)) : List (Key × V) := prs.map fun p => (Sum.inl (p.1 : Int), V.ref p.2)
def GrAt (H : Hp) (G : Addr) (N : List Nat) (gr : Nat → List Nat) : Prop := ∃ prs : List (Nat × Addr), H G = some (.dK (kvN prs)) ∧ prs.map (·.1) = N ∧ (prs.map (·.2)).Nodup ∧ ∀ p, p ∈ prs → H p.2 = some (.lst ((gr p.1).map natV))
theorem kvN_get : ∀ {prs : List (Nat × Addr)} {x : Nat}, x ∈ prs.map (·.1) → ∃ a, (x, a) ∈ prs ∧ valV (kvN prs) (Sum.inl (x : Int)) = some (.ref a)
  | [], _, h => nomatch h
  | (y, b) :: r, x, h => by
    by_cases c : y = x
    · subst c
      refine ⟨b, List.mem_cons_self, ?_⟩
      have e : (kvN ((y, b) :: r)).find? (fun kv => decide (kv.1 = Sum.inl (y : Int))) = some (Sum.inl (y : Int), V.ref b) := List.find?_cons_of_pos (decide_eq_true rfl)
      unfold valV
      rw [e]
      rfl
    · have h2 : x ∈ r.map (·.1) := by
        rcases List.mem_cons.mp h with z | z
        · exact absurd z.symm c
        · exact z
      obtain ⟨a, h3, h4⟩ := kvN_get h2
      refine ⟨a, List.mem_cons_of_mem _ h3, ?_⟩
      have e : (kvN ((y, b) :: r)).find? (fun kv => decide (kv.1 = Sum.inl (x : Int))) = (kvN r).find? (fun kv => decide (kv.1 = Sum.inl (x : Int))) := List.find?_cons_of_neg (by
        intro z
        have z : (Sum.inl (y : Int) : Key) = Sum.inl (x : Int) := of_decide_eq_true z
        exact c (by have := Sum.inl.inj z; omega))
      unfold valV at h4 ⊢
      rw [e]
      exact h4
section
variable {P : Program} {w : World} {K : PySem.W.Frag} {mg : Str → Option Value} {base : Heap}
/-! ### check_wished -/
theorem sc_check_wished : FnScope n_check_wished ["tree", "wished"] (defScope s_check_wished) := ⟨rfl, rfl, rfl, by decide +kernel, rfl, by decide +kernel, by decide +kernel⟩
def spChkWd : Sp := fun vs H Q _ => ∃ (v : V) (t : Tr) (W : Addr) (ws : List Nat), vs = [v, .ref W] ∧ TrAt H v t ∧ t.size ≤ 300 ∧ H W = some (.lst (ws.map natV)) ∧ ws.Nodup ∧ (∀ x, x ∈ ws → x < t.size) ∧ ∀ H', Same H H' → Q .non H'
theorem ok_chkWd (B : Bl mg) (Co : Df P w K mg base "count_nodes" 1 ["tree"] spCount) (In : Df P w K mg base "is_node" 2 ["thing", "many"] spIsN) (a : At K mg "check_wished" s_check_wished) : Df P w K mg base "check_wished" 3 ["tree", "wished"] spChkWd := by
  refine Df.mk' a sc_check_wished (fun vs H Q E h => ?_) (fun _ _ _ _ _ _ us hl => match us, hl with | [_, _], _ => rfl) (fun f cdv A outer s H vs Q E hr h => ?_)
  · obtain ⟨_, _, _, _, rfl, _⟩ := h
    rfl
  obtain ⟨v, t, W, ws, rfl, ht, hz, eW, nd, lt, q⟩ := h
  refine ⟨_, (pss_cons (ps_if (pt_not (pt_val (pe_callB call_isi (by rfl) B.isinstance (by decide +kernel) (pa_cons (pv 1) (pa_cons (pe_bltn (v := .ty "list") (by rfl) B.list (by decide +kernel) rfl) pa_nil))))) (pss_one ps_never) pss_nil)
 (pss_cons (ps_set (i := 2) sc_check_wished.nd rfl (.inl rfl) (pe_df Co (hr.mono (by decide)) (pa_cons (pv 0) pa_nil)))
 (pss_one (ps_for PassesOwn.never rfl (pi_enum (by rfl) B.enumerate (pa_cons (pv 1) pa_nil)) (pg_tup rfl (pgs_cons (pg_name (i := 3) sc_check_wished.nd rfl (.inl rfl)) (pgs_cons (pg_name (i := 4) sc_check_wished.nd rfl (.inl rfl)) pgs_nil))) (pss_one (ps_if (PW.pt (pw_or (pt_not (pt_val (pe_df In hr (pa_cons (pv 4) (pa_cons (pv 2) pa_nil))))) (pw_or1 (pt_cmpR op_in_seq (pv 4) (pe_slice sl_list (pv 1) po_none (po_some (pv 3))) (by rfl))))) (pss_one ps_never) pss_nil)))))), ?_⟩
  refine ⟨_, rfl, _, _, _, _, true, rfl, .ty "list", .base (.lst eW), rfl, true, rfl, iteF ?_⟩
  refine ⟨v, rfl, v, t, rfl, ht, by omega, fun H1 s1 => ?_⟩
  have e1 := s1 _ _ eW
  refine ⟨_, rfl, W, _, rfl, .of e1, for_it (walk_enum (K := K) (a := W) (xs := ws.map natV)) (fun i σ H' => (∃ y3 y4 : Option V, σ = [some v, some (.ref W), some (natV t.size), y3, y4]) ∧ Same H1 H') ⟨⟨none, none, rfl⟩, .refl _⟩ (fun i σ H' _ h' => .of (h'.2 _ _ e1)) (fun i x σ H2 H3 hi h2 hy => ?_) (fun σ H2 h2 => ?_)⟩
  · obtain ⟨⟨y3, y4, rfl⟩, s2⟩ := h2
    obtain ⟨T, x1, x2, rfl, nT, rfl, g1, g2⟩ := hy
    rw [List.length_map] at hi
    have hw : ws[i]? = some ws[i] := List.getElem?_eq_getElem hi
    have g2 : (ws.map natV)[i]? = some x2 := g2
    rw [List.getElem?_map, hw] at g2
    cases g2
    cases (show some (V.int ((i : Nat) : Int)) = some x1 from g1)
    have hm := List.getElem_mem hi
    have nin : ws[i] ∉ ws.take i := fun h => by
      obtain ⟨j, hj, e⟩ := List.mem_iff_getElem.mp h
      rw [List.length_take] at hj
      rw [List.getElem_take] at e
      exact List.pairwise_iff_getElem.mp nd j i (by omega) hi (by omega) e
    generalize ws[i] = x at hw hm nin
    have sT := Same.new (o := .tup [V.int ((i : Nat) : Int), natV x]) nT
    have e3 := sT _ _ (s2 _ _ e1)
    refine ⟨T, _, rfl, .of upd_same, rfl, _, _, rfl, _, [], rfl, rfl, ?_⟩
    refine ⟨_, rfl, _, rfl, x, t.size, rfl, lt x hm, true, rfl, iteF ?_⟩
    refine ⟨_, rfl, _, rfl, _, rfl, _, rfl, W, _, rfl, .of e3, fun S nS => ?_⟩
    have eS : cutV (ws.map natV) none (some ((i : Nat) : Int)) = (ws.take i).map natV := by rw [cut_to, List.map_take]
    rw [eS]
    refine ⟨S, _, rfl, .inl (.of upd_same), rfl, flat_nats _, _, rfl, ?_⟩
    rw [show (if false = true then !inV (natV x) ((ws.take i).map natV) else inV (natV x) ((ws.take i).map natV)) = decide (x ∈ ws.take i) from inV_nat x _, decide_eq_false nin]
    exact iteF ⟨⟨_, _, rfl⟩, s2.trans (sT.trans (Same.new nS))⟩
  · exact q _ (s1.trans h2.2)
end
end HSP
namespace HSP
open PySem PySem.Spec PyProof.Rows L2
/-! ### intervals and labels -/
/-- the bounds that a path gives -/
def lowOf (g : Nat → Int) : List (Nat × Bool) → Option Int
  | [] => none
  | (n, true) :: r => match lowOf g r with
    | none => some (g n)
    | some m => some (max (g n) m)
  | (_, false) :: r => lowOf g r
def highOf (g : Nat → Int) : List (Nat × Bool) → Option Int
  | [] => none
  | (n, false) :: r => match highOf g r with
    | none => some (g n)
    | some m => some (min (g n) m)
  | (_, true) :: r => highOf g r
/-- the values above on one side -/
def above (g : Nat → Int) (b : Bool) (p : List (Nat × Bool)) : List Int := (p.filter fun z => z.2 == b).map fun z => g z.1
def optV : Option Int → V
  | none => .non
  | some i => .int i
theorem low_spec (g : Nat → Int) : ∀ p : List (Nat × Bool), (above g true p = [] → lowOf g p = none) ∧ ∀ m, m ∈ above g true p → (∀ y, y ∈ above g true p → y ≤ m) → lowOf g p = some m
  | [] => ⟨fun _ => rfl, fun m hm => by cases hm⟩
  | (n, false) :: r => low_spec g r
  | (n, true) :: r => by
    obtain ⟨h1, h2⟩ := low_spec g r
    have e : above g true ((n, true) :: r) = g n :: above g true r := rfl
    have el : lowOf g ((n, true) :: r) = match lowOf g r with | none => some (g n) | some m => some (max (g n) m) := rfl
    rw [e]
    refine ⟨fun z => absurd z (List.cons_ne_nil _ _), fun m hm hle => ?_⟩
    by_cases c : above g true r = []
    · rw [el, h1 c]
      rw [c] at hm
      exact congrArg some (List.mem_singleton.mp hm).symm
    · obtain ⟨x, hx, hxm⟩ : ∃ x, x ∈ above g true r ∧ ∀ y, y ∈ above g true r → y ≤ x := by
        cases q : above g true r with
        | nil => exact absurd q c
        | cons y ys => exact ⟨_, (maxOf_spec ys y).1, (maxOf_spec ys y).2⟩
      rw [el, h2 x hx hxm]
      have a1 := hle (g n) List.mem_cons_self
      have a2 := hle x (List.mem_cons_of_mem _ hx)
      rcases List.mem_cons.mp hm with z | z
      · exact congrArg some (by omega)
      · have a3 := hxm m z
        exact congrArg some (by omega)
theorem high_spec (g : Nat → Int) : ∀ p : List (Nat × Bool), (above g false p = [] → highOf g p = none) ∧ ∀ m, m ∈ above g false p → (∀ y, y ∈ above g false p → m ≤ y) → highOf g p = some m
  | [] => ⟨fun _ => rfl, fun m hm => by cases hm⟩
  | (n, true) :: r => high_spec g r
  | (n, false) :: r => by
    obtain ⟨h1, h2⟩ := high_spec g r
    have e : above g false ((n, false) :: r) = g n :: above g false r := rfl
    have el : highOf g ((n, false) :: r) = match highOf g r with | none => some (g n) | some m => some (min (g n) m) := rfl
    rw [e]
    refine ⟨fun z => absurd z (List.cons_ne_nil _ _), fun m hm hle => ?_⟩
    by_cases c : above g false r = []
    · rw [el, h1 c]
      rw [c] at hm
      exact congrArg some (List.mem_singleton.mp hm).symm
    · obtain ⟨x, hx, hxm⟩ : ∃ x, x ∈ above g false r ∧ ∀ y, y ∈ above g false r → x ≤ y := by
        cases q : above g false r with
        | nil => exact absurd q c
        | cons y ys => exact ⟨_, (minOf_spec ys y).1, (minOf_spec ys y).2⟩
      rw [el, h2 x hx hxm]
      have a1 := hle (g n) List.mem_cons_self
      have a2 := hle x (List.mem_cons_of_mem _ hx)
      rcases List.mem_cons.mp hm with z | z
      · exact congrArg some (by omega)
      · have a3 := hxm m z
        exact congrArg some (by omega)
/-- the interval, none if it is empty -/
def bndOf (g : Nat → Int) (p : List (Nat × Bool)) : Option (Option Int × Option Int) :=
  match lowOf g p, highOf g p with
  | some a, some b => if a ≥ b then none else some (some a, some b)
  | a, b => some (a, b)
def BndAt (H : Hp) (v : V) (b : Option (Option Int × Option Int)) : Prop := match b with
  | none => v = .non
  | some (x, y) => ∃ e, v = .ref e ∧ H e = some (.tup [optV x, optV y])
inductive Lb where
  | dead | found | low | high
  deriving DecidableEq
def Lb.str : Lb → Str
  | .dead => "dead"
  | .found => "found"
  | .low => "low"
  | .high => "high"
def lbOf (b : Option (Option Int × Option Int)) (x : Int) : Lb := match b with
  | none => .dead
  | some (lo, hi) => match lo with
    | some l => if x ≤ l then .low else match hi with
      | some h => if x ≥ h then .high else .found
      | none => .found
    | none => match hi with
      | some h => if x ≥ h then .high else .found
      | none => .found
section
variable {P : Program} {w : World} {K : PySem.W.Frag} {mg : Str → Option Value} {base : Heap}
theorem sc_label : FnScope n_label_of ["bounds", "value"] (defScope s_label_of) := ⟨rfl, rfl, rfl, by decide +kernel, rfl, by decide +kernel, by decide +kernel⟩
def spLabel : Sp := fun vs H Q _ => ∃ (v : V) (b : Option (Option Int × Option Int)) (x : Int), vs = [v, .int x] ∧ BndAt H v b ∧ Q (.str (lbOf b x).str) H
theorem ok_label (a : At K mg "label_of" s_label_of) : Df P w K mg base "label_of" 1 ["bounds", "value"] spLabel := by
  refine Df.mk' a sc_label (fun vs H Q E h => ?_) (fun _ _ _ _ _ _ us hl => match us, hl with | [_, _], _ => rfl) (fun f cdv A outer s H vs Q E hr h => ?_)
  · obtain ⟨v, b, x, rfl, _⟩ := h
    rfl
  obtain ⟨v, b, x, rfl, hb, q⟩ := h
  refine ⟨_, (pss_cons (ps_if (pt_cmpR op_isN (pv 0) pe_non (nomark _)) (pss_one (ps_ret pe_str)) pss_nil)
 (pss_cons (ps_asg (pv 0) (pg_tup rfl (pgs_cons (pg_name (i := 2) sc_label.nd rfl (.inl rfl)) (pgs_cons (pg_name (i := 3) sc_label.nd rfl (.inl rfl)) pgs_nil))))
 (pss_cons (ps_if (PW.pt (pw_and (pt_cmpR op_notN (pv 2) pe_non (nomark _)) (pw_and1 (pt_cmpR op_le (pv 1) (pv 2) (nomark _))))) (pss_one (ps_ret pe_str)) pss_nil)
 (pss_cons (ps_if (PW.pt (pw_and (pt_cmpR op_notN (pv 3) pe_non (nomark _)) (pw_and1 (pt_cmpR op_ge (pv 1) (pv 3) (nomark _))))) (pss_one (ps_ret pe_str)) pss_nil)
 (pss_one (ps_ret pe_str)))))), ?_⟩
  refine ⟨v, rfl, rfl, _, rfl, ?_⟩
  match b, hb, q with
  | none, hb, q =>
    have e : v = .non := hb
    rw [e]
    exact iteT q
  | some (lo, hi), ⟨e, e1, e2⟩, q =>
    subst e1
    refine iteF ?_
    refine ⟨_, rfl, e, _, rfl, .of e2, rfl, _, _, rfl, _, [], rfl, rfl, ?_⟩
    refine ⟨_, rfl, rfl, _, rfl, ?_⟩
    cases lo with
    | none =>
      refine iteF (iteF ?_)
      refine ⟨_, rfl, rfl, _, rfl, ?_⟩
      cases hi with
      | none => exact iteF (iteF q)
      | some h =>
        have e0 : lbOf (some (none, some h)) x = if x ≥ h then .high else .found := rfl
        rw [e0] at q
        refine iteT ⟨_, rfl, _, rfl, _, _, rfl, rfl, _, rfl, ite2 (fun c => ?_) (fun c => ?_)⟩
        · rw [if_pos (of_decide_eq_true c)] at q
          exact q
        · rw [if_neg (fun z => c (decide_eq_true z))] at q
          exact q
    | some l =>
      have e0 : lbOf (some (some l, hi)) x = if x ≤ l then .low else lbOf (some (none, hi)) x := rfl
      rw [e0] at q
      refine iteT ⟨_, rfl, _, rfl, _, _, rfl, rfl, _, rfl, ite2 (fun c => ?_) (fun c => ?_)⟩
      · rw [if_pos (of_decide_eq_true c)] at q
        exact q
      · rw [if_neg (fun z => c (decide_eq_true z))] at q
        refine ⟨_, rfl, rfl, _, rfl, ?_⟩
        cases hi with
        | none => exact iteF (iteF q)
        | some h =>
          have e1 : lbOf (some (none, some h)) x = if x ≥ h then .high else .found := rfl
          rw [e1] at q
          refine iteT ⟨_, rfl, _, rfl, _, _, rfl, rfl, _, rfl, ite2 (fun c => ?_) (fun c => ?_)⟩
          · rw [if_pos (of_decide_eq_true c)] at q
            exact q
          · rw [if_neg (fun z => c (decide_eq_true z))] at q
            exact q
/-! ### bounds_below -/
theorem above_snoc (g : Nat → Int) (b : Bool) {p : List (Nat × Bool)} {i : Nat} {z : Nat × Bool} (h : p[i]? = some z) : above g b (p.take (i + 1)) = above g b (p.take i) ++ if z.2 == b then [g z.1] else [] := by
  unfold above
  rw [List.take_add_one, h]
  show List.map _ (List.filter _ (p.take i ++ [z])) = _
  rw [List.filter_append, List.map_append]
  congr 1
  unfold List.filter
  cases z.2 == b <;> rfl
theorem above_len (g : Nat → Int) (b : Bool) (p : List (Nat × Bool)) : (above g b p).length ≤ p.length := by
  unfold above
  rw [List.length_map]
  exact List.length_filter_le _ _
theorem sc_bounds : FnScope n_bounds_below ["values", "above"] (defScope s_bounds_below) := ⟨rfl, rfl, rfl, by decide +kernel, rfl, by decide +kernel, by decide +kernel⟩
def spBounds : Sp := fun vs H Q _ => ∃ (a r : Addr) (ns : List Int) (p : List (Nat × Bool)), vs = [.ref a, .ref r] ∧ H a = some (.lst (ns.map V.int)) ∧ PathAt H r p ∧ p.length ≤ 900 ∧ (∀ z, z ∈ p → z.1 < ns.length) ∧ ∀ (H' : Hp) (v : V), Same H H' → BndAt H' v (bndOf (valAt ns) p) → Q v H'
theorem ok_bounds (B : Bl mg) (a : At K mg "bounds_below" s_bounds_below) : Df P w K mg base "bounds_below" 1 ["values", "above"] spBounds := by
  refine Df.mk' a sc_bounds (fun vs H Q E h => ?_) (fun _ _ _ _ _ _ us hl => match us, hl with | [_, _], _ => rfl) (fun f cdv A outer s H vs Q E hr h => ?_)
  · obtain ⟨a, r, ns, p, rfl, _⟩ := h
    rfl
  obtain ⟨a, r, ns, p, rfl, ha, ⟨tups, er, pt⟩, hl, hn, q⟩ := h
  refine ⟨_, (C8.pss_cut (ps_set (i := 2) sc_bounds.nd rfl (.inl rfl) (pe_callBK (crk_maxN rfl hr.units) (by rfl) B.max (by decide +kernel) (pa_cons (pe_lc (own := [("node", 4), ("side", 5)]) (g := (gTup K 2 (gCons (gName 4) (gCons (gName 5) gNil)))) (by rfl) sc_bounds.nd (pi_list (pv 1)) (blkOk_by (N := n_bounds_below) (sc := defScope s_bounds_below) (by decide +kernel)) (fun _ _ _ _ _ => (pg_tup rfl (pgs_cons (pg_name (i := 4) sc_bounds.nd rfl (.inl rfl)) (pgs_cons (pg_name (i := 5) sc_bounds.nd rfl (.inl rfl)) pgs_nil)))) (fun _ _ _ _ _ => (pts_one (pt_cmpR op_eq (pv 5) pe_str (nomark _)))) (fun _ _ _ _ _ => (pe_ix (show IxR _ (rIxL K) from ix_list) (pv 0) (pv 4) (fun _ _ => rfl)))) pa_nil) (pk_cons pe_non pk_nil)))
 (C8.pss_cut (ps_set (i := 3) sc_bounds.nd rfl (.inl rfl) (pe_callBK (crk_minN rfl hr.units) (by rfl) B.min (by decide +kernel) (pa_cons (pe_lc (own := [("node", 4), ("side", 5)]) (g := (gTup K 2 (gCons (gName 4) (gCons (gName 5) gNil)))) (by rfl) sc_bounds.nd (pi_list (pv 1)) (blkOk_by (N := n_bounds_below) (sc := defScope s_bounds_below) (by decide +kernel)) (fun _ _ _ _ _ => (pg_tup rfl (pgs_cons (pg_name (i := 4) sc_bounds.nd rfl (.inl rfl)) (pgs_cons (pg_name (i := 5) sc_bounds.nd rfl (.inl rfl)) pgs_nil)))) (fun _ _ _ _ _ => (pts_one (pt_cmpR op_eq (pv 5) pe_str (nomark _)))) (fun _ _ _ _ _ => (pe_ix (show IxR _ (rIxL K) from ix_list) (pv 0) (pv 4) (fun _ _ => rfl)))) pa_nil) (pk_cons pe_non pk_nil)))
 (pss_cons (ps_if (PW.pt (pw_and (pt_cmpR op_notN (pv 2) pe_non (nomark _)) (pw_and (pt_cmpR op_notN (pv 3) pe_non (nomark _)) (pw_and1 (pt_cmpR op_ge (pv 2) (pv 3) (nomark _)))))) (pss_one (ps_ret pe_non)) pss_nil)
 (pss_one (ps_ret (pe_tup (pa_cons (pv 2) (pa_cons (pv 3) pa_nil)))))))), ?_⟩
  have lt := Paired.length pt
  refine ⟨fun σ' H' => σ' = [some (.ref a), some (.ref r), some (optV (lowOf (valAt ns) p)), none, none, none] ∧ Same H H', ?_, ?_⟩
  · have s0 := Same.refl H
    refine ⟨_, rfl, r, rfl, ⟨_, .of (s0 _ _ er)⟩, fun D hD => ?_⟩
    refine lc_list (xs := tups.map V.ref) (fun i H' => Same H H' ∧ H' D = some (.lst ((above (valAt ns) true (p.take i)).map V.int))) ⟨Same.new hD, upd_same⟩ (fun i H2 _ h2 => .of (h2.1 _ _ (s0 _ _ er))) (fun i x H2 hx h2 => ?_) (fun H2 h2 => ?_)
    · obtain ⟨s2, e2⟩ := h2
      rw [List.getElem?_map] at hx
      obtain ⟨T, hT, rfl⟩ := Option.map_eq_some_iff.mp hx
      obtain ⟨z, hz, eT⟩ := Paired.getL pt hT
      have hnz := hn z (List.mem_of_getElem? hz)
      refine ⟨T, _, rfl, .of (s2 _ _ (s0 _ _ eT)), rfl, _, _, rfl, _, [], rfl, rfl, rfl, ?_⟩
      rw [above_snoc _ _ hz]
      obtain ⟨n, b⟩ := z
      cases b with
      | false =>
        refine ⟨_, rfl, rfl, _, rfl, ite_no (show ¬ (V.str "left" = V.str "right") by decide +kernel) ⟨s2, ?_⟩⟩
        show H2 D = some (.lst (((above (valAt ns) true (p.take i)) ++ []).map V.int))
        rw [List.append_nil]
        exact e2
      | true =>
        refine ⟨_, rfl, rfl, _, rfl, ite_yes rfl ?_⟩
        refine ⟨_, rfl, _, rfl, a, _, _, _, rfl, rfl, .of (s2 _ _ (s0 _ _ ha)), at_of (j := n) rfl (valAt_get hnz), _, e2, ?_, fun c o e => ?_, ?_⟩
        · rw [List.length_map]
          have q1 := above_len (valAt ns) true (p.take i)
          rw [List.length_take] at q1
          exact small1000 (by omega)
        · rw [upd_ne (ne_of_none e hD)]
          exact s2 _ _ e
        · rw [upd_same, List.map_append]
          rfl
    · obtain ⟨s2, e2⟩ := h2
      rw [List.length_map, lt, List.take_length] at e2
      obtain ⟨lo1, lo2⟩ := low_spec (valAt ns) p
      refine ⟨D, _, rfl, rfl, e2, fun e0 => ?_, fun m hm hle => ?_⟩
      · exact ⟨by rw [lo1 e0]; rfl, s0.trans s2⟩
      · exact ⟨by rw [lo2 m hm hle]; rfl, s0.trans s2⟩
  rintro σ' H0 ⟨rfl, s0⟩
  refine ⟨fun σ' H' => σ' = [some (.ref a), some (.ref r), some (optV (lowOf (valAt ns) p)), some (optV (highOf (valAt ns) p)), none, none] ∧ Same H H', ?_, ?_⟩
  · refine ⟨_, rfl, r, rfl, ⟨_, .of (s0 _ _ er)⟩, fun D hD => ?_⟩
    refine lc_list (xs := tups.map V.ref) (fun i H' => Same H0 H' ∧ H' D = some (.lst ((above (valAt ns) false (p.take i)).map V.int))) ⟨Same.new hD, upd_same⟩ (fun i H2 _ h2 => .of (h2.1 _ _ (s0 _ _ er))) (fun i x H2 hx h2 => ?_) (fun H2 h2 => ?_)
    · obtain ⟨s2, e2⟩ := h2
      rw [List.getElem?_map] at hx
      obtain ⟨T, hT, rfl⟩ := Option.map_eq_some_iff.mp hx
      obtain ⟨z, hz, eT⟩ := Paired.getL pt hT
      have hnz := hn z (List.mem_of_getElem? hz)
      refine ⟨T, _, rfl, .of (s2 _ _ (s0 _ _ eT)), rfl, _, _, rfl, _, [], rfl, rfl, rfl, ?_⟩
      rw [above_snoc _ _ hz]
      obtain ⟨n, b⟩ := z
      cases b with
      | true =>
        refine ⟨_, rfl, rfl, _, rfl, ite_no (show ¬ (V.str "right" = V.str "left") by decide +kernel) ⟨s2, ?_⟩⟩
        show H2 D = some (.lst (((above (valAt ns) false (p.take i)) ++ []).map V.int))
        rw [List.append_nil]
        exact e2
      | false =>
        refine ⟨_, rfl, rfl, _, rfl, ite_yes rfl ?_⟩
        refine ⟨_, rfl, _, rfl, a, _, _, _, rfl, rfl, .of (s2 _ _ (s0 _ _ ha)), at_of (j := n) rfl (valAt_get hnz), _, e2, ?_, fun c o e => ?_, ?_⟩
        · rw [List.length_map]
          have q1 := above_len (valAt ns) false (p.take i)
          rw [List.length_take] at q1
          exact small1000 (by omega)
        · rw [upd_ne (ne_of_none e hD)]
          exact s2 _ _ e
        · rw [upd_same, List.map_append]
          rfl
    · obtain ⟨s2, e2⟩ := h2
      rw [List.length_map, lt, List.take_length] at e2
      obtain ⟨lo1, lo2⟩ := high_spec (valAt ns) p
      refine ⟨D, _, rfl, rfl, e2, fun e0 => ?_, fun m hm hle => ?_⟩
      · exact ⟨by rw [lo1 e0]; rfl, s0.trans s2⟩
      · exact ⟨by rw [lo2 m hm hle]; rfl, s0.trans s2⟩
  rintro σ' H1 ⟨rfl, s1⟩
  have pair : ∀ x y : Option Int, bndOf (valAt ns) p = some (x, y) → ∀ T, H1 T = none → Q (.ref T) (upd H1 T (.tup [optV x, optV y])) := fun x y e T hT => by
    refine q _ _ (s1.trans (Same.new hT)) ?_
    rw [e]
    exact ⟨T, rfl, upd_same⟩
  cases e1 : lowOf (valAt ns) p with
  | none =>
    refine ⟨_, rfl, rfl, _, rfl, iteF (iteF ?_)⟩
    have eb : bndOf (valAt ns) p = some (none, highOf (valAt ns) p) := by unfold bndOf; rw [e1]
    exact ⟨_, rfl, _, rfl, (by show 2 ≤ sizeLine; decide), pair _ _ eb⟩
  | some lo =>
    refine ⟨_, rfl, rfl, _, rfl, iteT ?_⟩
    cases e2 : highOf (valAt ns) p with
    | none =>
      refine ⟨_, rfl, rfl, _, rfl, iteF (iteF ?_)⟩
      have eb : bndOf (valAt ns) p = some (some lo, none) := by unfold bndOf; rw [e1, e2]
      exact ⟨_, rfl, _, rfl, (by show 2 ≤ sizeLine; decide), pair _ _ eb⟩
    | some hi =>
      have eb : bndOf (valAt ns) p = if lo ≥ hi then none else some (some lo, some hi) := by unfold bndOf; rw [e1, e2]
      refine ⟨_, rfl, rfl, _, rfl, iteT ⟨_, rfl, _, rfl, _, _, rfl, rfl, _, rfl, ite2 (fun c => ?_) (fun c => ?_)⟩⟩
      · rw [if_pos (of_decide_eq_true c)] at eb
        exact q _ .non s1 (by rw [eb]; rfl)
      · rw [if_neg (fun z => c (decide_eq_true z))] at eb
        exact ⟨_, rfl, _, rfl, (by show 2 ≤ sizeLine; decide), pair _ _ eb⟩
end
end HSP
namespace HSP
open PySem PySem.Spec PyProof.Rows L2
/-- the label of a node -/
def labAt (g : Nat → Int) (t : Tr) (i : Nat) : Lb := lbOf (bndOf g (pOf t 0 i)) (g i)
def labsV (g : Nat → Int) (t : Tr) (n : Nat) : List V := (List.range n).map fun i => V.str (labAt g t i).str
theorem labsV_len (g : Nat → Int) (t : Tr) (n : Nat) : (labsV g t n).length = n := by
  unfold labsV
  rw [List.length_map, List.length_range]
theorem labsV_more (g : Nat → Int) (t : Tr) (n : Nat) : labsV g t (n + 1) = labsV g t n ++ [V.str (labAt g t n).str] := by
  unfold labsV
  rw [List.range_succ, List.map_append]
  rfl
/-- the nodes that are found -/
def foundOf (g : Nat → Int) (t : Tr) (n : Nat) : List Nat := (List.range n).filter fun i => labAt g t i == .found
theorem foundOf_more (g : Nat → Int) (t : Tr) (n : Nat) : foundOf g t (n + 1) = foundOf g t n ++ if labAt g t n == .found then [n] else [] := by
  unfold foundOf
  rw [List.range_succ, List.filter_append]
  congr 1
  unfold List.filter
  cases labAt g t n == .found <;> rfl
theorem foundOf_len (g : Nat → Int) (t : Tr) (n : Nat) : (foundOf g t n).length ≤ n := by
  have h := List.length_filter_le (fun i => labAt g t i == .found) (List.range n)
  rw [List.length_range] at h
  exact h
section
variable {P : Program} {w : World} {K : PySem.W.Frag} {mg : Str → Option Value} {base : Heap}
/-! ### labels_of -/
theorem sc_labelsOf : FnScope n_labels_of ["tree", "values"] (defScope s_labels_of) := ⟨rfl, rfl, rfl, by decide +kernel, rfl, by decide +kernel, by decide +kernel⟩
def spLabels : Sp := fun vs H Q _ => ∃ (v : V) (t : Tr) (a : Addr) (ns : List Int), vs = [v, .ref a] ∧ TrAt H v t ∧ t.size ≤ 300 ∧ H a = some (.lst (ns.map V.int)) ∧ ns.length = t.size ∧ ∀ (H' : Hp) (q : Addr), Same H H' → H q = none → H' q = some (.lst (labsV (valAt ns) t t.size)) → Q (.ref q) H'
theorem ok_labelsOf (B : Bl mg) (Pa : Df P w K mg base "paths_of" 3 ["tree"] spPaths) (Bo : Df P w K mg base "bounds_below" 1 ["values", "above"] spBounds) (La : Df P w K mg base "label_of" 1 ["bounds", "value"] spLabel) (a : At K mg "labels_of" s_labels_of) :
    Df P w K mg base "labels_of" 4 ["tree", "values"] spLabels := by
  refine Df.mk' a sc_labelsOf (fun vs H Q E h => ?_) (fun _ _ _ _ _ _ us hl => match us, hl with | [_, _], _ => rfl) (fun f cdv A outer s H vs Q E hr h => ?_)
  · obtain ⟨v, t, a, ns, rfl, _⟩ := h
    rfl
  obtain ⟨v, t, a, ns, rfl, ht, hz, ha, hn, q⟩ := h
  refine ⟨_, (pss_cons (ps_set (i := 2) sc_labelsOf.nd rfl (.inl rfl) (pe_df Pa hr (pa_cons (pv 0) pa_nil)))
 (pss_one (ps_ret (pe_lc (own := [("way", 3), ("value", 4)]) (g := (gTup K 2 (gCons (gName 3) (gCons (gName 4) gNil)))) (tt := tYes) (by rfl) sc_labelsOf.nd (pi_zip (by rfl) B.zip (pa_cons (pv 2) (pa_cons (pv 1) pa_nil))) (blkOk_by (N := n_labels_of) (sc := defScope s_labels_of) (by decide +kernel)) (fun _ _ _ _ _ => (pg_tup rfl (pgs_cons (pg_name (i := 3) sc_labelsOf.nd rfl (.inl rfl)) (pgs_cons (pg_name (i := 4) sc_labelsOf.nd rfl (.inl rfl)) pgs_nil)))) (fun _ _ _ _ _ => pts_nil) (fun _ _ _ _ _ => (pe_df La (hr.mono (by decide)) (pa_cons (pe_df Bo (hr.mono (by decide)) (pa_cons (pv 1) (pa_cons (pv 3) pa_nil))) (pa_cons (pv 4) pa_nil)))))))), ?_⟩
  refine ⟨v, rfl, v, t, rfl, ht, hz, fun H1 q0 s1 _ ⟨rows, er, lr, hp⟩ => ?_⟩
  refine ⟨_, rfl, _, rfl, q0, a, _, _, rfl, .of er, .of (s1 _ _ ha), fun D hD => ?_⟩
  have many : t.size = min (rows.map V.ref).length (ns.map V.int).length := by
    rw [List.length_map, List.length_map]
    omega
  refine lc_it (walk_zip (K := K) (a := q0) (b := a) (xs := rows.map V.ref) (ys := ns.map V.int) many) (fun i H' => Same H1 H' ∧ H' D = some (.lst (labsV (valAt ns) t i))) ⟨Same.new hD, upd_same⟩ (fun i H3 _ h3 => ⟨.of (h3.1 _ _ er), .of (h3.1 _ _ (s1 _ _ ha))⟩) (fun i x H3 H4 hi h3 hy => ?_) (fun H3 h3 => ?_)
  · obtain ⟨s3, e3⟩ := h3
    obtain ⟨T, x1, x2, rfl, nT, rfl, g1, g2⟩ := hy
    have i1 : i < rows.length := by omega
    have i2 : i < ns.length := by omega
    have w1 : (rows.map V.ref)[i]? = some (.ref rows[i]) := by rw [List.getElem?_map, List.getElem?_eq_getElem i1]; rfl
    cases w1.symm.trans g1
    cases (valAt_get i2).symm.trans g2
    have sT := Same.new (o := .tup [V.ref rows[i], V.int (valAt ns i)]) nT
    have pa := hp i rows[i] (List.getElem?_eq_getElem i1)
    refine ⟨T, _, rfl, .of upd_same, rfl, _, _, rfl, _, [], rfl, rfl, rfl, ?_⟩
    refine ⟨_, rfl, _, rfl, a, rows[i], ns, pOf t 0 i, rfl, sT _ _ (s3 _ _ (s1 _ _ ha)), (pa.same s3).same sT, ?_, fun z hz2 => ?_, fun H5 vb s5 hb => ?_⟩
    · have := pOf_len t 0 i
      omega
    · have := pOf_in t 0 i z hz2
      omega
    · refine ⟨_, rfl, vb, _, _, rfl, hb, _, s5 _ _ (sT _ _ e3), ?_, fun b o e => ?_, ?_⟩
      · rw [labsV_len]
        exact small1000 (by omega)
      · rw [upd_ne (ne_of_none e hD)]
        exact s5 _ _ (sT _ _ (s3 _ _ e))
      · rw [upd_same, labsV_more]
        rfl
  · obtain ⟨s3, e3⟩ := h3
    exact q H3 D (s1.trans s3) (s1.free hD) e3
end
end HSP
namespace HSP
open PySem PySem.Spec PyProof.Rows L2
/-! ## comprehensions with two for -/
section
variable {J J1 : It} {n n1 : Nat} {G G1 : Hp → Prop} {Y Y1 : Nat → Hp → V → Hp → Prop}
theorem lc2_it (w : Walk J n G Y) {g : TG} {tt : TT} {wi1 : TI} {g1 : TG} {tt1 : TT} {te : TE} {vs vs1 : List Nat} {σ : L2.St} {H1 : Hp} {D : Addr} {Qd : Hp → Prop} (Pv : Nat → Hp → Prop) (h0 : Pv 0 (upd H1 D (.lst []))) (hG : ∀ i H, i ≤ n → Pv i H → G H)
    (hs : ∀ i x H H', i < n → Pv i H → Y i H x H' → g x (wipe σ vs) H' fun σ2 H2 => wipe σ2 vs = wipe σ vs ∧ tt σ2 H2 fun b H3 =>
      if b = true then wi1 σ2 H3 fun J1 H4 => ∃ W1 : Nat → Nat → Hp → Prop, (∃ m, W1 0 m H4) ∧ ∀ j k H, W1 j k H →
        (J1.stop j H ∧ Pv (i + 1) H) ∨ (J1.go j H ∧ ∃ Nx1 : Hp → Prop, (∀ H', Nx1 H' → ∃ k', k' < k ∧ W1 (j + 1) k' H') ∧ ∀ x H', J1.yld j H x H' → g1 x (wipe σ2 vs1) H' fun σ3 H5 => wipe σ3 vs1 = wipe σ2 vs1 ∧ tt1 σ3 H5 fun b H6 =>
          if b = true then te σ3 H6 fun y H7 => ∃ acc, H7 D = some (.lst acc) ∧ acc.length < sizeLine ∧ Nx1 (upd H7 D (.lst (acc ++ [y]))) else Nx1 H6)
      else Pv (i + 1) H3) (hd : ∀ H, Pv n H → Qd H) :
    ∃ W : Nat → Nat → Hp → Prop, (∃ m, W 0 m (upd H1 D (.lst []))) ∧ ∀ i m H, W i m H →
      (J.stop i H ∧ Qd H) ∨ (J.go i H ∧ ∃ Nx : Hp → Prop, (∀ H', Nx H' → ∃ m', m' < m ∧ W (i + 1) m' H') ∧ ∀ x H', J.yld i H x H' → g x (wipe σ vs) H' fun σ2 H2 => wipe σ2 vs = wipe σ vs ∧ tt σ2 H2 fun b H3 =>
        if b = true then wi1 σ2 H3 fun J1 H4 => ∃ W1 : Nat → Nat → Hp → Prop, (∃ m, W1 0 m H4) ∧ ∀ j k H, W1 j k H →
          (J1.stop j H ∧ Nx H) ∨ (J1.go j H ∧ ∃ Nx1 : Hp → Prop, (∀ H', Nx1 H' → ∃ k', k' < k ∧ W1 (j + 1) k' H') ∧ ∀ x H', J1.yld j H x H' → g1 x (wipe σ2 vs1) H' fun σ3 H5 => wipe σ3 vs1 = wipe σ2 vs1 ∧ tt1 σ3 H5 fun b H6 =>
            if b = true then te σ3 H6 fun y H7 => ∃ acc, H7 D = some (.lst acc) ∧ acc.length < sizeLine ∧ Nx1 (upd H7 D (.lst (acc ++ [y]))) else Nx1 H6)
        else Nx H3) := by
  refine ⟨fun i m H => m = n - i ∧ i ≤ n ∧ Pv i H, ⟨n, by simp, Nat.zero_le _, h0⟩, ?_⟩
  rintro i m H ⟨rfl, hi, p⟩
  have q := hG i H hi p
  by_cases hlt : i < n
  · exact .inr ⟨w.goes i H hlt q, Pv (i + 1), fun H' p' => ⟨n - (i + 1), by omega, rfl, hlt, p'⟩, fun x H' y => hs i x H H' hlt p (w.yields i H x H' hlt q y)⟩
  · have e : i = n := by omega
    subst e
    exact .inl ⟨w.stops H q, hd H p⟩
/-- the inner for -/
theorem in_it (w : Walk J1 n1 G1 Y1) {g1 : TG} {tt1 : TT} {te : TE} {vs1 : List Nat} {σ2 : L2.St} {H4 : Hp} {D : Addr} {Nx : Hp → Prop} (Pv : Nat → Hp → Prop) (h0 : Pv 0 H4) (hG : ∀ i H, i ≤ n1 → Pv i H → G1 H)
    (hs : ∀ j x H H', j < n1 → Pv j H → Y1 j H x H' → g1 x (wipe σ2 vs1) H' fun σ3 H5 => wipe σ3 vs1 = wipe σ2 vs1 ∧ tt1 σ3 H5 fun b H6 =>
      if b = true then te σ3 H6 fun y H7 => ∃ acc, H7 D = some (.lst acc) ∧ acc.length < sizeLine ∧ Pv (j + 1) (upd H7 D (.lst (acc ++ [y]))) else Pv (j + 1) H6) (hd : ∀ H, Pv n1 H → Nx H) :
    ∃ W1 : Nat → Nat → Hp → Prop, (∃ m, W1 0 m H4) ∧ ∀ j k H, W1 j k H →
      (J1.stop j H ∧ Nx H) ∨ (J1.go j H ∧ ∃ Nx1 : Hp → Prop, (∀ H', Nx1 H' → ∃ k', k' < k ∧ W1 (j + 1) k' H') ∧ ∀ x H', J1.yld j H x H' → g1 x (wipe σ2 vs1) H' fun σ3 H5 => wipe σ3 vs1 = wipe σ2 vs1 ∧ tt1 σ3 H5 fun b H6 =>
        if b = true then te σ3 H6 fun y H7 => ∃ acc, H7 D = some (.lst acc) ∧ acc.length < sizeLine ∧ Nx1 (upd H7 D (.lst (acc ++ [y]))) else Nx1 H6) := by
  refine ⟨fun i m H => m = n1 - i ∧ i ≤ n1 ∧ Pv i H, ⟨n1, by simp, Nat.zero_le _, h0⟩, ?_⟩
  rintro i m H ⟨rfl, hi, p⟩
  have q := hG i H hi p
  by_cases hlt : i < n1
  · exact .inr ⟨w.goes i H hlt q, Pv (i + 1), fun H' p' => ⟨n1 - (i + 1), by omega, rfl, hlt, p'⟩, fun x H' y => hs i x H H' hlt p (w.yields i H x H' hlt q y)⟩
  · have e : i = n1 := by omega
    subst e
    exact .inl ⟨w.stops H q, hd H p⟩
end
end HSP
namespace HSP
open PySem PySem.Spec PyProof.Rows L2
section
variable {X : Cx}
/-- sum(a list of lists of values, a list of values) -/
def rSumV (K : PySem.W.Frag) : List V → Hp → VK → Prop := fun vs H Q => ∃ (a b : Addr) (rows : List Addr) (parts : List (List V)) (ms : List V), vs = [V.ref a, V.ref b] ∧ H a = some (.lst (rows.map V.ref)) ∧ H b = some (.lst ms) ∧
  Paired (fun r ns => H r = some (.lst ns)) rows parts ∧ ms.length + parts.flatten.length ≤ sizeLine ∧ ∀ (H' : Hp) (p : Addr), Same H H' → (p = b ∨ H p = none) → H' p = some (.lst (ms ++ parts.flatten)) → Q (.ref p) H'
theorem rowsV_of {P : Program} {w : World} {H : Hp} {h : Heap} (ok : HOk P w H h) : ∀ {rows : List Addr} {parts : List (List V)}, Paired (fun r ns => H r = some (.lst ns)) rows parts →
    ∃ pits : List (List Value), pits.length = rows.length ∧ (∀ j (hj : j < rows.length), ∃ m, h.get? rows[j] = some (LO (pits.getD j []) m)) ∧ Vals parts.flatten pits.flatten ∧ (pits.map List.length).sum = parts.flatten.length
  | [], [], .nil => ⟨[], rfl, fun j hj => absurd hj (Nat.not_lt_zero j), .nil, rfl⟩
  | r :: rows, ns :: parts, .cons e t => by
    obtain ⟨pits, h1, h2, h3, h4⟩ := rowsV_of ok t
    obtain ⟨z, its, n, v, g⟩ : ObjOk P w H h r (.lst ns) := ok r _ e
    refine ⟨its :: pits, by rw [List.length_cons, h1, List.length_cons], fun j hj => ?_, ?_, ?_⟩
    · cases j with
      | zero => exact ⟨n, g⟩
      | succ j => exact h2 j (Nat.lt_of_succ_lt_succ hj)
    · rw [List.flatten_cons, List.flatten_cons]
      exact v.append h3
    · rw [List.map_cons, List.sum_cons, h4, List.flatten_cons, List.length_append, ← v.length]
theorem cr_sumV (hc : X.calm = true) : CallR X (.builtin "sum") (rSumV X.K) := by
  intro pins s σ H vs us Q I r h
  obtain ⟨a, b, rows, parts, ms, rfl, ha, hb, hp, hz, q⟩ := h
  cases r with
  | cons r1 t1 =>
    cases t1 with
    | cons r2 t2 =>
      cases t2
      cases r1
      cases r2
      obtain ⟨za, its, n, va, ea⟩ : ObjOk X.prog X.w H s.heap a (.lst (rows.map V.ref)) := I.hok a _ ha
      obtain ⟨zb, it0, n0, vb, eb⟩ : ObjOk X.prog X.w H s.heap b (.lst ms) := I.hok b _ hb
      obtain ⟨pits, hl2, hg2, hv2, hn2⟩ := rowsV_of I.hok hp
      have e1 : (List.range rows.length).map (fun j => pits.getD j []) = pits := by
        have q := range_map (fun x : List Value => x) [] pits
        rw [List.map_id', hl2] at q
        exact q
      have e2 : ((List.range rows.length).map fun j => (pits.getD j []).length).sum = parts.flatten.length := by
        have q := range_map (fun x : List Value => x.length) [] pits
        rw [hl2] at q
        rw [q, hn2]
      refine sumL_call (I.ok.hd hc) (lits := its) (acc := it0) (parts := fun j => pits.getD j []) ea (refs_of va) eb hg2 (by rw [e2, ← vb.length]; exact hz) fun s' T c kp hg ho hT hw => ?_
      rw [e1] at hT
      have hvals : Vals (ms ++ parts.flatten) (it0 ++ pits.flatten) := by
        exact vb.append hv2
      rcases hw with ⟨z1, z2⟩ | hnew
      · subst z1
        cases hp
        refine ⟨.ref T, H, I.call' (ch := []) ho (Un.kept kp) (I.hok.kept kp) (by rw [hg]; exact I.bare) (fun _ z => nomatch z), rfl, q H T (Same.refl H) (.inl z2) ?_⟩
        rw [z2, hb, List.flatten_nil, List.append_nil]
      · have hn : H T = none := by
          cases eo : H T with
          | none => rfl
          | some o =>
            obtain ⟨u, hu⟩ := objOk_get (I.hok T o eo)
            rw [hnew] at hu
            cases hu
        refine ⟨.ref T, upd H T (.lst (ms ++ parts.flatten)), I.call' (ch := []) ho (Un.laidN kp hnew hn) (I.hok.laidN kp hn ⟨?_, _, c, hvals, hT⟩) (by rw [hg]; exact I.bare) (fun _ z => nomatch z), rfl, q _ T (Same.new hn) (.inr hn) upd_same⟩
        rw [List.length_append]
        exact hz
end
end HSP
namespace HSP
open PySem PySem.Spec PyProof.Rows L2
/-! ## the law's call, where nothing is being shown -/
section
variable {P : Program} {w : World} {K : PySem.W.Frag} {mg mb : Str → Option Value} {k : Nat} {fa a : Addr} {fd : FuncData} {x : Str} {sp : Sp} {s1 : Shared} {vs : List Value} {ns : List Int}
/-- from an abstract heap that tracks nothing but, perhaps, the script -/
theorem callG_core (kin : K.In s1.heap) (hns : s1.heap.Ns mainGlobals mg) (hb : s1.heap.Ns builtinsNs mb) (hbb : ∀ x : Str, x ≠ "__name__" → mb x = bootBuiltins x) (hlim : s1.heap.NoLimit) (hg : s1.gens = #[])
    (ha : s1.heap.get? a = some { cls := .type "list", data := .seq vs.toArray }) (hr : Room k callerA) (F : ∀ base : Heap, K.In base → base.Ns mainGlobals mg → FnG P w K mg base CX0 k fa fd [x] sp)
    (hbind : ∀ (s : Shared) (u : Value), BindsTo s fd ⟨[u], []⟩ [(x, u)]) (H : Hp) (hO : Only H) (hsp : sp [.ref a] H (fun v _ => v = .bl true) fun _ _ _ => False) (hok : HOk P w H s1.heap) (hA : ∀ b o, H b = some o → b = a) (hK : ∀ o, H a = some o → K.lookup a = none) :
    codeAny (model P w) callerA (.call (.ref fa) ⟨[.ref a], []⟩) (fun r s' => r = .ok (.ret (.bool true)) ∧ OldK s1.heap s'.heap ∧ s'.os = s1.os ∧ AllBare s'.gens) s1 := by
  -- no dict is tracked
  have free : ∀ {b : Addr} {o : Obj} {es : Array DictEntry} {ep : Nat}, s1.heap.get? b = some o → o.data = .dict es ep → H b = none := by
    intro b o es ep e d
    match q : H b with
    | none => rfl
    | some u =>
      rw [hA b u q, ha] at e
      cases e
      cases d
  have nsB : ∀ {b : Addr} {m : Str → Option Value}, s1.heap.Ns b m → (hidT s1.heap H).Ns b m := by
    intro b m h
    obtain ⟨o, es, ep, e, d, r⟩ := h
    exact ⟨o, es, ep, hidT_get e (free e d), d, r⟩
  have kinB : K.In (hidT s1.heap H) := by
    intro b o e
    refine hidT_get (kin b o e) ?_
    match q : H b with
    | none => rfl
    | some u =>
      have eb := hA b u q
      rw [eb] at e q
      rw [hK u q] at e
      cases e
  have md : Mod K mg (hidT s1.heap H) := by
    obtain ⟨mc, c1, c2⟩ := hlim
    exact ⟨kinB, nsB hns, ⟨mb, nsB hb, hbb⟩, mc, nsB c1, c2⟩
  have env : Env0 P w K mg (hidT s1.heap H) callerA [] s1 H := ⟨rfl, md, fun b o e => of_hidT e, Nat.le_of_eq (hidT_size _ _), trivial, (fun b z => by cases z), hok, .of_eq hg⟩
  refine codeAny_mono ((F _ kinB (nsB hns)).run callerA [] s1 H ⟨[.ref a], []⟩ [.ref a] [.ref a] _ _ rfl hr env (hbind s1 (.ref a)) (.cons rfl .nil) hsp) fun r s' h => ?_
  match r, h with
  | .error _, h => exact (show False from h).elim
  | .ok (.ret u), h =>
    obtain ⟨v, H', os, bare, un, hok', rv, q⟩ := h
    have q' : v = .bl true := q
    rw [q'] at rv
    have eu : u = Value.bool true := rv
    rw [eu]
    refine ⟨rfl, OldK.of_keep fun b o e => ?_, os, bare⟩
    match q : H b with
    | none => exact un.keep b o e q (fun z => by cases z) (fun z => by cases z)
    | some u =>
      rcases hO b with z | ⟨ob, xs, z⟩
      · rw [q] at z
        cases z
      · have b1 := (hok b _ z).1
        have b2 := (hok' b _ (un.frzs b ob _ z)).1
        rw [e] at b1
        cases b1
        exact b2
theorem law_callG (kin : K.In s1.heap) (hns : s1.heap.Ns mainGlobals mg) (hb : s1.heap.Ns builtinsNs mb) (hbb : ∀ x : Str, x ≠ "__name__" → mb x = bootBuiltins x) (hlim : s1.heap.NoLimit) (hg : s1.gens = #[])
    (ha : s1.heap.get? a = some { cls := .type "list", data := .seq vs.toArray }) (hi : IntsAre vs ns) (hl : ns.length ≤ sizeLine) (hr : Room k callerA) (F : ∀ base : Heap, K.In base → base.Ns mainGlobals mg → FnG P w K mg base CX0 k fa fd [x] sp)
    (hbind : ∀ (s : Shared) (u : Value), BindsTo s fd ⟨[u], []⟩ [(x, u)]) (hsp : ∀ H : Hp, Only H → SqL K H a (ns.map V.int) → sp [.ref a] H (fun v _ => v = .bl true) fun _ _ _ => False) :
    codeAny (model P w) callerA (.call (.ref fa) ⟨[.ref a], []⟩) (fun r s' => r = .ok (.ret (.bool true)) ∧ OldK s1.heap s'.heap ∧ s'.os = s1.os ∧ AllBare s'.gens) s1 := by
  have rv := vals_ints hi
  have le : vs.length = ns.length := hi.length
  match hk : K.lookup a with
  | some o =>
    have e := kin a o hk
    rw [ha] at e
    cases e
    refine callG_core kin hns hb hbb hlim hg ha hr F hbind (fun _ => none) (fun _ => .inl rfl) (hsp _ (fun _ => .inl rfl) ?_) (fun b u z => by cases z) (fun b o z => by cases z) (fun o z => by cases z)
    exact .inr ⟨_, vs.toArray, _, hk, rfl, rfl, rfl, by rw [List.size_toArray, le]; exact hl, by rw [List.toList_toArray]; exact rv⟩
  | none =>
    let H : Hp := fun b => if b = a then some (.frz { cls := .type "list", data := .seq vs.toArray } (.lst (ns.map V.int))) else none
    have at_a : H a = some (.frz { cls := .type "list", data := .seq vs.toArray } (.lst (ns.map V.int))) := if_pos rfl
    have off : ∀ b, b ≠ a → H b = none := fun b n => if_neg n
    have only : Only H := fun b => by
      by_cases c : b = a
      · rw [c]; exact .inr ⟨_, _, at_a⟩
      · exact .inl (off b c)
    refine callG_core kin hns hb hbb hlim hg ha hr F hbind H only (hsp H only (.inl (.inr ⟨_, at_a⟩))) (fun b u z => ?_) (fun b o z => ?_) (fun _ _ => hk)
    · by_cases c : b = a
      · rw [c] at z ⊢
        rw [at_a] at z
        cases z
        exact ⟨ha, by rw [List.length_map]; exact hl, vs, _, rv, ha⟩
      · rw [off b c] at z
        cases z
    · by_cases c : b = a
      · exact c
      · rw [off b c] at z
        cases z
end
/-- what the head leaves, from the law's promise -/
theorem walk_ofG {l : PySem.W.OpenLaw} {n k : Nat} {q : Program} {loose : List Str} {XP : (Str → Option Value) → Heap → Prop} {YP : World → Heap → Prop} {d : DefRec} {K : Params → PySem.W.Frag} {sp : World → Sp} {x : Str} (hn : l.most = some n) (hn2 : n ≤ sizeLine) (hdf : d.params.defaults = []) (hr : Room k callerA)
    (hY : ∀ (w : World) (h : Heap), YP w h → (K w.params).In h)
    (F : ∀ (w : World) (mg : Str → Option Value) (fa : Addr) (h : Heap), (K w.params).In h → h.Ns mainGlobals mg → mg d.name = some (.ref fa) → ∃ fd : FuncData, (∀ (s : Shared) (u : Value), BindsTo s fd ⟨[u], []⟩ [(x, u)]) ∧
        ∀ base : Heap, (K w.params).In base → base.Ns mainGlobals mg → FnG l.prog w (K w.params) mg base CX0 k fa fd [x] (sp w))
    (hsp : ∀ (w : World) (H : Hp) (a : Addr) (ns : List Int), ns.length ≤ n → Only H → SqL (K w.params) H a (ns.map V.int) → sp w [.ref a] H (fun v _ => v = .bl true) fun _ _ _ => False) : PySem.W.WalkO q loose XP YP l.row.toRowW d [] (fun f vs => PySem.call f vs) := by
  refine Att.attach_call hn hdf fun w s0 s1 mg mb fa o pm cd doc a vs ns G Y ho hd hcd hmg hobj hints hlen hg => ?_
  obtain ⟨fd, hbd, hF⟩ := F w mg fa _ (hY w _ Y) G.T.g hmg
  exact law_callG (hY w _ Y) G.T.g G.T.b G.T.builtins G.T.nolimit hg hobj hints (Nat.le_trans hlen hn2) hr hF hbd fun H hO hS => hsp w H a ns hlen hO hS
end HSP
namespace HSP
open PySem PySem.Spec PyProof.Rows L2
/-! ## how data are shown: lengths -/
theorem piled_le (c : Nat) : ∀ ds : List PyData, (∀ d, d ∈ ds → d.shown.length ≤ c) → piled (PyData.shownAll ds) ≤ ds.length * (c + 2)
  | [], _ => by simp [PyData.shownAll, piled_nil]
  | d :: ds, h => by
    have ih := piled_le c ds fun e he => h e (List.mem_cons_of_mem _ he)
    have h1 := h d List.mem_cons_self
    have e : PyData.shownAll (d :: ds) = d.shown :: PyData.shownAll ds := by simp [PyData.shownAll]
    rw [e, piled_cons, List.length_cons, Nat.add_mul]
    omega
theorem listText_le : ∀ ts : List Str, (listText ts).length ≤ piled ts + 2
  | [] => by decide +kernel
  | t :: r => by
    have e : listText (t :: r) = textFrom 1 (("[" : Str) ++ (if 0 > 0 then ", " else "" : String) ++ t) r ++ "]" := rfl
    rw [e, strLen_append, textFrom_length_pos _ _ _ (by decide), strLen_append, strLen_append, piled_cons]
    have e1 : (("[" : String) : Str).length = 1 := rfl
    have e2 : (("]" : String) : Str).length = 1 := rfl
    have e3 : ((if 0 > 0 then ", " else "" : String) : Str).length = 0 := rfl
    omega
theorem tupleText_le (ts : List Str) : (tupleText ts).length ≤ piled ts + 3 := by
  unfold tupleText
  rw [strLen_append, strLen_append]
  have e1 : (("(" : String) : Str).length = 1 := rfl
  have e2 : ((if ts.length == 1 then ",)" else ")" : String) : Str).length ≤ 2 := by
    split <;> decide +kernel
  have e3 : (Str.join ", " ts).length ≤ piled ts := by
    by_cases c : ts = []
    · rw [c]
      decide +kernel
    · have := join_length_add ts c
      omega
  omega
theorem shown_list_le (c : Nat) (ds : List PyData) (h : ∀ d, d ∈ ds → d.shown.length ≤ c) : (PyData.list ds).shown.length ≤ ds.length * (c + 2) + 2 := by
  have e : (PyData.list ds).shown = listText (PyData.shownAll ds) := by simp only [PyData.shown]
  rw [e]
  have h1 := listText_le (PyData.shownAll ds)
  have h2 := piled_le c ds h
  omega
/-! ### trees as data -/
def treeD : Tr → PyData
  | .nil => .none
  | .nod l r => .tuple [treeD l, treeD r]
theorem treeD_len : ∀ t : Tr, (treeD t).shown.length ≤ 11 * t.size + 4
  | .nil => by
    show (PyData.none).shown.length ≤ _
    simp only [PyData.shown]
    decide +kernel
  | .nod l r => by
    have h1 := treeD_len l
    have h2 := treeD_len r
    have e : (treeD (.nod l r)).shown = tupleText [(treeD l).shown, (treeD r).shown] := by
      show (PyData.tuple [treeD l, treeD r]).shown = _
      simp only [PyData.shown, PyData.shownAll]
    have z : (Tr.nod l r).size = l.size + 1 + r.size := rfl
    have h3 := tupleText_le [(treeD l).shown, (treeD r).shown]
    rw [piled_cons, piled_cons, piled_nil] at h3
    rw [e, z]
    omega
theorem treeD_show : ∀ t : Tr, (treeD t).showable = true
  | .nil => by simp only [treeD, PyData.showable]
  | .nod l r => by simp only [treeD, PyData.showable, PyData.showableAll, treeD_show l, treeD_show r, Bool.and_self]
theorem treeD_dict : ∀ t : Tr, (treeD t).hasDict = false
  | .nil => by simp only [treeD, PyData.hasDict]
  | .nod l r => by simp only [treeD, PyData.hasDict, PyData.hasDictAll, treeD_dict l, treeD_dict r, Bool.or_self]
theorem treeD_deep : ∀ t : Tr, (treeD t).depth ≤ t.ht
  | .nil => by simp only [treeD, PyData.depth]; exact Nat.zero_le _
  | .nod l r => by
    have h1 := treeD_deep l
    have h2 := treeD_deep r
    have e : (Tr.nod l r).ht = max l.ht r.ht + 1 := rfl
    simp only [treeD, PyData.depth, PyData.depthAll]
    omega
theorem TrAt.dp {K : PySem.W.Frag} {H : Hp} {v : V} {t : Tr} (h : TrAt H v t) : Dp K H v (treeD t) := by
  induction h with
  | nil => exact .non
  | nod eb _ _ ih1 ih2 => exact .tup (.of eb) (.cons ih1 (.cons ih2 .nil))
/-! ### lists of numbers -/
theorem ints_show : ∀ l : List Int, (∀ v, v ∈ l → v.natAbs.log2 < 1920) → PyData.showableAll (l.map PyData.int) = true
  | [], _ => by simp [PyData.showableAll]
  | z :: r, h => by
    have ih := ints_show r fun v hv => h v (List.mem_cons_of_mem _ hv)
    have h1 := h z List.mem_cons_self
    simp only [List.map_cons, PyData.showableAll, PyData.showable, ih, decide_eq_true h1, Bool.and_self]
theorem ints_dict : ∀ l : List Int, PyData.hasDictAll (l.map PyData.int) = false
  | [] => by simp [PyData.hasDictAll]
  | z :: r => by simp only [List.map_cons, PyData.hasDictAll, PyData.hasDict, ints_dict r, Bool.or_self]
theorem int_len {z : Int} (h : z.natAbs < 10 ^ 30) : (PyData.int z).shown.length ≤ 31 := by
  simp only [PyData.shown]
  rw [show (Str.ofString (toString z)).length = (toString z).length from PySem.ofString_length _]
  exact int_text_length_le10 (k := 30) (by decide) h
theorem int_log {z : Int} (h : z.natAbs < 10 ^ 30) : z.natAbs.log2 < 1920 := by
  by_cases c : z.natAbs = 0
  · rw [c]
    decide
  · exact (Nat.log2_lt c).mpr (Nat.lt_of_lt_of_le h (by decide +kernel))
/-- what repr and == ask of data -/
structure Fine (d : PyData) : Prop where
  show_ : d.showable = true
  dict : d.hasDict = false
  deep : d.depth ≤ 60
  len : d.shown.length ≤ sizeLine
/-- numbers that are not too great -/
def Tame (l : List Int) : Prop := ∀ v, v ∈ l → v.natAbs < 10 ^ 30
theorem intsD_len {l : List Int} (h : Tame l) : (intsD l).shown.length ≤ l.length * 33 + 2 := by
  have := shown_list_le 31 (l.map PyData.int) fun d hd => by
    obtain ⟨v, hv, rfl⟩ := List.mem_map.mp hd
    exact int_len (h v hv)
  rw [List.length_map] at this
  exact this
theorem ints_fine {l : List Int} (h : Tame l) (n : l.length ≤ 1000) : Fine (intsD l) := by
  have h1 := intsD_len h
  have h2 := ints_deep l
  refine ⟨?_, ?_, ?_, ?_⟩
  · unfold intsD
    simp only [PyData.showable]
    exact ints_show l fun v hv => int_log (h v hv)
  · unfold intsD
    simp only [PyData.hasDict]
    exact ints_dict l
  · unfold intsD
    simp only [PyData.depth]
    omega
  · have : sizeLine = 16777216 := rfl
    omega
/-- [d, e] -/
theorem pair_fine {d e : PyData} (hd : Fine d) (he : Fine e) (h1 : d.depth ≤ 59) (h2 : e.depth ≤ 59) (c : Nat) (l1 : d.shown.length ≤ c) (l2 : e.shown.length ≤ c) (hc : c ≤ 100000) : Fine (.list [d, e]) := by
  refine ⟨?_, ?_, ?_, ?_⟩
  · simp only [PyData.showable, PyData.showableAll, hd.show_, he.show_, Bool.and_self]
  · simp only [PyData.hasDict, PyData.hasDictAll, hd.dict, he.dict, Bool.or_self]
  · simp only [PyData.depth, PyData.depthAll]
    omega
  · have := shown_list_le c [d, e] fun x hx => by
      rcases List.mem_cons.mp hx with z | z
      · rw [z]; exact l1
      · rw [List.mem_singleton.mp z]; exact l2
    have e1 : [d, e].length = 2 := rfl
    rw [e1] at this
    have : sizeLine = 16777216 := rfl
    omega
theorem tree_fine {t : Tr} (h : t.size ≤ 100) (d : t.ht ≤ 40) : Fine (treeD t) := by
  have h1 := treeD_len t
  have h2 := treeD_deep t
  have : sizeLine = 16777216 := rfl
  exact ⟨treeD_show t, treeD_dict t, by omega, by omega⟩
/-- [tree, values] -/
def argsD (t : Tr) (ns : List Int) : PyData := .list [treeD t, intsD ns]
theorem args_fine {t : Tr} {ns : List Int} (h : t.size ≤ 20) (n : ns.length ≤ 20) (hn : Tame ns) : Fine (argsD t ns) := by
  have h1 := treeD_len t
  have h2 := treeD_deep t
  have h3 := t.ht_le
  have h4 := intsD_len hn
  have h5 : (intsD ns).depth ≤ 2 := by
    have := ints_deep ns
    unfold intsD
    simp only [PyData.depth]
    omega
  exact pair_fine (tree_fine (by omega) (by omega)) (ints_fine hn (by omega)) (by omega) (by omega) 1000 (by omega) (by omega) (by decide)
/-- numbers that the law may make of those drawn -/
def Mid (ns : List Int) : Prop := ∀ v, v ∈ ns → -10000000000000000000000 < v ∧ v < 10000000000000000000000
theorem Mid.tame {ns : List Int} (h : Mid ns) : Tame ns := fun v hv => by
  have := h v hv
  have e : (10 : Nat) ^ 30 = 1000000000000000000000000000000 := by decide +kernel
  rw [e]
  omega
theorem Mid.nil : Mid [] := fun _ h => by cases h
theorem Mid.snoc {ns : List Int} {v : Int} (h : Mid ns) (h1 : -10000000000000000000000 < v ∧ v < 10000000000000000000000) : Mid (ns ++ [v]) := fun x hx => by
  rcases List.mem_append.mp hx with z | z
  · exact h x z
  · rw [List.mem_singleton.mp z]
    exact h1
theorem Mid.set {ns : List Int} {v : Int} {i : Nat} (h : Mid ns) (h1 : -10000000000000000000000 < v ∧ v < 10000000000000000000000) : Mid (ns.set i v) := fun x hx => by
  rcases List.mem_or_eq_of_mem_set hx with z | z
  · exact h x z
  · rw [z]
    exact h1
theorem ints_can0 (l : List Int) : PyData.canLay0 (intsD l) = true := by
  unfold intsD
  simp only [PyData.canLay0]
  exact ints_can l
theorem args_dp {K : PySem.W.Frag} {H : Hp} {a b : Addr} {v : V} {t : Tr} {ns : List Int} (ha : H a = some (.lst [v, .ref b])) (hv : TrAt H v t) (hb : H b = some (.lst (ns.map V.int))) : Dp K H (.ref a) (argsD t ns) :=
  .lst (.of ha) (.cons hv.dp (.cons (.lst (.of hb) (ints_dpAll ns)) .nil))
end HSP
namespace HSP
open PySem PySem.Spec PyProof.Rows L2
/-! ## lists of lists of numbers -/
def RowsAt (H0 H : Hp) (q : Addr) (ls : List (List Int)) : Prop := H0 q = none ∧ ∃ rows : List Addr, H q = some (.lst (rows.map V.ref)) ∧ Paired (fun a (l : List Int) => H a = some (.lst (l.map V.int)) ∧ H0 a = none) rows ls
/-- lists of lists, in one heap -/
def Flat (H0 H : Hp) (D : Addr) (row : Addr) (ls : List (List Int)) : Prop := ∃ rows : List Addr, H row = some (.lst (rows.map V.ref)) ∧ row ≠ D ∧ Paired (fun a (l : List Int) => H a = some (.lst (l.map V.int)) ∧ a ≠ D ∧ H0 a = none) rows ls
theorem flat_all {H0 H : Hp} {D : Addr} : ∀ {rs : List Addr} {lss : List (List (List Int))}, Paired (Flat H0 H D) rs lss → ∃ parts : List (List Addr), Paired (fun r (ns : List V) => H r = some (.lst ns)) rs (parts.map fun p => p.map V.ref) ∧ Paired (fun a (l : List Int) => H a = some (.lst (l.map V.int)) ∧ H0 a = none) parts.flatten lss.flatten
  | _, _, .nil => ⟨[], .nil, .nil⟩
  | _, _, .cons ⟨rows, e, _, p⟩ t => by
    obtain ⟨parts, h1, h2⟩ := flat_all t
    refine ⟨rows :: parts, .cons e h1, ?_⟩
    rw [List.flatten_cons, List.flatten_cons]
    exact Paired.app (Paired.mapP p fun _ _ h => ⟨h.1, h.2.2⟩) h2
theorem flat_put {H0 H H' : Hp} {D row : Addr} {ls : List (List Int)} {xs : List V} (h : Flat H0 H D row ls) (s : Same H H') : Flat H0 (upd H' D (.lst xs)) D row ls := by
  obtain ⟨rows, e, n, p⟩ := h
  exact ⟨rows, by rw [upd_ne n]; exact s _ _ e, n, Paired.mapP p fun a l h => ⟨by rw [upd_ne h.2.1]; exact s _ _ h.1, h.2⟩⟩
end HSP
namespace HSP
open PySem PySem.Spec PyProof.Rows L2
/-! ## all patterns: lists that rise by at most one -/
def stepA (r : List Int) : List (List Int) := [r ++ [r.getLastD 0 + 0], r ++ [r.getLastD 0 + 1]]
def rowsA : Nat → List (List Int)
  | 0 => [[0]]
  | k + 1 => (rowsA k).flatMap stepA
def rowsN (n : Nat) : List (List Int) := if n = 0 then [[]] else rowsA (n - 1)
theorem rowsA_len : ∀ k, (rowsA k).length = 2 ^ k ∧ ∀ r, r ∈ rowsA k → r.length = k + 1 ∧ ∀ v, v ∈ r → 0 ≤ v ∧ v ≤ (k : Int)
  | 0 => ⟨rfl, fun r hr => by
    rw [List.mem_singleton.mp hr]
    exact ⟨rfl, fun v hv => by rw [List.mem_singleton.mp hv]; exact ⟨Int.le_refl _, Int.le_refl _⟩⟩⟩
  | k + 1 => by
    obtain ⟨h1, h2⟩ := rowsA_len k
    refine ⟨?_, fun r hr => ?_⟩
    · show ((rowsA k).flatMap stepA).length = 2 ^ k * 2
      rw [← h1]
      generalize rowsA k = l
      induction l with
      | nil => rfl
      | cons a r ih => rw [List.flatMap_cons, List.length_append, ih, List.length_cons]; show 2 + _ = _; omega
    · obtain ⟨s, hs, h3⟩ := List.mem_flatMap.mp hr
      obtain ⟨l, b⟩ := h2 s hs
      have lst : 0 ≤ s.getLastD 0 ∧ s.getLastD 0 ≤ (k : Int) := by
        rcases List.eq_nil_or_concat s with e | ⟨s0, z, e⟩
        · rw [e]
          exact ⟨Int.le_refl 0, Int.natCast_nonneg k⟩
        · rw [e, List.concat_eq_append, List.getLastD_concat]
          exact b z (by rw [e, List.concat_eq_append]; exact List.mem_append_right _ (List.mem_singleton.mpr rfl))
      have all : ∀ d : Int, 0 ≤ d → d ≤ 1 → (s ++ [s.getLastD 0 + d]).length = k + 1 + 1 ∧ ∀ v, v ∈ s ++ [s.getLastD 0 + d] → 0 ≤ v ∧ v ≤ ((k + 1 : Nat) : Int) := fun d d0 d1 => by
        refine ⟨by rw [List.length_append, l]; rfl, fun v hv => ?_⟩
        rcases List.mem_append.mp hv with g | g
        · have := b v g
          omega
        · rw [List.mem_singleton.mp g]
          omega
      rcases List.mem_cons.mp h3 with e | e
      · rw [e]
        exact all 0 (by decide) (by decide)
      · rw [List.mem_singleton.mp e]
        exact all 1 (by decide) (by decide)
section
variable {P : Program} {w : World} {K : PySem.W.Frag} {mg : Str → Option Value} {base : Heap}
theorem yes_lcA {σ : L2.St} {H : Hp} {A C : Hp → Prop} (h : A H) : tYes σ H fun b H3 => if b = true then A H3 else C H3 := by
  show if true = true then A H else C H
  exact iteT h
/-- patterns stand at q, one for each row -/
def PatsAt (H : Hp) (q : Addr) (t : Tr) (rows : List (List Int)) : Prop := ∃ as : List Addr, H q = some (.lst (as.map V.ref)) ∧ Paired (fun a (r : List Int) => H a = some (.lst (labsV (valAt r) t t.size))) as rows
def spAllP : Sp := fun vs H Q _ => ∃ (v : V) (t : Tr), vs = [v] ∧ TrAt H v t ∧ t.size ≤ 12 ∧ ∀ (H' : Hp) (q : Addr), Same H H' → H q = none → PatsAt H' q t (rowsN t.size) → Q (.ref q) H'
end
end HSP
namespace HSP
open PySem PySem.Spec PyProof.Rows L2
theorem ancW_next {t : Tr} {ws : List Nat} {i c : Nat} (hc : ws[i]? = some c) : ancW t (ws.take (i + 1)) = ancW t (ws.take i) ++ (pOf t 0 c).map (·.1) := by
  rw [List.take_add_one, hc]
  unfold ancW
  rw [List.flatMap_append]
  congr 1
  show [c].flatMap _ = _
  rw [List.flatMap_cons, List.flatMap_nil, List.append_nil]
def edW (w : Nat) (z : Nat × Bool) : Nat × Nat := if z.2 = true then (z.1, w) else (w, z.1)
theorem edgesW_next {t : Tr} {ws : List Nat} {i c : Nat} (hc : ws[i]? = some c) : edgesW t (ws.take (i + 1)) = edgesW t (ws.take i) ++ (pOf t 0 c).map (edW c) := by
  rw [List.take_add_one, hc]
  unfold edgesW
  rw [List.flatMap_append]
  congr 1
  show [c].flatMap _ = _
  rw [List.flatMap_cons, List.flatMap_nil, List.append_nil]
  rfl
theorem edgesW_len (t : Tr) (ws : List Nat) : (edgesW t ws).length ≤ ws.length * t.size := by
  unfold edgesW
  induction ws with
  | nil => exact Nat.zero_le _
  | cons w r ih =>
    rw [List.flatMap_cons, List.length_append, List.length_map, List.length_cons, Nat.succ_mul]
    have := pOf_len t 0 w
    omega
theorem ancW_len (t : Tr) (ws : List Nat) : (ancW t ws).length ≤ ws.length * t.size := by
  unfold ancW
  induction ws with
  | nil => exact Nat.zero_le _
  | cons w r ih =>
    rw [List.flatMap_cons, List.length_append, List.length_map, List.length_cons, Nat.succ_mul]
    have := pOf_len t 0 w
    omega
/-- the dict of the greater nodes, made behind H0 -/
def GrN (H0 H : Hp) (G : Addr) (N : List Nat) (gr : Nat → List Nat) : Prop := ∃ prs : List (Nat × Addr), H G = some (.dK (kvN prs)) ∧ prs.map (·.1) = N ∧ (prs.map (·.2)).Nodup ∧ (∀ p, p ∈ prs → H p.2 = some (.lst ((gr p.1).map natV))) ∧ H0 G = none ∧ ∀ p, p ∈ prs → H0 p.2 = none ∧ p.2 ≠ G
theorem GrN.at {H0 H : Hp} {G : Addr} {N : List Nat} {gr : Nat → List Nat} (h : GrN H0 H G N gr) : GrAt H G N gr := by
  obtain ⟨prs, a, b, c, d, _⟩ := h
  exact ⟨prs, a, b, c, d⟩
theorem kvN_none : ∀ {prs : List (Nat × Addr)} {x : Nat}, x ∉ prs.map (·.1) → valV (kvN prs) (Sum.inl (x : Int)) = none
  | [], _, _ => rfl
  | (y, b) :: r, x, h => by
    have c : ¬ y = x := fun z => h (z ▸ List.mem_cons_self)
    have h2 : x ∉ r.map (·.1) := fun z => h (List.mem_cons_of_mem _ z)
    show valV ((Sum.inl (y : Int), V.ref b) :: kvN r) _ = none
    rw [valV_neg (fun z => c (by have := Sum.inl.inj z; omega))]
    exact kvN_none h2
theorem take_new {N : List Nat} {i c : Nat} (h : N.Pairwise (· ≠ ·)) (hc : N[i]? = some c) : c ∉ N.take i := fun z => by
  obtain ⟨j, hj, e⟩ := List.getElem_of_mem z
  have hi := (List.getElem?_eq_some_iff.mp hc)
  obtain ⟨hi, ei⟩ := hi
  rw [List.length_take] at hj
  rw [List.getElem_take] at e
  exact (List.pairwise_iff_getElem.mp h) j i (by omega) hi (by omega) (e.trans ei.symm)
theorem map_inj {α β : Type} {f : α → β} {l : List α} (h : (l.map f).Nodup) {p q : α} (hp : p ∈ l) (hq : q ∈ l) (e : f p = f q) : p = q := by
  obtain ⟨i, hi, ei⟩ := List.getElem_of_mem hp
  obtain ⟨j, hj, ej⟩ := List.getElem_of_mem hq
  have := (List.pairwise_iff_getElem.mp h)
  by_cases c : i = j
  · subst c
    exact ei.symm.trans ej
  · exfalso
    have lm : (l.map f).length = l.length := List.length_map _
    rcases Nat.lt_or_gt_of_ne c with d | d
    · refine this i j (by omega) (by omega) d ?_
      rw [List.getElem_map, List.getElem_map, ei, ej]
      exact e
    · refine this j i (by omega) (by omega) d ?_
      rw [List.getElem_map, List.getElem_map, ei, ej]
      exact e.symm
/-- one more is put in -/
theorem GrN.app {H0 H : Hp} {G : Addr} {N : List Nat} {gr : Nat → List Nat} (nd : N.Nodup) (h : GrN H0 H G N gr) (s : Same H0 H) {x : Nat} (hx : x ∈ N) : ∃ (a : Addr) (kvs : List (Key × V)), H G = some (.dK kvs) ∧ valV kvs (Sum.inl (x : Int)) = some (.ref a) ∧ H a = some (.lst ((gr x).map natV)) ∧
    ∀ y : Nat, Same H0 (upd H a (.lst ((gr x).map natV ++ [natV y]))) ∧ ∀ gr' : Nat → List Nat, (∀ z, gr' z = if z = x then gr z ++ [y] else gr z) → GrN H0 (upd H a (.lst ((gr x).map natV ++ [natV y]))) G N gr' := by
  obtain ⟨prs, e1, e2, e3, e4, e5, e6⟩ := h
  obtain ⟨a, ha, hv⟩ := kvN_get (prs := prs) (x := x) (by rw [e2]; exact hx)
  refine ⟨a, kvN prs, e1, hv, e4 _ ha, fun y => ⟨fun b o eb => ?_, fun gr' hgr => ⟨prs, ?_, e2, e3, fun p hp => ?_, e5, e6⟩⟩⟩
  · rw [upd_ne (ne_of_none eb (e6 _ ha).1)]
    exact s _ _ eb
  · rw [upd_ne (e6 _ ha).2.symm]
    exact e1
  · by_cases c : p.2 = a
    · obtain rfl : p = (x, a) := map_inj (f := Prod.snd) e3 hp ha c
      rw [show ((x, a) : Nat × Addr).2 = a from rfl, upd_same, hgr, if_pos rfl, List.map_append]
      rfl
    · rw [upd_ne c, e4 p hp, hgr, if_neg]
      intro z
      exact c (congrArg Prod.snd (map_inj (f := Prod.fst) (by show (prs.map (·.1)).Nodup; rw [e2]; exact nd) hp ha z))
theorem nodes_of {t : Tr} {ws : List Nat} {ns : List Int} (h : ns.Pairwise (· < ·)) (mem : ∀ k : Int, k ∈ ns ↔ decide (k ∈ (ws ++ ancW t ws).map Int.ofNat) = true) : ∃ N : List Nat, ns = N.map Int.ofNat ∧ NodesW t ws N := by
  have nn : ∀ k, k ∈ ns → Int.ofNat k.toNat = k := fun k hk => by
    obtain ⟨x, _, e⟩ := List.mem_map.mp (of_decide_eq_true ((mem k).mp hk))
    rw [← e]
    rfl
  have e : ns = (ns.map Int.toNat).map Int.ofNat := by
    rw [List.map_map]
    conv => lhs; rw [← List.map_id ns]
    exact List.map_congr_left fun k hk => (nn k hk).symm
  refine ⟨ns.map Int.toNat, e, ?_, fun x => ?_⟩
  · rw [e, List.pairwise_map] at h
    exact h.imp fun {a b} z => Int.ofNat_lt.mp z
  · constructor
    · intro hx
      obtain ⟨k, hk, rfl⟩ := List.mem_map.mp hx
      obtain ⟨y, hy, e2⟩ := List.mem_map.mp (of_decide_eq_true ((mem k).mp hk))
      rw [← e2]
      exact hy
    · intro hx
      exact List.mem_map.mpr ⟨Int.ofNat x, (mem _).mpr (decide_eq_true (List.mem_map.mpr ⟨x, hx, rfl⟩)), rfl⟩
section
variable {P : Program} {w : World} {K : PySem.W.Frag} {mg : Str → Option Value} {base : Heap}
/-! ### greater_nodes -/
theorem sc_greater_nodes : FnScope n_greater_nodes ["tree", "wished"] (defScope s_greater_nodes) := ⟨rfl, rfl, rfl, by decide +kernel, rfl, by decide +kernel, by decide +kernel⟩
def spGreater : Sp := fun vs H Q _ => ∃ (v : V) (t : Tr) (W : Addr) (ws : List Nat), vs = [v, .ref W] ∧ TrAt H v t ∧ t.size ≤ 30 ∧ H W = some (.lst (ws.map natV)) ∧ ws.length ≤ t.size ∧ (∀ x, x ∈ ws → x < t.size) ∧
  ∀ (H' : Hp) (G : Addr) (N : List Nat), Same H H' → H G = none → NodesW t ws N → GrAt H' G N (grE (edgesW t ws)) → Q (.ref G) H'
theorem ok_greater (B : Bl mg) (Pa : Df P w K mg base "paths_of" 3 ["tree"] spPaths) (a : At K mg "greater_nodes" s_greater_nodes) : Df P w K mg base "greater_nodes" 4 ["tree", "wished"] spGreater := by
  refine Df.mk' a sc_greater_nodes (fun vs H Q E h => ?_) (fun _ _ _ _ _ _ us hl => match us, hl with | [_, _], _ => rfl) (fun f cdv A outer s H vs Q E hr h => ?_)
  · obtain ⟨_, _, _, _, rfl, _⟩ := h
    rfl
  obtain ⟨v, t, W, ws, rfl, ht, hz, eW, lw, lt, q⟩ := h
  have zero : 0 ≤ sizeLine := Nat.zero_le _
  refine ⟨_, (pss_cons (ps_set (i := 2) sc_greater_nodes.nd rfl (.inr rfl) (pe_df Pa hr (pa_cons (pv 0) pa_nil)))
 (pss_cons (ps_set (i := 5) sc_greater_nodes.nd rfl (.inl rfl) (pe_op op_cat (pv 1) (pe_lc2 (own := [("node", 3), ("ancestor", 4), ("_", 8)]) (vs1 := [4, 8]) (g := (gName 3)) (g1 := (gTup K 2 (gCons (gName 4) (gCons (gName 8) gNil)))) (tt := tYes) (tt1 := tYes) (by rfl) sc_greater_nodes.nd (pi_list (pv 1)) (blkOk_by (N := n_greater_nodes) (sc := defScope s_greater_nodes) (by decide +kernel)) (by decide) (fun _ _ _ _ _ => (pg_name (i := 3) sc_greater_nodes.nd rfl (.inl rfl))) (fun _ _ _ _ _ => pts_nil) (fun _ _ _ _ _ => by exact (show PI _ _ _ (iList K _) from pi_list (pe_ix (show IxR _ (rIxL K) from ix_list) (pv 2) (pv 3) (fun _ _ => rfl)))) (fun _ _ _ _ _ => (pg_tup rfl (pgs_cons (pg_name (i := 4) sc_greater_nodes.nd rfl (.inl rfl)) (pgs_cons (pg_name (i := 8) sc_greater_nodes.nd rfl (.inl rfl)) pgs_nil)))) (fun _ _ _ _ _ => pts_nil) (fun _ _ _ _ _ => (pv 4)))))
 (pss_cons (ps_setDc (i := 6) (own := [("node", 3)]) (g := (gName 3)) (tt := tYes) rfl rfl (sw_dict rfl rfl rfl (by decide +kernel)) rfl sc_greater_nodes.nd (pi_list (pe_callB (show CallR _ _ (rSortedSetB w) from cr_sortedSetB rfl) (by rfl) B.sorted (by decide +kernel) (pa_cons (pe_callTy (show CallR _ _ (rSetInts w) from cr_setInts rfl) (by rfl) B.set (by decide +kernel) (pa_cons (pv 5) pa_nil)) pa_nil))) (blkOk_by (N := n_greater_nodes) (sc := defScope s_greater_nodes) (by decide +kernel)) (fun _ _ _ _ _ => (pg_name (i := 3) sc_greater_nodes.nd rfl (.inl rfl))) (fun _ _ _ _ _ => pts_nil) (fun _ _ _ _ _ => (pv 3)) (fun _ _ _ _ _ => (pe_lst pa_nil)))
 (pss_cons (ps_for PassesOwn.never rfl (pi_list (pv 1)) (pg_name (i := 3) sc_greater_nodes.nd rfl (.inl rfl)) (pss_one (ps_for PassesOwn.never rfl (show PI _ _ _ (iList K _) from pi_list (pe_ix (show IxR _ (rIxL K) from ix_list) (pv 2) (pv 3) (fun _ _ => rfl))) (pg_tup rfl (pgs_cons (pg_name (i := 4) sc_greater_nodes.nd rfl (.inl rfl)) (pgs_cons (pg_name (i := 7) sc_greater_nodes.nd rfl (.inl rfl)) pgs_nil))) (pss_one (ps_if (pt_cmpR op_eq (pv 7) pe_str (nomark _)) (pss_one (ps_expr (pe_bm PySem.F.plainAttrs_list PySem.F.slot_list_append PySem.F.type_list_append mt_append (pe_dget (hu_of hr) (pv 6) (pv 3) (fun _ _ => rfl)) (pa_cons (pv 4) pa_nil)))) (pss_one (ps_expr (pe_bm PySem.F.plainAttrs_list PySem.F.slot_list_append PySem.F.type_list_append mt_append (pe_dget (hu_of hr) (pv 6) (pv 4) (fun _ _ => rfl)) (pa_cons (pv 3) pa_nil)))))))))
 (pss_one (ps_ret (pv 6))))))), ?_⟩
  refine ⟨v, rfl, v, t, rfl, ht, by omega, fun H1 Y s1 nY hY => ?_⟩
  obtain ⟨rws, eY, lY, pY⟩ := hY
  have e1 := s1 _ _ eW
  refine ⟨_, rfl, _, rfl, W, rfl, ⟨_, .of e1⟩, fun D hD => ?_⟩
  refine lc2_it (walk_list (K := K) (a := W) (xs := ws.map natV)) (fun i H' => Same H1 H' ∧ H' D = some (.lst ((ancW t (ws.take i)).map natV))) ⟨Same.new hD, upd_same⟩ (fun i H' _ h' => .of (h'.1 _ _ e1)) (fun i x H3 H4 hi h3 hy => ?_) (fun H3 h3 => ?_)
  · obtain ⟨s3, e3⟩ := h3
    obtain ⟨rfl, hx⟩ := hy
    rw [List.getElem?_map] at hx
    obtain ⟨c, hc, rfl⟩ := Option.map_eq_some_iff.mp hx
    have hi : i < ws.length := (List.getElem?_eq_some_iff.mp hc).1
    have cs : c < t.size := lt c (List.mem_of_getElem? hc)
    have hr1 : rws[c]? = some rws[c] := List.getElem?_eq_getElem (by omega)
    obtain ⟨tups, er, pr⟩ := pY c _ hr1
    have et : ancW t (ws.take (i + 1)) = ancW t (ws.take i) ++ (pOf t 0 c).map (·.1) := ancW_next hc
    have la := ancW_len t (ws.take i)
    have lp := pOf_len t 0 c
    have lt2 : (ws.take i).length ≤ 30 := by rw [List.length_take]; omega
    have few : (ws.take i).length * t.size ≤ 30 * 30 := Nat.mul_le_mul lt2 hz
    have lpr := Paired.length pr
    refine ⟨rfl, ?_⟩
    refine yes_lcA ?_
    refine ⟨_, rfl, _, rfl, Y, _, _, _, rfl, rfl, .of (s3 _ _ eY), atI_nat (by rw [List.getElem?_map, hr1]; rfl), ?_⟩
    refine ⟨_, rfl, ⟨_, .of (s3 _ _ er)⟩, ?_⟩
    refine in_it (walk_list (K := K) (a := rws[c]) (xs := tups.map V.ref)) (fun j H' => Same H1 H' ∧ H' D = some (.lst ((ancW t (ws.take i) ++ ((pOf t 0 c).take j).map (·.1)).map natV))) ⟨s3, by rw [List.take_zero, List.map_nil, List.append_nil]; exact e3⟩ (fun j H' _ h' => .of (h'.1 _ _ er)) (fun j x H6 H7 hj h6 hy => ?_) (fun H6 h6 => ?_)
    · obtain ⟨s6, e6⟩ := h6
      obtain ⟨rfl, hx2⟩ := hy
      rw [List.getElem?_map] at hx2
      obtain ⟨T, hT, rfl⟩ := Option.map_eq_some_iff.mp hx2
      obtain ⟨z, hz2, eT⟩ := Paired.getL pr hT
      refine ⟨T, _, rfl, .of (s6 _ _ eT), rfl, _, _, rfl, _, [], rfl, rfl, ?_⟩
      refine ⟨rfl, yes_lcA ?_⟩
      refine ⟨_, rfl, _, e6, ?_, fun b o eb => ?_, ?_⟩
      · rw [List.length_map, List.length_append, List.length_map, List.length_take]
        exact small1000 (by omega)
      · rw [upd_ne (ne_of_none eb hD)]
        exact s6 _ _ eb
      · simp only [upd_same, List.take_add_one, hz2, Option.toList, List.map_append, List.append_assoc, List.map_cons, List.map_nil]
    · obtain ⟨s6, e6⟩ := h6
      rw [List.length_map, lpr, List.take_length, ← et] at e6
      exact ⟨s6, e6⟩
  · obtain ⟨s3, e3⟩ := h3
    rw [List.length_map, List.take_length] at e3
    have la := ancW_len t ws
    have few : ws.length * t.size ≤ 30 * 30 := Nat.mul_le_mul (by omega) hz
    refine ⟨W, D, _, _, rfl, rfl, s3 _ _ e1, e3, ?_, fun C hC => ?_⟩
    · rw [List.length_map, List.length_map]
      exact Nat.le_of_lt (small1000 (n := ws.length + (ancW t ws).length) (by omega))
    have sC := Same.new (o := .lst (ws.map natV ++ (ancW t ws).map natV)) hC
    have eC : (upd H3 C (.lst (ws.map natV ++ (ancW t ws).map natV))) C = some (.lst (((ws ++ ancW t ws).map Int.ofNat).map V.int)) := by
      rw [upd_same, List.map_map, List.map_append]
      rfl
    have s13 := s3.trans sC
    generalize upd H3 C (.lst (ws.map natV ++ (ancW t ws).map natV)) = H4 at eC s13 ⊢
    have fC : H C = none := s1.free (s3.free hC)
    refine ⟨_, rfl, C, _, rfl, eC, ?_, fun p cn hp hcn => ?_⟩
    · rw [List.length_map, List.length_append]
      omega
    rw [List.length_map, List.length_append] at hcn
    refine ⟨p, _, _, rfl, upd_same, by omega, fun ns S hns mem hlen hS => ?_⟩
    have sp := Same.new (o := SetO w p (fun j => decide (j ∈ (ws ++ ancW t ws).map Int.ofNat)) cn) hp
    have sS := Same.new (o := .lst (ns.map V.int)) hS
    obtain ⟨N, rfl, hN⟩ : ∃ N : List Nat, ns = N.map Int.ofNat ∧ NodesW t ws N := nodes_of hns mem
    have eS : (upd (upd H4 p (SetO w p (fun j => decide (j ∈ (ws ++ ancW t ws).map Int.ofNat)) cn)) S (.lst ((N.map Int.ofNat).map V.int))) S = some (.lst (N.map natV)) := by
      rw [upd_same, List.map_map]
      rfl
    have s15 := s13.trans (sp.trans sS)
    rw [List.length_map] at hlen
    generalize upd (upd H4 p (SetO w p (fun j => decide (j ∈ (ws ++ ancW t ws).map Int.ofNat)) cn)) S (.lst ((N.map Int.ofNat).map V.int)) = H5 at eS s15 ⊢
    refine ⟨S, rfl, ⟨_, .of eS⟩, fun G hG => ?_⟩
    have fG : H1 G = none := s15.free hG
    have fG0 : H G = none := s1.free fG
    refine dc_list (K := K) (g := gName 3) (tt := tYes) (tk := tVar 3) (tv := tLst tNil) (vs := [3]) (σ := (List.set (L2.start n_greater_nodes [v, V.ref W]) 2 (some (V.ref Y))).set 5 (some (V.ref C))) (src := S) (items := N.map natV) (fun i G0 => Same H5 G0 ∧ GrN H1 G0 G (N.take i) fun _ => []) ⟨Same.new hG, [], upd_same, rfl, List.nodup_nil, fun _ h => (nomatch h), fG, fun _ h => nomatch h⟩ (fun i G0 _ h => .of (h.1 _ _ eS)) (fun i x G0 hx h => ?_) (fun G0 h => ?_)
    · obtain ⟨s6, g6⟩ := h
      rw [List.getElem?_map] at hx
      obtain ⟨c, hc, rfl⟩ := Option.map_eq_some_iff.mp hx
      refine ⟨rfl, ?_⟩
      refine yes_lcA ?_
      refine ⟨_, rfl, zero, fun L hL => ?_⟩
      obtain ⟨prs, e1', e2', e3', e4', e5', e6'⟩ := g6
      have sL := Same.new (o := .lst []) hL
      have nG : L ≠ G := (ne_of_none e1' hL).symm
      have new : ∀ q, q ∈ prs → q.2 ≠ L := fun q hq z => by
        have := e4' q hq
        rw [z, hL] at this
        cases this
      have lN : prs.length = (N.take i).length := by rw [← e2', List.length_map]
      have out : c ∉ N.take i := take_new (hN.1.imp fun {a b} z => Nat.ne_of_lt z) hc
      refine ⟨kvN prs, Sum.inl (c : Int), rfl, sL _ _ e1', ?_, ?_, ?_⟩
      · have : (N.take i).length ≤ N.length := by rw [List.length_take]; omega
        unfold kvN
        rw [List.length_map]
        exact small1000 (by omega)
      · intro b o eb
        rw [upd_ne (ne_of_none eb hG)]
        exact sL _ _ (s6 _ _ eb)
      · refine ⟨prs ++ [(c, L)], ?_, ?_, ?_, fun q hq => ?_, fG, fun q hq => ?_⟩
        · rw [upd_same, putK_new]
          · unfold kvN
            rw [List.map_append]
            rfl
          · exact kvN_none (by rw [e2']; exact out)
        · rw [List.map_append, e2', List.take_add_one, hc]
          rfl
        · rw [List.map_append]
          refine List.nodup_append.mpr ⟨e3', List.pairwise_singleton _ _, fun a ha b hb z => ?_⟩
          obtain ⟨q, hq, rfl⟩ := List.mem_map.mp ha
          exact new q hq (z.trans (List.mem_singleton.mp hb))
        · rcases List.mem_append.mp hq with hq | hq
          · rw [upd_ne (e6' q hq).2]
            exact sL _ _ (e4' q hq)
          · rw [List.mem_singleton.mp hq, upd_ne nG]
            exact upd_same
        · rcases List.mem_append.mp hq with hq | hq
          · exact e6' q hq
          · rw [List.mem_singleton.mp hq]
            exact ⟨s15.free (s6.free hL), nG⟩
    · obtain ⟨s6, g6⟩ := h
      rw [List.length_map, List.take_length] at g6
      have s16 := s15.trans s6
      clear s6
      refine ⟨_, rfl, W, rfl, ⟨_, .of (s16 _ _ e1)⟩, ?_⟩
      have ndN : N.Nodup := hN.1.imp fun {a b} z => Nat.ne_of_lt z
      refine for_it (walk_list (K := K) (a := W) (xs := ws.map natV)) (fun i σ H' => (∃ y3 y4 y7 y8 : Option V, σ = [some v, some (.ref W), some (.ref Y), y3, y4, some (.ref C), some (.ref G), y7, y8]) ∧ Same H1 H' ∧ GrN H1 H' G N (grE (edgesW t (ws.take i)))) ⟨⟨_, _, _, _, rfl⟩, s16, g6⟩ (fun i σ H' _ h' => .of (h'.2.1 _ _ e1)) (fun i x σ H7 H8 hi h7 hy => ?_) (fun σ H7 h7 => ?_)
      · obtain ⟨⟨y3, y4, y7, y8, rfl⟩, s7, g7⟩ := h7
        obtain ⟨rfl, hx⟩ := hy
        rw [List.getElem?_map] at hx
        obtain ⟨c, hc, rfl⟩ := Option.map_eq_some_iff.mp hx
        have cw : c ∈ ws := List.mem_of_getElem? hc
        have cs : c < t.size := lt c cw
        have hr1 : rws[c]? = some rws[c] := List.getElem?_eq_getElem (by omega)
        obtain ⟨tups, er, pr⟩ := pY c _ hr1
        have et : edgesW t (ws.take (i + 1)) = edgesW t (ws.take i) ++ (pOf t 0 c).map (edW c) := edgesW_next hc
        have le := edgesW_len t (ws.take i)
        have lp := pOf_len t 0 c
        have lt2 : (ws.take i).length ≤ 30 := by rw [List.length_take]; omega
        have few : (ws.take i).length * t.size ≤ 30 * 30 := Nat.mul_le_mul lt2 hz
        have lpr := Paired.length pr
        refine ⟨_, rfl, _, rfl, Y, _, _, _, rfl, rfl, .of (s7 _ _ eY), atI_nat (by rw [List.getElem?_map, hr1]; rfl), ?_⟩
        refine ⟨_, rfl, ⟨_, .of (s7 _ _ er)⟩, ?_⟩
        refine for_it (walk_list (K := K) (a := rws[c]) (xs := tups.map V.ref)) (fun j σ H' => (∃ y4 y7 y8 : Option V, σ = [some v, some (.ref W), some (.ref Y), some (natV c), y4, some (.ref C), some (.ref G), y7, y8]) ∧ Same H1 H' ∧ GrN H1 H' G N (grE (edgesW t (ws.take i) ++ ((pOf t 0 c).take j).map (edW c)))) ⟨⟨_, _, _, rfl⟩, s7, by rw [List.take_zero, List.map_nil, List.append_nil]; exact g7⟩ (fun j σ H' _ h' => .of (h'.2.1 _ _ er)) (fun j x σ H9 H10 hj h9 hy => ?_) (fun σ H9 h9 => ?_)
        · obtain ⟨⟨y4, y7, y8, rfl⟩, s9, g9⟩ := h9
          obtain ⟨rfl, hx2⟩ := hy
          rw [List.getElem?_map] at hx2
          obtain ⟨T, hT, rfl⟩ := Option.map_eq_some_iff.mp hx2
          obtain ⟨z, hz2, eT⟩ := Paired.getL pr hT
          have zin : z ∈ pOf t 0 c := List.mem_of_getElem? hz2
          have zN : z.1 ∈ N := (hN.2 _).mpr (List.mem_append_right _ (List.mem_flatMap.mpr ⟨c, cw, List.mem_map.mpr ⟨z, zin, rfl⟩⟩))
          have cN : c ∈ N := (hN.2 _).mpr (List.mem_append_left _ cw)
          have lj : ((pOf t 0 c).take j).length ≤ t.size := by rw [List.length_take]; omega
          have len : ∀ y, ((grE (edgesW t (ws.take i) ++ ((pOf t 0 c).take j).map (edW c)) y).map natV).length < sizeLine := fun y => by
            have := grE_len (edgesW t (ws.take i) ++ ((pOf t 0 c).take j).map (edW c)) y
            rw [List.length_append, List.length_map] at this
            rw [List.length_map]
            exact small1000 (by omega)
          have e9 : edgesW t (ws.take i) ++ ((pOf t 0 c).take (j + 1)).map (edW c) = (edgesW t (ws.take i) ++ ((pOf t 0 c).take j).map (edW c)) ++ [edW c z] := by
            rw [List.take_add_one, hz2, List.map_append, ← List.append_assoc]
            rfl
          refine ⟨T, _, rfl, .of (s9 _ _ eT), rfl, _, _, rfl, _, [], rfl, rfl, ?_⟩
          obtain ⟨z1, b⟩ := z
          cases b with
          | false =>
            obtain ⟨ad, kvs, k1, k2, k3, k4⟩ := g9.app ndN s9 cN
            obtain ⟨k5, k6⟩ := k4 z1
            refine ⟨_, rfl, rfl, true, rfl, iteT ?_⟩
            refine ⟨_, rfl, _, rfl, G, _, rfl, .inl ⟨kvs, Sum.inl (c : Int), .inl k1, rfl, k2.symm⟩, ?_⟩
            exact ⟨.inl ⟨rfl, _, .of k3⟩, _, rfl, ad, _, _, rfl, rfl, k3, len c, ⟨_, _, _, rfl⟩, k5, k6 _ fun y => by rw [e9]; exact grE_more _ _ _ _⟩
          | true =>
            obtain ⟨ad, kvs, k1, k2, k3, k4⟩ := g9.app ndN s9 zN
            obtain ⟨k5, k6⟩ := k4 c
            refine ⟨_, rfl, rfl, false, rfl, iteF ?_⟩
            refine ⟨_, rfl, _, rfl, G, _, rfl, .inl ⟨kvs, Sum.inl (z1 : Int), .inl k1, rfl, k2.symm⟩, ?_⟩
            exact ⟨.inl ⟨rfl, _, .of k3⟩, _, rfl, ad, _, _, rfl, rfl, k3, len z1, ⟨_, _, _, rfl⟩, k5, k6 _ fun y => by rw [e9]; exact grE_more _ _ _ _⟩
        · obtain ⟨⟨y4, y7, y8, rfl⟩, s9, g9⟩ := h9
          rw [List.length_map, lpr, List.take_length, ← et] at g9
          exact ⟨⟨_, _, _, _, rfl⟩, s9, g9⟩
      · obtain ⟨⟨y3, y4, y7, y8, rfl⟩, s7, g7⟩ := h7
        rw [List.length_map, List.take_length] at g7
        exact ⟨_, rfl, q _ _ N (s1.trans s7) fG0 hN g7.at⟩
end
end HSP
namespace HSP
open PySem PySem.Spec PyProof.Rows L2
/-! ## distances -/
def kvI (ks : List (Nat × Nat)) : List (Key × V) := ks.map fun p => (Sum.inl (p.1 : Int), natV p.2)
/-- the entries of a row: each node that is led to with its number -/
def RowK (kvs : List (Key × V)) (f : Nat → Nat) : Prop := ∃ ks : List (Nat × Nat), kvs = kvI ks ∧ (ks.map (·.1)).Nodup ∧ ∀ b v, (b, v) ∈ ks ↔ v ≠ 0 ∧ f b = v
theorem RowK.nil : RowK [] fun _ => 0 := ⟨[], rfl, List.nodup_nil, fun _ _ => ⟨fun h => (nomatch h), fun h => absurd h.2.symm h.1⟩⟩
theorem kvI_get : ∀ {ks : List (Nat × Nat)} {b v : Nat}, (ks.map (·.1)).Nodup → (b, v) ∈ ks → valV (kvI ks) (Sum.inl (b : Int)) = some (natV v)
  | [], _, _, _, h => nomatch h
  | (x, y) :: r, b, v, nd, h => by
    rw [List.map_cons, List.nodup_cons] at nd
    show valV ((Sum.inl (x : Int), natV y) :: kvI r) _ = _
    by_cases c : x = b
    · subst c
      rw [valV_pos rfl]
      rcases List.mem_cons.mp h with e | e
      · cases e
        rfl
      · exact absurd (List.mem_map.mpr ⟨(x, v), e, rfl⟩) nd.1
    · rw [valV_neg (fun z => c (by have := Sum.inl.inj z; omega))]
      rcases List.mem_cons.mp h with e | e
      · cases e
        exact absurd rfl c
      · exact kvI_get nd.2 e
theorem kvI_none : ∀ {ks : List (Nat × Nat)} {b : Nat}, b ∉ ks.map (·.1) → valV (kvI ks) (Sum.inl (b : Int)) = none
  | [], _, _ => rfl
  | (y, v) :: r, x, h => by
    have c : ¬ y = x := fun z => h (z ▸ List.mem_cons_self)
    show valV ((Sum.inl (y : Int), natV v) :: kvI r) _ = none
    rw [valV_neg (fun z => c (by have := Sum.inl.inj z; omega))]
    exact kvI_none fun z => h (List.mem_cons_of_mem _ z)
theorem RowK.get {kvs : List (Key × V)} {f : Nat → Nat} (h : RowK kvs f) (b : Nat) : valV kvs (Sum.inl (b : Int)) = if f b = 0 then none else some (natV (f b)) := by
  obtain ⟨ks, rfl, nd, mem⟩ := h
  by_cases c : f b = 0
  · rw [if_pos c]
    refine kvI_none fun z => ?_
    obtain ⟨⟨b', v⟩, hp, rfl⟩ := List.mem_map.mp z
    have := (mem b' v).mp hp
    have c : f b' = 0 := c
    omega
  · rw [if_neg c]
    exact kvI_get nd ((mem b (f b)).mpr ⟨c, rfl⟩)
theorem RowK.getD {kvs : List (Key × V)} {f : Nat → Nat} (h : RowK kvs f) (b : Nat) : (valV kvs (Sum.inl (b : Int))).getD (V.int 0) = natV (f b) := by
  rw [h.get]
  split
  · rename_i c
    rw [c]
    rfl
  · rfl
theorem RowK.put {kvs : List (Key × V)} {f : Nat → Nat} (h : RowK kvs f) (b v : Nat) (hv : v ≠ 0) : RowK (putK kvs (Sum.inl (b : Int)) (natV v)) fun x => if x = b then v else f x := by
  have g := h.get b
  obtain ⟨ks, rfl, nd, mem⟩ := h
  by_cases c : f b = 0
  · rw [if_pos c] at g
    have nb : b ∉ ks.map (·.1) := fun z => by
      obtain ⟨⟨b', w⟩, hp, e⟩ := List.mem_map.mp z
      have e : b' = b := e
      subst e
      have := (mem b' w).mp hp
      omega
    refine ⟨ks ++ [(b, v)], ?_, ?_, fun x y => ?_⟩
    · rw [putK_new _ g]
      unfold kvI
      rw [List.map_append]
      rfl
    · rw [List.map_append]
      exact List.nodup_append.mpr ⟨nd, List.pairwise_singleton _ _, fun a ha d hd z => nb (by have hd : d = b := List.mem_singleton.mp hd; rw [← hd, ← z]; exact ha)⟩
    · show _ ↔ y ≠ 0 ∧ (if x = b then v else f x) = y
      by_cases e : x = b
      · subst e
        rw [if_pos rfl, List.mem_append, List.mem_singleton]
        constructor
        · rintro (z | z)
          · exact absurd (List.mem_map.mpr ⟨_, z, rfl⟩) nb
          · cases z
            exact ⟨hv, rfl⟩
        · rintro ⟨_, rfl⟩
          exact .inr rfl
      · rw [if_neg e, List.mem_append, List.mem_singleton, mem]
        constructor
        · rintro (z | z)
          · exact z
          · cases z
            exact absurd rfl e
        · exact .inl
  · refine ⟨ks.map fun p => if p.1 = b then (b, v) else p, ?_, ?_, fun x y => ?_⟩
    · unfold putK
      have a : ((kvI ks).any fun kv => decide (kv.1 = Sum.inl (b : Int))) = true := by
        rw [valV_any, g, if_neg c]
        rfl
      rw [if_pos a]
      unfold kvI
      rw [List.map_map, List.map_map]
      refine List.map_congr_left fun p _ => ?_
      show (if (Sum.inl (p.1 : Int) : Key) = Sum.inl (b : Int) then (Sum.inl (p.1 : Int), natV v) else (Sum.inl (p.1 : Int), natV p.2)) = (Sum.inl (((if p.1 = b then (b, v) else p).1 : Nat) : Int), natV (if p.1 = b then (b, v) else p).2)
      by_cases e : p.1 = b
      · rw [if_pos (by rw [e]), if_pos e, e]
      · rw [if_neg (fun z => e (by have := Sum.inl.inj z; omega)), if_neg e]
    · rw [List.map_map]
      have e : ks.map ((·.1) ∘ fun p : Nat × Nat => if p.1 = b then (b, v) else p) = ks.map (·.1) := List.map_congr_left fun p _ => by
        show (if p.1 = b then (b, v) else p).1 = p.1
        by_cases e : p.1 = b
        · rw [if_pos e, e]
        · rw [if_neg e]
      rw [e]
      exact nd
    · show _ ↔ y ≠ 0 ∧ (if x = b then v else f x) = y
      rw [List.mem_map]
      by_cases e : x = b
      · subst e
        rw [if_pos rfl]
        constructor
        · rintro ⟨p, hp, z⟩
          split at z
          · cases z
            exact ⟨hv, rfl⟩
          · rename_i c2
            cases z
            exact absurd rfl c2
        · rintro ⟨_, rfl⟩
          exact ⟨(x, f x), (mem _ _).mpr ⟨c, rfl⟩, if_pos rfl⟩
      · rw [if_neg e, ← mem]
        constructor
        · rintro ⟨p, hp, z⟩
          split at z
          · cases z
            exact absurd rfl e
          · rw [← z]
            exact hp
        · intro hp
          exact ⟨(x, y), hp, if_neg e⟩
theorem few_below : ∀ (n : Nat) {l : List Nat}, l.Nodup → (∀ x, x ∈ l → x < n) → l.length ≤ n
  | 0, [], _, _ => Nat.le_refl _
  | 0, a :: _, _, h => absurd (h a List.mem_cons_self) (Nat.not_lt_zero _)
  | n + 1, l, nd, h => by
    have h1 := few_below n (nd.erase n) fun x hx => by
      obtain ⟨h2, h3⟩ := nd.mem_erase_iff.mp hx
      have := h x h3
      omega
    rw [List.length_erase] at h1
    split at h1 <;> omega
theorem RowK.len {kvs : List (Key × V)} {f : Nat → Nat} {n : Nat} (h : RowK kvs f) (lt : ∀ b, f b ≠ 0 → b < n) : kvs.length ≤ n := by
  obtain ⟨ks, rfl, nd, mem⟩ := h
  have := few_below n (l := ks.map (·.1)) nd fun b hb => by
    obtain ⟨⟨b', v⟩, hp, rfl⟩ := List.mem_map.mp hb
    have := (mem b' v).mp hp
    exact lt b' (by rw [this.2]; exact this.1)
  rw [List.length_map] at this
  unfold kvI
  rw [List.length_map]
  exact this
theorem RowK.put1 {kvs : List (Key × V)} {f : Nat → Nat} (h : RowK kvs f) (m : Nat) : RowK (putK kvs (Sum.inl (m : Int)) (V.int (if (1 : Int) > (f m : Int) then 1 else (f m : Int)))) (put1 f m) := by
  have e1 : V.int (if (1 : Int) > (f m : Int) then 1 else (f m : Int)) = natV (max (f m) 1) := by
    show V.int _ = V.int _
    congr 1
    split <;> omega
  have e2 : HSP.put1 f m = fun x => if x = m then max (f m) 1 else f x := by
    funext x
    unfold HSP.put1
    by_cases c : x = m
    · rw [if_pos c, if_pos c, c]
    · rw [if_neg c, if_neg c]
  rw [e1, e2]
  exact h.put m _ (by omega)
theorem RowK.putR {kvs : List (Key × V)} {f g : Nat → Nat} {ks : List (Nat × Nat)} (nd : (ks.map (·.1)).Nodup) {k b v : Nat} (hk : ks[k]? = some (b, v)) (hv : v ≠ 0) (hg : g b = v) (h : RowK kvs (putR f g fun x => decide (x ∈ (ks.take k).map (·.1)))) :
    RowK (putK kvs (Sum.inl (b : Int)) (V.int (if 1 + (v : Int) > (HSP.putR f g (fun x => decide (x ∈ (ks.take k).map (·.1))) b : Int) then 1 + (v : Int) else (HSP.putR f g (fun x => decide (x ∈ (ks.take k).map (·.1))) b : Int)))) (HSP.putR f g fun x => decide (x ∈ (ks.take (k + 1)).map (·.1))) := by
  have out : b ∉ (ks.take k).map (·.1) := by
    rw [List.map_take]
    exact take_new nd (by rw [List.getElem?_map, hk]; rfl)
  have fb : HSP.putR f g (fun x => decide (x ∈ (ks.take k).map (·.1))) b = f b := by
    unfold HSP.putR
    rw [if_neg]
    rintro ⟨_, z⟩
    exact out (of_decide_eq_true z)
  rw [fb]
  have e1 : V.int (if 1 + (v : Int) > (f b : Int) then 1 + (v : Int) else (f b : Int)) = natV (max (f b) (1 + v)) := by
    show V.int _ = V.int _
    congr 1
    split <;> omega
  have e2 : HSP.putR f g (fun x => decide (x ∈ (ks.take (k + 1)).map (·.1))) = fun x => if x = b then max (f b) (1 + v) else HSP.putR f g (fun x => decide (x ∈ (ks.take k).map (·.1))) x := by
    funext x
    have mem : x ∈ (ks.take (k + 1)).map (·.1) ↔ x ∈ (ks.take k).map (·.1) ∨ x = b := by
      rw [List.take_add_one, hk, List.map_append, List.mem_append]
      show _ ∨ x ∈ [b] ↔ _
      rw [List.mem_singleton]
    by_cases c : x = b
    · subst c
      rw [if_pos rfl]
      unfold HSP.putR
      rw [if_pos ⟨by omega, decide_eq_true (mem.mpr (.inr rfl))⟩, hg]
    · rw [if_neg c]
      unfold HSP.putR
      have e : decide (x ∈ (ks.take (k + 1)).map (·.1)) = decide (x ∈ (ks.take k).map (·.1)) := by
        by_cases d : x ∈ (ks.take k).map (·.1)
        · rw [decide_eq_true d, decide_eq_true (mem.mpr (.inl d))]
        · rw [decide_eq_false d, decide_eq_false fun z => (mem.mp z).elim d c]
      show (if g x ≠ 0 ∧ decide (x ∈ (ks.take (k + 1)).map (·.1)) = true then _ else _) = _
      simp only [e]
  rw [e1, e2]
  exact h.put b _ (by omega)
theorem putR_none (f g : Nat → Nat) : putR f g (fun x => decide (x ∈ ([] : List Nat))) = f := by
  funext x
  unfold putR
  rw [if_neg]
  rintro ⟨_, z⟩
  cases of_decide_eq_true z
theorem putR_full {f g : Nat → Nat} {l : List Nat} (h : ∀ x, g x ≠ 0 → x ∈ l) : putR f g (fun x => decide (x ∈ l)) = putR f g fun _ => true := by
  funext x
  unfold putR
  by_cases c : g x = 0
  · rw [if_neg fun z => z.1 c, if_neg fun z => z.1 c]
  · rw [if_pos ⟨c, decide_eq_true (h x c)⟩, if_pos ⟨c, rfl⟩]
theorem nodes_few {t : Tr} {ws N : List Nat} (h : NodesW t ws N) (lt : ∀ x, x ∈ ws → x < t.size) : N.length ≤ t.size :=
  few_below t.size (h.1.imp fun {a b} z => Nat.ne_of_lt z) fun x hx => by
    rcases List.mem_append.mp ((h.2 x).mp hx) with z | z
    · exact lt x z
    · exact anc_in z
theorem down_done {N : List Nat} (h : N.Pairwise (· < ·)) {i c m : Nat} (hc : N.reverse[i]? = some c) (hm : m ∈ N) (lt : c < m) : m ∈ N.reverse.take i := by
  obtain ⟨j, hj, e⟩ := List.getElem_of_mem (List.mem_reverse.mpr hm)
  obtain ⟨hi, ei⟩ := List.getElem?_eq_some_iff.mp hc
  have hd : N.reverse.Pairwise (· > ·) := List.pairwise_reverse.mpr (h.imp fun {a b} z => z)
  have ji : j < i := by
    rcases Nat.lt_trichotomy j i with z | z | z
    · exact z
    · subst z
      omega
    · have := (List.pairwise_iff_getElem.mp hd) i j hi hj z
      omega
  have e2 : (N.reverse.take i)[j]? = some m := by
    rw [List.getElem?_take_of_lt ji, List.getElem?_eq_getElem hj, e]
  exact List.mem_of_getElem? e2
theorem pth_end {t : Tr} {ws : List Nat} (lt : ∀ x, x ∈ ws → x < t.size) {a b k : Nat} (p : Pth (EdW t ws) a b k) : b < t.size := by
  induction p with
  | one e =>
    rcases List.mem_append.mp (edge_in e).2 with z | z
    · exact lt _ z
    · exact anc_in z
  | cons _ _ ih => exact ih
theorem putR_le (f g : Nat → Nat) (p : Nat → Bool) (b : Nat) : putR f g p b ≤ putR f g (fun _ => true) b := by
  unfold putR
  by_cases c : g b ≠ 0 ∧ p b = true
  · rw [if_pos c, if_pos ⟨c.1, rfl⟩]
    exact Nat.le_refl _
  · rw [if_neg c]
    by_cases d : g b = 0
    · rw [if_neg fun z => z.1 d]
      exact Nat.le_refl _
    · rw [if_pos ⟨d, rfl⟩]
      exact Nat.le_max_left _ _
/-- sorted downwards -/
theorem down_eq : ∀ {xs ys : List Int}, xs.Perm ys → xs.Pairwise (· ≥ ·) → ys.Pairwise (· > ·) → xs = ys := fun {xs ys} p h1 h2 =>
  List.Perm.eq_of_pairwise (fun a b _ _ h1 h2 => Int.le_antisymm h2 h1) h1 (h2.imp fun {a b} z => Int.le_of_lt z) p
/-- the distances: a dict of rows that stay -/
def FarAt (H : Hp) (F : Addr) (M : List Nat) (D : Nat → Nat → Nat) : Prop := ∃ prs : List (Nat × Addr), H F = some (.dK (kvN prs)) ∧ prs.map (·.1) = M ∧ ∀ p, p ∈ prs → ∃ o kvs, H p.2 = some (.frz o (.dK kvs)) ∧ RowK kvs (D p.1)
section
variable {P : Program} {w : World} {K : PySem.W.Frag} {mg : Str → Option Value} {base : Heap}
theorem sc_distances : FnScope n_distances ["tree", "wished"] (defScope s_distances) := ⟨rfl, rfl, rfl, by decide +kernel, rfl, by decide +kernel, by decide +kernel⟩
def spDist : Sp := fun vs H Q _ => ∃ (v : V) (t : Tr) (W : Addr) (ws : List Nat), vs = [v, .ref W] ∧ TrAt H v t ∧ t.size ≤ 30 ∧ H W = some (.lst (ws.map natV)) ∧ ws.length ≤ t.size ∧ (∀ x, x ∈ ws → x < t.size) ∧
  ∀ (H' : Hp) (F : Addr) (N : List Nat) (D : Nat → Nat → Nat), Same H H' → H F = none → NodesW t ws N → AllL (EdW t ws) D → FarAt H' F N.reverse D → Q (.ref F) H'
theorem ok_dist (B : Bl mg) (Gr : Df P w K mg base "greater_nodes" 4 ["tree", "wished"] spGreater) (a : At K mg "distances" s_distances) : Df P w K mg base "distances" 5 ["tree", "wished"] spDist := by
  refine Df.mk' a sc_distances (fun vs H Q E h => ?_) (fun _ _ _ _ _ _ us hl => match us, hl with | [_, _], _ => rfl) (fun f cdv A outer s H vs Q E hr h => ?_)
  · obtain ⟨_, _, _, _, rfl, _⟩ := h
    rfl
  obtain ⟨v, t, W, ws, rfl, ht, hz, eW, lw, lt, q⟩ := h
  have zero : 0 ≤ sizeLine := Nat.zero_le _
  refine ⟨_, (pss_cons (ps_set (i := 2) sc_distances.nd rfl (.inl rfl) (pe_df Gr hr (pa_cons (pv 0) (pa_cons (pv 1) pa_nil))))
 (pss_cons (ps_set (i := 3) sc_distances.nd rfl (.inl rfl) pe_dnewK)
 (pss_cons (ps_for PassesOwn.never rfl (pi_list (pe_callBK (show CallRK _ _ _ rSortedDR from cr_sortedDR rfl) (by rfl) B.sorted (by decide +kernel) (pa_cons (pv 2) pa_nil) (pk_cons pe_bl pk_nil))) (pg_name (i := 4) sc_distances.nd rfl (.inl rfl)) (pss_cons (ps_set (i := 5) sc_distances.nd rfl (.inl rfl) pe_dnewK)
 (pss_cons (ps_for PassesOwn.never rfl (pi_list (pe_dget (hu_of hr) (pv 2) (pv 4) (fun _ _ => rfl))) (pg_name (i := 6) sc_distances.nd rfl (.inl rfl)) (pss_cons (ps_dput (hu_of hr) (pv 5) (pv 6) (pe_callB (call_max2 rfl) (by rfl) B.max (by decide +kernel) (pa_cons (pe_dget2 (hu_of hr) (pv 5) (pv 6) pe_int ⟨rfl, rfl, rfl, rfl⟩) (pa_cons pe_int pa_nil))) (by rfl))
 (pss_one (ps_for PassesOwn.never rfl (pi_items (pe_dget (hu_of hr) (pv 3) (pv 6) (fun _ _ => rfl))) (pg_tup rfl (pgs_cons (pg_name (i := 7) sc_distances.nd rfl (.inl rfl)) (pgs_cons (pg_name (i := 8) sc_distances.nd rfl (.inl rfl)) pgs_nil))) (pss_one (ps_dput (hu_of hr) (pv 5) (pv 7) (pe_callB (call_max2 rfl) (by rfl) B.max (by decide +kernel) (pa_cons (pe_dget2 (hu_of hr) (pv 5) (pv 7) pe_int ⟨rfl, rfl, rfl, rfl⟩) (pa_cons (pe_op op_add pe_int (pv 8)) pa_nil))) (by rfl)))))))
 (pss_one (ps_dput (hu_of hr) (pv 3) (pv 4) (pe_lockD (pv 5)) (by rfl))))))
 (pss_one (ps_ret (pv 3)))))), ?_⟩
  refine ⟨_, rfl, _, rfl, v, t, W, ws, rfl, ht, hz, eW, lw, lt, fun H1 G N s1 nG hN gG => ?_⟩
  obtain ⟨prs, eG, kG, ndA, lG⟩ := gG
  refine fun F hF => ?_
  have sF := Same.new (o := .dK []) hF
  have fF : H F = none := s1.free hF
  have lN : N.length ≤ t.size := nodes_few hN lt
  have lprs : prs.length = N.length := by rw [← kG, List.length_map]
  refine ⟨_, rfl, G, kvN prs, N.map Int.ofNat, rfl, rfl, .of (sF _ _ eG), ?_, ?_, fun ys S perm desc hS => ?_⟩
  · rw [← kG]
    unfold kvN
    rw [List.map_map, List.map_map, List.map_map]
    rfl
  · rw [List.length_map]
    omega
  have ndN : N.Nodup := hN.1.imp fun {a b} z => Nat.ne_of_lt z
  obtain rfl : ys = N.reverse.map Int.ofNat := down_eq (perm.trans ((List.reverse_perm N).symm.map _)) desc (by
    rw [List.pairwise_map, List.pairwise_reverse]
    exact hN.1.imp fun {a b} z => Int.ofNat_lt.mpr z)
  have eS : (upd (upd H1 F (.dK [])) S (.lst ((N.reverse.map Int.ofNat).map V.int))) S = some (.lst (N.reverse.map natV)) := by
    rw [upd_same, List.map_map]
    rfl
  have eF : (upd (upd H1 F (.dK [])) S (.lst ((N.reverse.map Int.ofNat).map V.int))) F = some (.dK []) := Same.new hS _ _ upd_same
  have s2 := sF.trans (Same.new (o := .lst ((N.reverse.map Int.ofNat).map V.int)) hS)
  generalize upd (upd H1 F (.dK [])) S (.lst ((N.reverse.map Int.ofNat).map V.int)) = H2 at eS eF s2 ⊢
  refine ⟨S, rfl, ⟨_, .of eS⟩, ?_⟩
  refine for_it (walk_list (K := K) (a := S) (xs := N.reverse.map natV)) (fun i σ H' => (∃ y4 y5 y6 y7 y8 : Option V, σ = [some v, some (.ref W), some (.ref G), some (.ref F), y4, y5, y6, y7, y8]) ∧ Same H1 H' ∧ H' S = some (.lst (N.reverse.map natV)) ∧ ∃ D, FarAt H' F (N.reverse.take i) D ∧ ∀ a, a ∈ N.reverse.take i → RowL (EdW t ws) a (D a)) ⟨⟨_, _, _, _, _, rfl⟩, s2, eS, fun _ _ => 0, ⟨[], eF, rfl, fun _ h => (nomatch h)⟩, fun _ h => nomatch h⟩ (fun i σ H' _ h' => .of h'.2.2.1) (fun i x σ H3 H4 hi h3 hy => ?_) (fun σ H3 h3 => ?_)
  · obtain ⟨⟨y4, y5, y6, y7, y8, rfl⟩, s3, e3, D, ⟨qrs, eq3, kq, rq⟩, rowD⟩ := h3
    obtain ⟨rfl, hx⟩ := hy
    rw [List.getElem?_map] at hx
    obtain ⟨c, hc, rfl⟩ := Option.map_eq_some_iff.mp hx
    have cN : c ∈ N := List.mem_reverse.mp (List.mem_of_getElem? hc)
    have cout : c ∉ N.reverse.take i := take_new (List.pairwise_reverse.mpr (ndN.imp fun {a b} z => Ne.symm z)) hc
    obtain ⟨ag, hag, vag⟩ := kvN_get (prs := prs) (x := c) (by rw [kG]; exact cN)
    have eag := s3 _ _ (lG _ hag)
    have eG3 := s3 _ _ eG
    have later : ∀ m, EdW t ws c m → m ∈ N.reverse.take i := fun m hm => down_done hN.1 hc ((hN.2 m).mpr (edge_in hm).2) (edge_up lt _ _ hm)
    refine fun St hSt => ?_
    have sSt := Same.new (o := .dK []) hSt
    refine ⟨_, rfl, _, rfl, G, _, rfl, .inl ⟨kvN prs, Sum.inl (c : Int), .inl (sSt _ _ eG3), rfl, vag.symm⟩, ?_⟩
    refine ⟨ag, rfl, ⟨_, .of (sSt _ _ eag)⟩, ?_⟩
    have eSt : (upd H4 St (.dK [])) St = some (.dK []) := upd_same
    generalize upd H4 St (.dK []) = H5 at sSt eSt ⊢
    refine for_it (walk_list (K := K) (a := ag) (xs := (grE (edgesW t ws) c).map natV)) (fun j σ H' => (∃ y6 y7 y8 : Option V, σ = [some v, some (.ref W), some (.ref G), some (.ref F), some (natV c), some (.ref St), y6, y7, y8]) ∧ Same H4 H' ∧ ∃ kvs f, H' St = some (.dK kvs) ∧ RowK kvs f ∧ RowS (EdW t ws) c f ((grE (edgesW t ws) c).take j)) ⟨⟨_, _, _, rfl⟩, sSt, [], fun _ => 0, eSt, .nil, RowS.nil _ _⟩ (fun j σ H' _ h' => .of (h'.2.1 _ _ eag)) (fun j x σ H6 H7 hj h6 hy => ?_) (fun σ H6 h6 => ?_)
    · obtain ⟨⟨y6, y7, y8, rfl⟩, s6, kvs, f1, e6, r6, w6⟩ := h6
      obtain ⟨rfl, hx2⟩ := hy
      rw [List.getElem?_map] at hx2
      obtain ⟨m, hm, rfl⟩ := Option.map_eq_some_iff.mp hx2
      have em : EdW t ws c m := grE_mem.mp (List.mem_of_getElem? hm)
      have mdone := later m em
      obtain ⟨am, ham, vam⟩ := kvN_get (prs := qrs) (x := m) (by rw [kq]; exact mdone)
      obtain ⟨om, kvm, eam, rm⟩ := rq _ ham
      have gm := rowD m mdone
      obtain ⟨ks, rfl, ndk, memk⟩ := rm
      have small : ∀ b, f1 b ≠ 0 → b < t.size := fun b hb => by
        exact pth_end lt (w6.1 b hb)
      have lk : kvs.length ≤ t.size := r6.len small
      refine ⟨_, rfl, St, rfl, .inl ⟨_, .inl e6⟩, _, rfl, _, .inl ⟨kvs, Sum.inl (m : Int), .inl e6, rfl, rfl⟩, (f1 m : Int), 1, ?_, ?_⟩
      · rw [r6.getD]
        rfl
      refine ⟨_, rfl, _, rfl, St, _, rfl, DPut.k (k := Sum.inl (m : Int)) e6 (small1000 (by omega)), ?_⟩
      have stay : ∀ {H' : Hp} {u : HO}, Same H4 H' → Same H4 (upd H' St u) := fun {H' u} s b o eb => by
        rw [upd_ne (ne_of_none eb hSt)]
        exact s _ _ eb
      have s7 := stay (u := .dK (putK kvs (Sum.inl (m : Int)) (V.int (if (1 : Int) > (f1 m : Int) then 1 else (f1 m : Int))))) s6
      have e7 : (upd H7 St (.dK (putK kvs (Sum.inl (m : Int)) (V.int (if (1 : Int) > (f1 m : Int) then 1 else (f1 m : Int)))))) St = some (.dK (putK kvs (Sum.inl (m : Int)) (V.int (if (1 : Int) > (f1 m : Int) then 1 else (f1 m : Int))))) := upd_same
      have r7 := r6.put1 m
      generalize upd H7 St (.dK (putK kvs (Sum.inl (m : Int)) (V.int (if (1 : Int) > (f1 m : Int) then 1 else (f1 m : Int))))) = H8 at s7 e7 ⊢
      generalize putK kvs (Sum.inl (m : Int)) (V.int (if (1 : Int) > (f1 m : Int) then 1 else (f1 m : Int))) = kvs7 at e7 r7
      have more := w6.more em gm
      refine ⟨_, rfl, _, rfl, F, _, rfl, .inl ⟨kvN qrs, Sum.inl (m : Int), .inl (s7 _ _ eq3), rfl, vam.symm⟩, ?_⟩
      refine ⟨am, om, kvI ks, rfl, s7 _ _ eam, ?_⟩
      have lks : ∀ b, putR (put1 f1 m) (D m) (fun _ => true) b ≠ 0 → b < t.size := fun b hb => pth_end lt (more.1 b hb)
      refine for_it (walk_items (d := am) (o := om) (kvs := kvI ks)) (fun k σ H' => (∃ y7 y8 : Option V, σ = [some v, some (.ref W), some (.ref G), some (.ref F), some (natV c), some (.ref St), some (natV m), y7, y8]) ∧ Same H4 H' ∧ ∃ kvs, H' St = some (.dK kvs) ∧ RowK kvs (putR (put1 f1 m) (D m) fun x => decide (x ∈ (ks.take k).map (·.1)))) ⟨⟨_, _, rfl⟩, s7, kvs7, e7, by rw [show (fun x => decide (x ∈ (ks.take 0).map (·.1))) = fun x => decide (x ∈ ([] : List Nat)) from rfl, putR_none]; exact r7⟩ (fun k σ H' _ h' => h'.2.1 _ _ eam) (fun k x σ H9 H10 hk h9 hy => ?_) (fun σ H9 h9 => ?_)
      · obtain ⟨⟨y7, y8, rfl⟩, s9, kvs9, e9, r9⟩ := h9
        obtain ⟨T, x1, x2, rfl, nT, rfl, g1, g2⟩ := hy
        rw [show (kvI ks).length = ks.length from List.length_map _] at hk
        obtain ⟨⟨b, vb⟩, hb⟩ : ∃ z, ks[k]? = some z := ⟨_, List.getElem?_eq_getElem hk⟩
        have hkv : (kvI ks)[k]? = some (Sum.inl (b : Int), natV vb) := by
          unfold kvI
          rw [List.getElem?_map, hb]
          rfl
        have g1 : ((kvI ks)[k]?.map fun kv => kV kv.1) = some x1 := g1
        have g2 : (kvI ks)[k]?.map Prod.snd = some x2 := g2
        rw [hkv] at g1 g2
        cases g1
        cases g2
        have mb := (memk b vb).mp (List.mem_of_getElem? hb)
        have sT := Same.new (o := .tup [natV b, natV vb]) nT
        have nSt : T ≠ St := (ne_of_none e9 nT).symm
        have e10 := sT _ _ e9
        have s10 := s9.trans sT
        refine ⟨T, _, rfl, .of upd_same, rfl, _, _, rfl, _, [], rfl, rfl, ?_⟩
        have l9 : kvs9.length ≤ t.size := r9.len fun b hb => lks b (by
          intro z
          apply hb
          have := putR_le (put1 f1 m) (D m) (fun x => decide (x ∈ (ks.take k).map (·.1))) b
          omega)
        refine ⟨_, rfl, St, rfl, .inl ⟨_, .inl e10⟩, _, rfl, _, .inl ⟨kvs9, Sum.inl (b : Int), .inl e10, rfl, rfl⟩, _, rfl, 1, (vb : Int), rfl, rfl, ((putR (put1 f1 m) (D m) (fun x => decide (x ∈ (ks.take k).map (·.1))) b : Nat) : Int), 1 + (vb : Int), ?_, ?_⟩
        · exact congrArg (fun z => [z, V.int (1 + (vb : Int))]) (r9.getD b)
        refine ⟨_, rfl, _, rfl, St, _, rfl, DPut.k (k := Sum.inl (b : Int)) e10 (small1000 (by omega)), ⟨_, _, rfl⟩, stay s10, _, upd_same, r9.putR ndk hb mb.1 mb.2⟩
      · obtain ⟨⟨y7, y8, rfl⟩, s9, kvs9, e9, r9⟩ := h9
        rw [show (kvI ks).length = ks.length from List.length_map _, List.take_length, putR_full fun x hx => List.mem_map.mpr ⟨(x, D m x), (memk _ _).mpr ⟨hx, rfl⟩, rfl⟩] at r9
        refine ⟨⟨_, _, _, rfl⟩, s9, kvs9, _, e9, r9, ?_⟩
        rw [List.take_add_one, hm]
        exact more
    · obtain ⟨⟨y6, y7, y8, rfl⟩, s6, kvs, f1, e6, r6, w6⟩ := h6
      rw [List.length_map, List.take_length] at w6
      have row := w6.row fun m em => grE_mem.mpr em
      refine ⟨_, rfl, St, kvs, rfl, e6, fun o => ?_⟩
      have stF : St ≠ F := (ne_of_none eq3 hSt).symm
      have s7 : Same H4 (upd H6 St (.frz o (.dK kvs))) := fun b u eb => by
        rw [upd_ne (ne_of_none eb hSt)]
        exact s6 _ _ eb
      have e7 : (upd H6 St (.frz o (.dK kvs))) St = some (.frz o (.dK kvs)) := upd_same
      generalize upd H6 St (.frz o (.dK kvs)) = H7 at s7 e7 ⊢
      have fSt : H1 St = none := s3.free hSt
      have lq : (kvN qrs).length < sizeLine := by
        have l1 : qrs.length = (N.reverse.take i).length := by rw [← kq, List.length_map]
        have l2 : (N.reverse.take i).length ≤ N.length := by rw [List.length_take, List.length_reverse]; omega
        unfold kvN
        rw [List.length_map]
        exact small1000 (by omega)
      refine ⟨_, rfl, _, rfl, F, _, rfl, DPut.k (k := Sum.inl (c : Int)) (s7 _ _ eq3) lq, ⟨_, _, _, _, _, rfl⟩, fun b u eb => ?_, ?_, fun x => if x = c then f1 else D x, ⟨qrs ++ [(c, St)], ?_, ?_, fun p hp => ?_⟩, fun x hx => ?_⟩
      · rw [upd_ne (ne_of_none eb hF)]
        exact s7 _ _ (s3 _ _ eb)
      · rw [upd_ne (fun z => by rw [z, eq3] at e3; cases e3)]
        exact s7 _ _ e3
      · rw [upd_same, putK_new _ (kvN_none (by rw [kq]; exact cout))]
        unfold kvN
        rw [List.map_append]
        rfl
      · rw [List.map_append, kq, List.take_add_one, hc]
        rfl
      · rcases List.mem_append.mp hp with hp | hp
        · obtain ⟨o2, kv2, ep, rp⟩ := rq p hp
          refine ⟨o2, kv2, ?_, ?_⟩
          · rw [upd_ne (fun z => by rw [z, eq3] at ep; cases ep)]
            exact s7 _ _ ep
          · show RowK kv2 (if p.1 = c then f1 else D p.1)
            rw [if_neg fun z : p.1 = c => cout (by rw [← z, ← kq]; exact List.mem_map.mpr ⟨p, hp, rfl⟩)]
            exact rp
        · rw [List.mem_singleton.mp hp]
          refine ⟨o, kvs, ?_, ?_⟩
          · rw [upd_ne stF]
            exact e7
          · show RowK kvs (if c = c then f1 else D c)
            rw [if_pos rfl]
            exact r6
      · rw [List.take_add_one, hc] at hx
        show RowL (EdW t ws) x (if x = c then f1 else D x)
        by_cases e : x = c
        · subst e
          rw [if_pos rfl]
          exact row
        · rw [if_neg e]
          rcases List.mem_append.mp hx with hx | hx
          · exact rowD x hx
          · exact absurd (List.mem_singleton.mp hx) e
  · obtain ⟨⟨y4, y5, y6, y7, y8, rfl⟩, s3, e3, D, ⟨qrs, eq3, kq, rq⟩, rowD⟩ := h3
    rw [List.length_map, List.take_length] at kq rowD
    refine ⟨_, rfl, q _ _ N (fun x => if x ∈ N then D x else fun _ => 0) (s1.trans s3) fF hN (fun a => ?_) ⟨qrs, eq3, kq, fun p hp => ?_⟩⟩
    · show RowL (EdW t ws) a (if a ∈ N then D a else fun _ => 0)
      by_cases c : a ∈ N
      · rw [if_pos c]
        exact rowD a (List.mem_reverse.mpr c)
      · rw [if_neg c]
        refine ⟨fun b hb => absurd rfl hb, fun b k p => absurd ?_ c⟩
        cases p with
        | one e => exact (hN.2 _).mpr (edge_in e).1
        | cons e _ => exact (hN.2 _).mpr (edge_in e).1
    · obtain ⟨o2, kv2, ep, rp⟩ := rq p hp
      refine ⟨o2, kv2, ep, ?_⟩
      show RowK kv2 (if p.1 ∈ N then D p.1 else fun _ => 0)
      rw [if_pos (List.mem_reverse.mp (by rw [← kq]; exact List.mem_map.mpr ⟨p, hp, rfl⟩))]
      exact rp
end
end HSP
namespace HSP
open PySem PySem.Spec PyProof.Rows L2
/-! ## conflicts -/
/-- the nodes in conflict behind a node, rising -/
def confOf (D : Nat → Nat → Nat) (v : Nat → Int) (n a : Nat) : List Nat := (List.range n).filter fun b => decide (D a b ≠ 0) && decide (v b < v a + (D a b : Int))
theorem confOf_mem {D : Nat → Nat → Nat} {v : Nat → Int} {n a b : Nat} : b ∈ confOf D v n a ↔ b < n ∧ D a b ≠ 0 ∧ v b < v a + (D a b : Int) := by
  unfold confOf
  rw [List.mem_filter, List.mem_range, Bool.and_eq_true, decide_eq_true_iff, decide_eq_true_iff]
def RowsW (H : Hp) (R : Addr) (M : List Nat) (row : Nat → List Nat) : Prop := ∃ prs : List (Nat × Addr), H R = some (.dK (kvN prs)) ∧ prs.map (·.1) = M ∧ ∀ p, p ∈ prs → H p.2 = some (.lst ((row p.1).map natV))
/-- the sorted keys of a row of distances -/
theorem rowK_sorted {kvs : List (Key × V)} {f : Nat → Nat} (h : RowK kvs f) {n : Nat} (lt : ∀ b, f b ≠ 0 → b < n) : ∃ ks : List (Nat × Nat), kvs = kvI ks ∧ ∀ ys : List Int, ys.Perm (ks.map fun p => (p.1 : Int)) → ys.Pairwise (· ≤ ·) → ys = ((List.range n).filter fun b => decide (f b ≠ 0)).map Int.ofNat := by
  obtain ⟨ks, rfl, nd, mem⟩ := h
  refine ⟨ks, rfl, fun ys perm up => ?_⟩
  have p1 : (ks.map (·.1)).Perm ((List.range n).filter fun b => decide (f b ≠ 0)) := by
    refine (List.perm_ext_iff_of_nodup nd (List.nodup_range.filter _)).mpr fun b => ?_
    rw [List.mem_filter, List.mem_range, decide_eq_true_iff]
    constructor
    · intro hb
      obtain ⟨⟨b', v⟩, hp, rfl⟩ := List.mem_map.mp hb
      have := (mem b' v).mp hp
      have nz : f b' ≠ 0 := by rw [this.2]; exact this.1
      exact ⟨lt b' nz, nz⟩
    · rintro ⟨_, nz⟩
      exact List.mem_map.mpr ⟨(b, f b), (mem _ _).mpr ⟨nz, rfl⟩, rfl⟩
  have p2 : ys.Perm (((List.range n).filter fun b => decide (f b ≠ 0)).map Int.ofNat) := by
    refine perm.trans ?_
    have := p1.map Int.ofNat
    rw [List.map_map] at this
    exact this
  refine List.Perm.eq_of_pairwise (fun a b _ _ h1 h2 => Int.le_antisymm h1 h2) up ?_ p2
  rw [List.pairwise_map]
  exact (List.pairwise_lt_range.filter _).imp fun {a b} z => Int.ofNat_le.mpr (Nat.le_of_lt z)
section
variable {P : Program} {w : World} {K : PySem.W.Frag} {mg : Str → Option Value} {base : Heap}
theorem sc_conflicts : FnScope n_conflicts ["tree", "values", "wished"] (defScope s_conflicts) := ⟨rfl, rfl, rfl, by decide +kernel, rfl, by decide +kernel, by decide +kernel⟩
def spConf : Sp := fun vs H Q _ => ∃ (v : V) (t : Tr) (a W : Addr) (ns : List Int) (ws : List Nat), vs = [v, .ref a, .ref W] ∧ TrAt H v t ∧ t.size ≤ 30 ∧ H a = some (.lst (ns.map V.int)) ∧ ns.length = t.size ∧ H W = some (.lst (ws.map natV)) ∧ ws.length ≤ t.size ∧ (∀ x, x ∈ ws → x < t.size) ∧
  ∀ (H' : Hp) (R : Addr) (N : List Nat) (D : Nat → Nat → Nat), Same H H' → H R = none → NodesW t ws N → AllL (EdW t ws) D → RowsW H' R N.reverse (confOf D (valAt ns) t.size) → Q (.ref R) H'
theorem ok_conf (B : Bl mg) (Di : Df P w K mg base "distances" 5 ["tree", "wished"] spDist) (a : At K mg "conflicts" s_conflicts) : Df P w K mg base "conflicts" 6 ["tree", "values", "wished"] spConf := by
  refine Df.mk' a sc_conflicts (fun vs H Q E h => ?_) (fun _ _ _ _ _ _ us hl => match us, hl with | [_, _, _], _ => rfl) (fun f cdv A outer s H vs Q E hr h => ?_)
  · obtain ⟨_, _, _, _, _, _, rfl, _⟩ := h
    rfl
  obtain ⟨v, t, av, W, ns, ws, rfl, ht, hz, ea, la, eW, lw, lt, q⟩ := h
  refine ⟨_, (pss_cons (ps_set (i := 3) sc_conflicts.nd rfl (.inl rfl) pe_dnewK)
 (pss_cons (ps_for PassesOwn.never rfl (pi_items (pe_lockD (pe_df Di hr (pa_cons (pv 0) (pa_cons (pv 2) pa_nil))))) (pg_tup rfl (pgs_cons (pg_name (i := 4) sc_conflicts.nd rfl (.inr rfl)) (pgs_cons (pg_name (i := 5) sc_conflicts.nd rfl (.inr rfl)) pgs_nil))) (pss_one (ps_dput (hu_of hr) (pv 3) (pv 4) (pe_lc (own := [("other", 6)]) (g := (gName 6)) (by rfl) sc_conflicts.nd (pi_list (pe_callB (call_sortedDI rfl) (by rfl) B.sorted (by decide +kernel) (pa_cons (pv 5) pa_nil))) (blkOk_by (N := n_conflicts) (sc := defScope s_conflicts) (by decide +kernel)) (fun _ _ _ _ _ => (pg_name (i := 6) sc_conflicts.nd rfl (.inl rfl))) (fun _ _ _ _ _ => (pts_one (pt_cmpR op_lt (pe_ix (show IxR _ (rIxL K) from ix_list) (pv 1) (pv 6) (fun _ _ => rfl)) (pe_op op_add (pe_ix (show IxR _ (rIxL K) from ix_list) (pv 1) (pv 4) (fun _ _ => rfl)) (pe_dget (hu_of hr) (pv 5) (pv 6) (fun _ _ => rfl))) (nomark _)))) (fun _ _ _ _ _ => (pv 6))) (by rfl))))
 (pss_one (ps_ret (pv 3))))), ?_⟩
  refine fun R hR => ?_
  have sR := Same.new (o := .dK []) hR
  refine ⟨_, rfl, _, rfl, v, t, W, ws, rfl, ht.same sR, hz, sR _ _ eW, lw, lt, fun H1 F N D s1 nF hN aD fF => ?_⟩
  obtain ⟨prs, eF, kF, rF⟩ := fF
  refine ⟨F, kvN prs, rfl, eF, fun o => ?_⟩
  have fr0 : H F = none := sR.free nF
  have eR1 : H1 R = some (.dK []) := s1 _ _ upd_same
  have nRF : R ≠ F := fun z => by rw [← z, upd_same] at nF; cases nF
  have s01 := sR.trans s1
  have lN : N.length ≤ t.size := nodes_few hN lt
  have ndN : N.Nodup := hN.1.imp fun {a b} z => Nat.ne_of_lt z
  have lp : prs.length = N.length := by
    have := congrArg List.length kF
    rw [List.length_map, List.length_reverse] at this
    exact this
  have s2 : Same H (upd H1 F (.frz o (.dK (kvN prs)))) := fun b u eb => by
    rw [upd_ne (ne_of_none eb fr0)]
    exact s01 _ _ eb
  have eF2 : (upd H1 F (.frz o (.dK (kvN prs)))) F = some (.frz o (.dK (kvN prs))) := upd_same
  have eR2 : (upd H1 F (.frz o (.dK (kvN prs)))) R = some (.dK []) := by
    rw [upd_ne nRF]
    exact eR1
  have rF2 : ∀ p, p ∈ prs → ∃ o2 kvs, (upd H1 F (.frz o (.dK (kvN prs)))) p.2 = some (.frz o2 (.dK kvs)) ∧ RowK kvs (D p.1) := fun p hp => by
    obtain ⟨o2, kvs, e, r⟩ := rF p hp
    exact ⟨o2, kvs, by rw [upd_ne fun z => by rw [z, eF] at e; cases e]; exact e, r⟩
  generalize upd H1 F (.frz o (.dK (kvN prs))) = H2 at s2 eF2 eR2 rF2 ⊢
  refine ⟨F, o, kvN prs, rfl, eF2, ?_⟩
  refine for_it (walk_items (d := F) (o := o) (kvs := kvN prs)) (fun i σ H' => (∃ y4 y5 y6 : Option V, σ = [some v, some (.ref av), some (.ref W), some (.ref R), y4, y5, y6]) ∧ Same H H' ∧ H' F = some (.frz o (.dK (kvN prs))) ∧ (∀ p, p ∈ prs → ∃ o2 kvs, H' p.2 = some (.frz o2 (.dK kvs)) ∧ RowK kvs (D p.1)) ∧ RowsW H' R (N.reverse.take i) (confOf D (valAt ns) t.size)) ⟨⟨_, _, _, rfl⟩, s2, eF2, rF2, [], eR2, rfl, fun _ h => nomatch h⟩ (fun i σ H' _ h' => h'.2.2.1) (fun i x σ H3 H4 hi h3 hy => ?_) (fun σ H3 h3 => ?_)
  · obtain ⟨⟨y4, y5, y6, rfl⟩, s3, eF3, rF3, qrs, eR3, kR3, rR3⟩ := h3
    obtain ⟨T, x1, x2, rfl, nT, rfl, g1, g2⟩ := hy
    rw [show (kvN prs).length = prs.length from List.length_map _] at hi
    obtain ⟨⟨c, Sa⟩, hb⟩ : ∃ z, prs[i]? = some z := ⟨_, List.getElem?_eq_getElem hi⟩
    have hkv : (kvN prs)[i]? = some (Sum.inl (c : Int), V.ref Sa) := by
      unfold kvN
      rw [List.getElem?_map, hb]
      rfl
    have g1 : ((kvN prs)[i]?.map fun kv => kV kv.1) = some x1 := g1
    have g2 : (kvN prs)[i]?.map Prod.snd = some x2 := g2
    rw [hkv] at g1 g2
    obtain rfl : natV c = x1 := Option.some.inj g1
    obtain rfl : V.ref Sa = x2 := Option.some.inj g2
    have cN : N.reverse[i]? = some c := by rw [← kF, List.getElem?_map, hb]; rfl
    have cs : c < t.size := by
      rcases List.mem_append.mp ((hN.2 c).mp (List.mem_reverse.mp (List.mem_of_getElem? cN))) with z | z
      · exact lt c z
      · exact anc_in z
    have cout : c ∉ N.reverse.take i := take_new (List.pairwise_reverse.mpr (ndN.imp fun {a b} z => Ne.symm z)) cN
    obtain ⟨o2, kvs, eSa, rk⟩ : ∃ o2 kvs, H3 Sa = some (.frz o2 (.dK kvs)) ∧ RowK kvs (D c) := rF3 _ (List.mem_of_getElem? hb)
    have ltD : ∀ b, D c b ≠ 0 → b < t.size := fun b hb => pth_end lt ((aD c).1 b hb)
    have lk : kvs.length ≤ t.size := rk.len ltD
    have rk' := rk
    obtain ⟨ks, rfl, srt⟩ := rowK_sorted rk ltD
    have sT := Same.new (o := .tup [natV c, V.ref Sa]) nT
    refine ⟨T, _, rfl, .of upd_same, rfl, _, _, rfl, _, [], rfl, rfl, ?_⟩
    refine ⟨_, rfl, Sa, kvI ks, ks.map (fun p => (p.1 : Int)), rfl, .inr ⟨o2, sT _ _ eSa⟩, ?_, ?_, fun ys S perm up hS => ?_⟩
    · unfold kvI
      rw [List.map_map, List.map_map]
      rfl
    · unfold kvI at lk
      rw [List.length_map] at lk
      rw [List.length_map]
      omega
    obtain rfl := srt ys perm up
    have sS := Same.new (o := .lst ((((List.range t.size).filter fun b => decide (D c b ≠ 0)).map Int.ofNat).map V.int)) hS
    have eS : (upd (upd H3 T (.tup [natV c, V.ref Sa])) S (.lst ((((List.range t.size).filter fun b => decide (D c b ≠ 0)).map Int.ofNat).map V.int))) S = some (.lst (((List.range t.size).filter fun b => decide (D c b ≠ 0)).map natV)) := by
      rw [upd_same, List.map_map]
      rfl
    have s5 := sT.trans sS
    generalize upd (upd H3 T (.tup [natV c, V.ref Sa])) S (.lst ((((List.range t.size).filter fun b => decide (D c b ≠ 0)).map Int.ofNat).map V.int)) = H5 at s5 eS ⊢
    refine ⟨S, rfl, ⟨_, .of eS⟩, fun L hL => ?_⟩
    have eL : (upd H5 L (.lst [])) L = some (.lst []) := upd_same
    have sL := Same.new (o := .lst []) hL
    refine lc_it (walk_list (K := K) (a := S) (xs := ((List.range t.size).filter fun b => decide (D c b ≠ 0)).map natV)) (fun j H' => Same H5 H' ∧ H' L = some (.lst (((((List.range t.size).filter fun b => decide (D c b ≠ 0)).take j).filter fun b => decide (valAt ns b < valAt ns c + (D c b : Int))).map natV))) ⟨sL, eL⟩ (fun j H' _ h' => .of (h'.1 _ _ eS)) (fun j x H6 H7 hj h6 hy => ?_) (fun H6 h6 => ?_)
    · obtain ⟨s6, e6⟩ := h6
      obtain ⟨rfl, hx2⟩ := hy
      rw [List.getElem?_map] at hx2
      obtain ⟨b, hb2, rfl⟩ := Option.map_eq_some_iff.mp hx2
      have bin := List.mem_filter.mp (List.mem_of_getElem? hb2)
      have bs : b < t.size := List.mem_range.mp bin.1
      have bD : D c b ≠ 0 := of_decide_eq_true bin.2
      have s7 := s5.trans s6
      have ea7 := s7 _ _ (s3 _ _ ea)
      have few : (((List.range t.size).filter fun b => decide (D c b ≠ 0)).take j).length ≤ t.size := by
        rw [List.length_take]
        have := List.length_filter_le (fun b => decide (D c b ≠ 0)) (List.range t.size)
        rw [List.length_range] at this
        omega
      refine ⟨rfl, ?_⟩
      refine ⟨_, rfl, _, rfl, av, _, _, _, rfl, rfl, .of ea7, atI_nat (valAt_get (by omega)), _, rfl, _, rfl, av, _, _, _, rfl, rfl, .of ea7, atI_nat (valAt_get (by omega)), _, rfl, _, rfl, Sa, _, rfl, .inl ⟨kvI ks, Sum.inl (b : Int), .inr ⟨o2, s7 _ _ eSa⟩, rfl, by rw [rk'.get, if_neg bD]⟩, ?_⟩
      have next : ((((List.range t.size).filter fun b => decide (D c b ≠ 0)).take (j + 1)).filter fun b => decide (valAt ns b < valAt ns c + (D c b : Int))) = ((((List.range t.size).filter fun b => decide (D c b ≠ 0)).take j).filter fun b => decide (valAt ns b < valAt ns c + (D c b : Int))) ++ [b].filter fun b => decide (valAt ns b < valAt ns c + (D c b : Int)) := by
        rw [List.take_add_one, hb2, List.filter_append]
        rfl
      refine ⟨_, _, rfl, rfl, _, _, rfl, rfl, _, rfl, ?_⟩
      by_cases lc : valAt ns b < valAt ns c + (D c b : Int)
      · rw [decide_eq_true lc]
        refine iteT ?_
        refine ⟨_, rfl, _, e6, ?_, fun x u eb => ?_, ?_⟩
        · have := List.length_filter_le (fun b => decide (valAt ns b < valAt ns c + (D c b : Int))) (((List.range t.size).filter fun b => decide (D c b ≠ 0)).take j)
          rw [List.length_map]
          exact small1000 (by omega)
        · rw [upd_ne (ne_of_none eb hL)]
          exact s6 _ _ eb
        · rw [upd_same, next, List.filter_cons, if_pos (decide_eq_true lc), List.filter_nil, List.map_append]
          rfl
      · rw [decide_eq_false lc]
        refine iteF ?_
        refine ⟨s6, ?_⟩
        rw [next, List.filter_cons, if_neg (by rw [decide_eq_false lc]; decide), List.filter_nil, List.append_nil]
        exact e6
    · obtain ⟨s6, e6⟩ := h6
      rw [List.length_map, List.take_length, List.filter_filter] at e6
      have s36 := s5.trans s6
      have e6 : H6 L = some (.lst ((confOf D (valAt ns) t.size c).map natV)) := by
        rw [e6]
        unfold confOf
        congr 3
        refine List.filter_congr fun b _ => ?_
        rw [Bool.and_comm]
      have nLR : L ≠ R := fun z => by rw [z, s5 _ _ eR3] at hL; cases hL
      have lq : (kvN qrs).length < sizeLine := by
        have l1 := congrArg List.length kR3
        rw [List.length_map, List.length_take, List.length_reverse] at l1
        unfold kvN
        rw [List.length_map]
        exact small1000 (by omega)
      refine ⟨_, rfl, _, rfl, R, _, rfl, DPut.k (k := Sum.inl (c : Int)) (s36 _ _ eR3) lq, ⟨_, _, _, rfl⟩, fun b u eb => ?_, ?_, fun p hp => ?_, qrs ++ [(c, L)], ?_, ?_, fun p hp => ?_⟩
      · rw [upd_ne (ne_of_none eb hR)]
        exact s36 _ _ (s3 _ _ eb)
      · rw [upd_ne (fun z => by rw [z, eR3] at eF3; cases eF3)]
        exact s36 _ _ eF3
      · obtain ⟨o3, kv3, e, r⟩ := rF3 p hp
        refine ⟨o3, kv3, ?_, r⟩
        rw [upd_ne (fun z => by rw [z, eR3] at e; cases e)]
        exact s36 _ _ e
      · rw [upd_same, putK_new _ (kvN_none (by rw [kR3]; exact cout))]
        unfold kvN
        rw [List.map_append]
        rfl
      · rw [List.map_append, kR3, List.take_add_one, cN]
        rfl
      · rcases List.mem_append.mp hp with hp | hp
        · have e := rR3 p hp
          rw [upd_ne (fun z => by rw [z, eR3] at e; cases e)]
          exact s36 _ _ e
        · rw [List.mem_singleton.mp hp, upd_ne nLR]
          exact e6
  · obtain ⟨⟨y4, y5, y6, rfl⟩, s3, eF3, rF3, rows⟩ := h3
    rw [show (kvN prs).length = N.reverse.length from by rw [List.length_reverse, ← lp]; exact List.length_map _, List.take_length] at rows
    exact ⟨_, rfl, q _ _ N D s3 hR hN aD rows⟩
end
end HSP
set_option maxHeartbeats 2000000
namespace HSP
open PySem PySem.Spec PyProof.Rows L2
/-! ### try: body, except (A, B) as n: suite -/
section
variable {X : Cx}
/-- a class's name is read, the state stays -/
theorem ld_name {x : Str} {c : Value} {pins : List (Addr × Obj)} {s : Shared} {σ : L2.St} {H : Hp} {q0 : Pos} {Q : Value → Shared → Prop} {E : Value → Shared → Prop} (hc : Names X x c) (I : Inv X pins σ H s) (q : Q c s) : wpAny (model X.prog X.w) X.A (eval (.Name x q0) X.env) Q E s := by
  obtain ⟨g, nd, m | ⟨m, v, n⟩⟩ := hc
  · exact ld_glob I g m q nd
  · exact ld_blt I g m v q n nd
/-- (A, B) is made anew, the heap grows by it alone -/
theorem ld_pair {x1 x2 : Str} {c1 c2 : Value} {pins : List (Addr × Obj)} {s : Shared} {σ : L2.St} {H : Hp} {p1 p2 p3 : Pos} {kk : Nat} {Q : Value → Shared → Prop} {E : Value → Shared → Prop} (h1 : Names X x1 c1) (h2 : Names X x2 c2) (I : Inv X pins σ H s)
    (q : Q (.ref s.heap.objs.size) { s with heap := s.heap.push { cls := .type "tuple", data := .seq [c1, c2].toArray } }) : wpAny (model X.prog X.w) X.A (eval (.Tuple [.Name x1 p1, .Name x2 p2] kk p3) X.env) Q E s := by
  refine wpAny_Tuple_spliced ?_
  show wpAny _ _ (spliced ((false, eval (.Name x1 p1) X.env) :: backTo p3 (starEach [.Name x2 p2] X.env))) _ _ s
  refine Calls.spliced_cons (ld_name h1 I ?_)
  show wpAny _ _ (spliced ((false, eval (.Name x2 p2) X.env) :: backTo p3 (starEach [] X.env))) _ _ s
  refine Calls.spliced_cons (ld_name h2 I ?_)
  exact Calls.spliced_nil ⟨(by show 2 ≤ sizeLine; decide), q⟩
theorem flying_push {B : Heap} {l : List Env} {e : Addr} {Z : Obj → Prop} {h : Heap} (o : Obj) (f : HandSPX.FlyingZ B l e Z h) : HandSPX.FlyingZ B l e Z (h.push o) := by
  obtain ⟨f1, f2, f3, oe, vs, T, oT, ts, g1, g2, g3, g4, g5, g6, g7, g8, g9⟩ := f
  exact ⟨fun b u z => Heap.get?_push_of_some _ (f1 b u z), f2, Heap.FunFrames.of_keeps (fun b u z _ => ⟨u, Heap.get?_push_of_some _ z, rfl⟩) f3, oe, vs, T, oT, ts, Heap.get?_push_of_some _ g1, g2, g3, g4, g5, g6, Heap.get?_push_of_some _ g7, g8, g9⟩
end
/-- a caught exception that is kept: its class, its dict -/
def exK (cls : Value) (d : Option Addr) (e : Addr) : HO := .ext fun h => ∃ (o : Obj) (vs : Array Value), h.get? e = some o ∧ Zc cls d o ∧ o.data = .fields vs
theorem exK_ok {P : Program} {w : World} {H : Hp} {h : Heap} {e : Addr} {cls : Value} {d : Option Addr} {o : Obj} {vs : Array Value} (g : h.get? e = some o) (z : Zc cls d o) (f : o.data = .fields vs) : ObjOk P w H h e (exK cls d e) :=
  ⟨⟨o, vs, g, z, f⟩, ⟨o, g⟩, fun h1 h2 q same => by
    obtain ⟨o1, v1, g1, z1, f1⟩ := q
    exact ⟨o1, v1, same o1 g1, z1, f1⟩⟩
theorem exK_at {P : Program} {w : World} {H : Hp} {h : Heap} {e : Addr} {cls : Value} {d : Option Addr} (ok : HOk P w H h) (q : H e = some (exK cls d e)) : ∃ (o : Obj) (vs : Array Value), h.get? e = some o ∧ Zc cls d o ∧ o.data = .fields vs := (ok e _ q).1
/-- what the clause wishes, the exception kept in the heap -/
def wKeep2 (K : PySem.W.Frag) (c1 c2 : Value) (i : Nat) (ts : Addr → TS) (Wo : WX) (D : Ends) : WX := fun cls d σ H =>
  ∃ b, PySem.W.exmAny K cls [c1, c2] = some b ∧
    (b = true → ∀ a, H a = none → ts a ⟨fun τ G => D.nx (τ.set i none) G, D.rt, fun τ G => D.bk (τ.set i none) G, fun τ G => D.ct (τ.set i none) G⟩ (σ.set i (some (.ref a))) (upd H a (exK cls d a))) ∧ (b = false → Wo cls d σ H)
section
variable {X : Cx} {pins : List (Addr × Obj)} {σ : L2.St} {H : Hp} {s s' sI : Shared} {B : Heap}
theorem _root_.L2.Inv.bareSuite (I : L2.Inv X pins σ H s) (e : Addr) : L2.Inv (X.suite e (X.pn ++ pins)) [] σ H s :=
  ⟨I.ok.suite _ _, I.os, I.bare, I.base, I.loc, I.cell, I.free, I.freeC, fun p hp => I.pin p (by rw [List.append_nil] at hp; exact hp), I.hok, I.len⟩
theorem _root_.L2.Inv.offSuite {e : Addr} {pn' : List (Addr × Obj)} (I : L2.Inv (X.suite e (X.pn ++ pins)) pn' σ H s) (ok : X.Ok) : L2.Inv X pins σ H s :=
  ⟨ok, I.os, I.bare, I.base, I.loc, I.cell, I.free, I.freeC, fun p hp => I.pin p (List.mem_append_left _ hp), I.hok, I.len⟩
/-- back on the ground, and the exception is of our heap -/
theorem _root_.L2.Inv.keptNew {e : Addr} {o : HO} (I : L2.Inv X pins σ H sI) (nb : ∀ b u, sI.heap.get? b = some u → b ∉ frs X.stack → B.get? b = some u) (st : B.StaysIn s'.heap) (up : sI.heap.UpToSlots s'.heap) (os : s'.os = sI.os) (ag : AllBare s'.gens)
    (new : sI.heap.get? e = none) (ne : H e = none) (k : ObjOk X.prog X.w (upd H e o) s'.heap e o) : L2.Inv X pins σ (upd H e o) s' := by
  have frame : ∀ b ∈ frs X.stack, ∀ u, sI.heap.get? b = some u → ∃ sl, s'.heap.get? b = some { u with slots := sl } := fun b m u g => by
    obtain ⟨_, u', g', plain⟩ := I.stack.mem m
    rw [g] at g'
    cases g'
    exact up b u g plain
  have other : ∀ b u, sI.heap.get? b = some u → b ≠ e := fun b u g z => by rw [z, new] at g; cases g
  have was : HOk X.prog X.w H s'.heap := (I.inGround nb).kept st
  have J := I.call (ch := []) (h' := s'.heap) (g' := s'.gens) (t' := s'.toks) (d' := s'.drawn) (H' := upd H e o)
    ⟨fun b u g _ m _ => st b u (nb b u g m), fun b u g _ m _ => frame b m u g, fun b u g n _ => by rw [upd_ne (other b u g)]; exact n, fun b u g _ => by
      by_cases m : b ∈ frs X.stack
      · exact ⟨_, (frame b m u g).choose_spec⟩
      · exact ⟨u, st b u (nb b u g m)⟩, fun b xs q => by rw [upd_ne (ne_of_none q ne)]; exact q, fun b u xs q => by rw [upd_ne (ne_of_none q ne)]; exact q, fun b ps q => ⟨#[], by rw [upd_ne (ne_of_none q ne), q]; simp⟩⟩
    (was.laidN (fun _ _ q => q) ne k) ag (fun _ z => nomatch z)
  obtain ⟨a1, a2, a3, a4, a5⟩ := s'
  have e5 : a5 = sI.os := os
  subst e5
  exact J
end
section
variable {X : Cx}
variable {x1 x2 n : Str} {c1 c2 : Value} {i kk : Nat} {body suite : List Stmt} {b₀ : Stmt} {p1 p2 p3 pos pos' : Pos} {tb : WX → TS} {ts : Addr → TS} {Wo : WX}
theorem ps_try_keep2 (stk : X.stack = X.env :: X.outer) (fr : X.env.frame = some X.env.locals) (nod : X.N.Nodup) (at_i : X.N[i]? = some n) (lc : X.env.kindOf n = some .local) (nm1 : Names X x1 c1) (nm2 : Names X x2 c2) (out : Takes X Wo)
    (does : ∀ (W : WX) (pn : List (Addr × Obj)) (xe : Value → Shared → Prop), Takes (X.tr pn xe) W → PassesOwn (model X.prog X.w) X.A X.env xe → PSs (X.tr pn xe) body (tb W))
    (then_ : ∀ (e : Addr) (pn : List (Addr × Obj)), PSs (X.suite e pn) (b₀ :: suite) (ts e)) :
    PS X (.Try body [.ExceptHandler (some (.Tuple [.Name x1 p1, .Name x2 p2] kk p3)) (some n) (b₀ :: suite) pos'] [] [] pos) (fun D σ H => tb (wKeep2 X.K c1 c2 i ts Wo D) D σ H) := by
  refine ⟨fun pins s σ H D I rd => ?_⟩
  have okX := I.ok
  have frs0 : X.A.frames = some (X.env :: X.outer) := okX.frames.trans (congrArg some stk)
  refine wpAny_Try_except ?_
  have run := (does (wKeep2 X.K c1 c2 i ts Wo D) (X.pn ++ pins) (fun v z => wpAny (model X.prog X.w) X.A (noteFrame v X.env) (fun _ z2 => wpAny (model X.prog X.w) X.A (setFlight v none) (fun _ z3 =>
    wpAny (model X.prog X.w) X.A (handleBy v X.env [.ExceptHandler (some (.Tuple [.Name x1 p1, .Name x2 p2] kk p3)) (some n) (b₀ :: suite) pos']) (SP X pins D) X.xe z3) X.xe z2) X.xe z)
    (fun u z flown => ?caught) PassesOwn.looking).run [] s σ H D (I.toTry _) rd
  case caught =>
    obtain ⟨e, B, z0, pins', τ, G, cls, d, rfl, J0, nb, up0, sky0, ne, os0, bare0, b, hit, yes, no⟩ := flown
    have J := J0.ofTry okX
    rw [show (X.tr (X.pn ++ pins) _).stack = X.env :: X.outer from stk] at sky0
    refine Sky.land Zc.steady frs0 fr sky0 fun g fl upg => ?_
    have Jg := J.landed (s' := { z with heap := g }) nb fl.1 (up0.trans upg) os0 bare0
    obtain ⟨o3, v3, got3, z3, dat3⟩ := fl.there
    have off : ∀ {h : Heap} {o : Obj} {vs : Array Value}, h.FunFrames B (X.env :: X.outer) → h.get? e = some o → o.data = .fields vs → ¬ e ∈ frs (X.env :: X.outer) := fun {h o vs} ff ge dd m => by
      obtain ⟨_, o', ge', bad⟩ := ff.mem m
      rw [ge] at ge'
      cases ge'
      exact bad vs dd
    have none_of := off fl.2.2.1 got3 dat3
    have n1 : e ≠ X.env.locals := fun z => none_of (List.mem_filterMap.mpr ⟨X.env, List.mem_cons_self, fr.trans (congrArg some z.symm)⟩)
    have n2 : e ∉ X.fs := fun m => by
      obtain ⟨y, my, ey⟩ := List.mem_filterMap.mp m
      exact none_of (List.mem_filterMap.mpr ⟨y, List.mem_cons_of_mem _ my, ey⟩)
    have Sg := Jg.suite got3 dat3 ne n1 n2
    refine wpAny_handleBy_cons (codeAny_handlers_test ?_) (fun q => by cases q)
    refine ld_pair (X := X.suite e ((e, o3) :: (X.pn ++ pins))) nm1 nm2 Sg ?_
    have keeps : ∀ b o, g.get? b = some o → (g.push { cls := .type "tuple", data := .seq [c1, c2].toArray }).get? b = some o := fun b o q => Heap.get?_push_of_some _ q
    have fl' := flying_push { cls := .type "tuple", data := .seq [c1, c2].toArray } fl
    have upg' : z.heap.UpToSlots (g.push { cls := .type "tuple", data := .seq [c1, c2].toArray }) := upg.trans (fun b o q _ => ⟨o.slots, keeps b o q⟩)
    have looks : PySem.W.Looks (model X.prog X.w) (g.push { cls := .type "tuple", data := .seq [c1, c2].toArray }) (typeOf (.ref e)) cls := fun _ _ _ _ k q => wpAny_typeOf_ref (k _ _ (keeps _ _ got3)) (by rw [z3.1]; exact q)
    have hits := PySem.W.exm_tup2 (M := model X.prog X.w) (Jg.kIn.keeps keeps) looks (Heap.get?_push_size _ rfl) hit
    refine hits.here ?_
    generalize g.push { cls := .type "tuple", data := .seq [c1, c2].toArray } = g' at keeps fl' upg' hits ⊢
    cases b with
    | true =>
      refine codeAny_handlers_suite_as ?_
      refine HandSPX.lands_againZ fl' fun g4 fl4 up4 => ?_
      have J4 := J.landed (s' := { z with heap := g4 }) nb fl4.1 ((up0.trans upg').trans up4) os0 bare0
      obtain ⟨o4, v4, got4, z4, dat4⟩ := fl4.there
      have new0 : z0.heap.get? e = none := by
        cases q : z0.heap.get? e with
        | none => rfl
        | some o =>
          have := nb e o q (by rw [show (X.tr (X.pn ++ pins) _).stack = X.env :: X.outer from stk]; exact none_of)
          rw [fl.2.1] at this
          cases this
      have K4 := J.keptNew (s' := { z with heap := g4 }) nb fl4.1 ((up0.trans upg').trans up4) os0 bare0 new0 ne (exK_ok got4 z4 dat4)
      have S4 := K4.bareSuite e
      refine store_ok (X := X.suite e (X.pn ++ pins)) (v := .ref e) S4 nod at_i (.inl lc) rfl (fun z5 S5 => ?_) (.inr lc)
      refine wpAny_mono ((then_ e (X.pn ++ pins)).run [] z5 _ (upd G e (exK cls d e)) _ S5 (yes rfl e ne)) (fun fw z6 fin => ?_) (fun _ _ q => q.elim)
      have over : ∀ {τ6 : L2.St} {G6 : Hp} {Q : Shared → Prop}, L2.Inv (X.suite e (X.pn ++ pins)) [] τ6 G6 z6 → (∀ z7, L2.Inv X pins (τ6.set i none) G6 z7 → Q z7) → wpAny (model X.prog X.w) X.A (do bindName X.env n .none; unbindBehindTheSuite X.env n pos') (fun _ z7 => Q z7) X.xe z6 :=
        fun {τ6 G6 Q} S6 q => gone_ok (S6.offSuite okX) nod at_i lc q
      cases fw with
      | ret u =>
        obtain ⟨v6, τ6, G6, S6, r6, q6⟩ := fin
        exact over S6 fun z7 J7 => ⟨_, _, _, J7, r6, q6⟩
      | _ =>
        obtain ⟨τ6, G6, S6, q6⟩ := fin
        exact over S6 fun z7 J7 => ⟨_, _, J7, q6⟩
    | false =>
      show wpAny _ X.A (handleBy (.ref e) X.env []) _ _ _
      refine wpAny_handleBy_nil ?_
      obtain ⟨_, _, _, o5, v5, T, oT, w5, got5, _, dat5, tr5, _⟩ := id fl'
      unfold PySem.passOn
      refine wpAny_bind (wpAny_field got5 dat5 tr5 ?_)
      rw [if_neg (by simp : ¬ ((Value.ref T == Value.none) = true))]
      have flies : wpAny (model X.prog X.w) X.A (setFlight (.ref e) X.env.frame) (fun _ z4 => wpAny (model X.prog X.w) X.A (throw (.ref e) : Sem Flow) (SP X pins D) X.xe z4) X.xe { z with heap := g' } := by
        rw [fr]
        exact HandSPX.setFlight_upZ fl' fun g4 held up4 => wpAny_throw (out _ _ ⟨e, B, z0, pins, τ, G, cls, d, rfl, J, nb, (up0.trans upg').trans up4, .inr (.inr (by rw [stk]; exact held)), ne, os0, bare0, no rfl⟩)
      first
        | exact wpAny_bind (wpAny_pure (wpAny_bind flies))
        | exact wpAny_bind flies
  refine wpAny_mono run (fun fw z6 fin => ?_) (fun v z6 q => q)
  cases fw with
  | next =>
    obtain ⟨τ, G, J, q⟩ := fin
    exact wpAny_execs_nil ⟨τ, G, J.ofTry okX, q⟩
  | ret u =>
    obtain ⟨v, τ, G, J, r, q⟩ := fin
    exact ⟨v, τ, G, J.ofTry okX, r, q⟩
  | _ =>
    obtain ⟨τ, G, J, q⟩ := fin
    exact ⟨τ, G, J.ofTry okX, q⟩
end
end HSP
set_option maxHeartbeats 2000000
namespace HSP
open PySem PySem.Spec PyProof.Rows L2
/-! ### a kept exception: its fields, its class -/
/-! the class of an exception that has its dict -/
section
open PySem.W PySem.Calls
variable {prog : Program} {w : World} {A : Around} {E : Value → Shared → Prop} {z : Shared} {K : Frag} {x D : Addr} {o : Obj} {od : Option Obj}
theorem found_class (C : ExcC K D) : findObj K D od "__class__" = some (.bind (.builtin "getset_descriptor.__get__") (.builtin "object.__class__")) := by
  obtain ⟨cd, hc, _⟩ := any_some C.hd
  unfold findObj
  rw [hc, Option.bind_some, C.ha, Option.bind_some]
  dsimp only
  rw [C.hn, Option.bind_some]
  dsimp only
  rw [C.ht, Option.bind_some]
theorem asked_class {Q : Option Value → Shared → Prop} (C : ExcC K D) (I : K.In z.heap) (J : InstAt z.heap x o D od) (q : Q (some (.ref D)) { z with toks := z.toks + 1 }) : wpAny (model prog w) A (getAttr? (.ref x) "__class__") Q E z := by
  have found := found_class (od := od) C
  obtain ⟨h, gs, dr, tk, os⟩ := z
  have type := J.type (M := model prog w)
  have by1 := looks_findIn (M := model prog w) I C.hg
  have by2 := looks_findIn (M := model prog w) I C.hk
  have by3 := looks_find (M := model prog w) I J found
  have isExc : Looks (model prog w) h (isInstance (.ref x) (.type "BaseException")) true := type.andThen (looks_subIn I C.hs)
  have no1 : (Value.builtin "BaseException.__getattribute__" == Value.builtin "object.__getattribute__") = false := by decide +kernel
  have no2 : (onTheHeap (Value.ref D) && Value.builtin "BaseException.__getattribute__" == Value.builtin "object.__getattribute__") = false := by rw [no1] <;> rfl
  have no3 : (false && onTheHeap (Value.builtin "BaseException.__getattribute__")) = false := rfl
  unfold getAttr? getAttrBy? getAttrBy
  refine wpAny_bind (wpAny_mkText (wpAny_bind (wpAny_attempt (wpAny_holding (wpAny_bind (type.at (wpAny_bind (by1.at ?_))))))))
  show wpAny _ _ (if (onTheHeap (Value.ref D) && Value.builtin "BaseException.__getattribute__" == Value.builtin "object.__getattribute__") = true then _ else _) _ _ _
  rw [no2, if_neg (fun q => nomatch q)]
  unfold getAttrByItsOwn hookBefore
  refine wpAny_bind ?_
  rw [if_pos (by rfl : onTheHeap (Value.ref D) = true)]
  refine by2.at (wpAny_bind (wpAny_attempt (wpAny_holding ?_)))
  unfold callGetattribute
  rw [no3, if_neg (fun q => nomatch q)]
  unfold boundAndCalled
  rw [PySem.F.excAttr_ValueError.ga.bind (Value.ref x)]
  refine wpAny_bind (wpAny_pure (show wpAny _ _ (call (.builtin "BaseException.__getattribute__") [.ref x, .str "__class__" tk]) _ _ _ from wpAny_call (codeAny_call_builtin PySem.F.excAttr_ValueError.ga.plain PySem.F.entry_bexc_ga ?_)))
  have kind := PySem.F.args_bexc_ga (.ref x) (.str "__class__" tk)
  refine @check_slot (model prog w) _ _ ⟨h, gs, dr, tk + 1, os⟩
    "BaseException.__getattribute__" "BaseException"
    "__getattribute__" (.ref x)
    [.str "__class__" tk] [] _ (by decide +kernel) (by decide +kernel)
    isExc kind ?_
  unfold Builtin.«object.__getattribute__»
  refine wpAny_bind (wpAny_of_eq (a := ((Value.ref x : Value), [Value.str "__class__" tk])) (by first | rfl | (simp only [slotArgs]; rfl)) (wpAny_bind (wpAny_pure (wpAny_bind (type.at (wpAny_bind (by3.at ?_)))))))
  show wpAny _ _ (holding [Value.builtin "object.__class__"] (call (.builtin "getset_descriptor.__get__") [.builtin "object.__class__", .ref x, .ref D]) >>= ret) _ _ _
  refine wpAny_bind (wpAny_holding (wpAny_call (class_get (s := ⟨h, gs, dr, tk + 1, os⟩) (ox := o) (od := od) I J C.hm (wpAny_pure ?_))))
  show wpAny _ _ (handedOut (.ref D)) _ _ _
  rw [handedOut_of (v := Value.ref D) rfl]
  first
    | exact wpAny_pure (wpAny_pure q)
    | exact wpAny_pure q
    | exact wpAny_pure (wpAny_bind (wpAny_pure (wpAny_pure q)))
theorem kitK (C : ExcC K D) : KitX K (.ref x) (.ref D) (fun h => InstAt h x o D od) where
  ty := fun _ _ _ J => J.type
  it := fun _ _ I _ => by
    obtain ⟨cd, is, _⟩ := any_some C.hd
    unfold clsIn at is
    split at is
    case h_2 => cases is
    case h_1 there =>
      intro A0 Q0 E0 s0 k q
      unfold isType loadHead
      exact wpAny_bind (wpAny_loadPart (k _ _ (I _ _ there)) (wpAny_pure q))
  ne := (handS_kitx_exc (x := x) (ox := o) C.hg C.hk C.hs C.hd C.ha C.hn C.ht C.hm).ne
  ca := fun I J q => asked_class C I J q
end
section
variable {X : Cx}
/-- e.f of a kept exception of the class C -/
def tXfK (K : PySem.W.Frag) (f : Str) (te : TE) : TE := fun σ H Q => te σ H fun x G => ∃ (e C dd : Addr) (fs : List (Str × V)) (v : V), x = .ref e ∧ G e = some (exK (.ref C) (some dd) e) ∧ XfC K C ∧ PySem.W.findIn K (.ref C) f = some none ∧ G dd = some (.xd fs) ∧ fs.lookup f = some v ∧ Q v G
theorem pe_xfK {b : Expr} {te : TE} {pos : Pos} {f : Str} (hb : PE X b te) (base : attributeBase b f X.env (eval b X.env) = eval b X.env := by rfl) : PE X (.Attribute b f pos) (tXfK X.K f te) := by
  refine ⟨fun pins s σ H Q I rd => ?_⟩
  refine attr_of base (thn (hb.run pins s σ H _ I rd) fun u z got => ?_)
  obtain ⟨x, G, J, ru, e, C, dd, fs, v, rfl, here, T, free, own, has, q⟩ := got
  cases (show u = Value.ref e from ru)
  obtain ⟨o, vs, go, ⟨cl, di⟩, da⟩ := exK_at J.hok here
  obtain ⟨mA, ns, vals⟩ : ObjOk X.prog X.w G z.heap dd (.xd fs) := J.hok dd _ own
  obtain ⟨od, god, look⟩ := lookIn_ns ns
  obtain ⟨y, ey, ry⟩ := RelO.some_of (v := v) (o := mA f) (has ▸ vals f)
  have inst : PySem.W.InstAt z.heap e o C (some od) := ⟨go, cl, by unfold PySem.W.notCls; rw [da] <;> rfl, by rw [di]; exact god⟩
  exact HandSPX.exc_get J.kIn inst T.ga T.gg T.exC (PySem.W.findObj_own T.hdC free rfl ((look f).trans (congrArg some ey))) (handed_of ry) ⟨v, G, J.tok _, ry, q⟩
/-- isinstance(e, c) of a kept exception of the class D; a dict that it has is in our heap -/
def rIsK (K : PySem.W.Frag) : List V → Hp → VK → Prop := fun xs H Q => ∃ (e D : Addr) (c : V) (cv : Value) (b : Bool), xs = [.ref e, c] ∧ (∃ d, H e = some (exK (.ref D) d e) ∧ ∀ dd, d = some dd → ∃ fs, H dd = some (.xd fs)) ∧ ExcC K D ∧ (∀ u, RelV c u → u = cv) ∧ PySem.W.kitOne K (.ref D) cv = some b ∧ Q (.bl b) H
theorem call_isK : CallR X (.builtin "isinstance") (rIsK X.K) := by
  intro pins s σ H xs us Q I r rd
  obtain ⟨e, D, c, cv, b, rfl, ⟨d, here, own⟩, C, only, says, q⟩ := rd
  obtain ⟨u1, u2, rfl, r1, r2⟩ := vals2 r
  cases (show u1 = Value.ref e from r1)
  cases only _ r2
  obtain ⟨o, vs, go, ⟨cl, di⟩, da⟩ := exK_at I.hok here
  obtain ⟨od, inst⟩ : ∃ od, PySem.W.InstAt s.heap e o D od := by
    cases d with
    | none => exact ⟨none, go, cl, by unfold PySem.W.notCls; rw [da] <;> rfl, by rw [di]; trivial⟩
    | some dd =>
      obtain ⟨fs, has⟩ := own dd rfl
      obtain ⟨mA, ns, _⟩ : ObjOk X.prog X.w H s.heap dd (.xd fs) := I.hok dd _ has
      obtain ⟨od, god, _⟩ := lookIn_ns ns
      exact ⟨some od, go, cl, by unfold PySem.W.notCls; rw [da] <;> rfl, by rw [di]; exact god⟩
  exact PySem.W.kia_one (kitK C) I.kIn inst says (fun z => nomatch z) fun tk => ⟨.bl b, H, I.kept (t' := tk) fun _ _ z => z, rfl, q⟩
end
end HSP
namespace HSP
open PySem PySem.Spec PyProof.Rows L2
/-! ## a def that may raise, called by its name -/
structure DfX (P : Program) (w : World) (K : PySem.W.Frag) (mg : Str → Option Value) (base : Heap) (x : Str) (n : Nat) (ps : List Str) (sp : Sp) : Prop where
  ex : ∃ (f : Addr) (fd : FuncData), mg x = some (.ref f) ∧ PySem.W.keepIn K (.ref f) = true ∧ Binds K fd ps [] ∧ FnOk P w K mg base (L2.CX P w) n f fd ps sp
section
variable {P : Program} {w : World} {K : PySem.W.Frag} {mg : Str → Option Value} {base : Heap}
theorem DfX.mk' {x : Str} {st : Stmt} {N ps : List Str} {k : Nat} {sp : Sp} (a : At K mg x st) (S : FnScope N ps (defScope st)) (len : ∀ vs H Q E, sp vs H Q E → vs.length = ps.length)
    (hb : ∀ (kV doc pm : Value) (an : Option Addr) (cdv ct : Value) (us : List Value), us.length = ps.length → bindArgs (PySem.W.fnOf x x (defArgs st) (defBody st) (defScope st) .none kV doc pm an cdv ct) ⟨us, []⟩ = pure (ps.zip us))
    (body : ∀ (f : Addr) (cdv : Value) (A : Around) (outer : List Env) (s : Shared) (H : Hp) (vs : List V) (Q : VK) (E : XK), Room k (A.deeper (envOfC x (defScope st) s.heap.objs.size f cdv)) → sp vs H Q E →
      ∃ t, PSs (cxOf (L2.CX P w) P w K mg base N x (defScope st) f cdv A outer s H E) (defBody st) t ∧ t { nx := fun _ H' => Q .non H', rt := Q } (start N vs) H) : DfX P w K mg base x (k + 1) ps sp := by
  obtain ⟨f, fd, named, F⟩ := a
  exact ⟨f, fd, named, F.kp, F.binds hb, F.okX S len (body f)⟩
theorem DfX.mono {x : Str} {j k : Nat} {ps : List Str} {sp : Sp} (D : DfX P w K mg base x j ps sp) (h : j ≤ k) : DfX P w K mg base x k ps sp := by
  obtain ⟨f, fd, a, b, c, d⟩ := D.ex
  exact ⟨f, fd, a, b, c, d.mono h⟩
end
section
variable {X : Cx} {k : Nat} {ps : List Str} {sp : Sp} {x : Str} {p pos : Pos} {e : Expr} {es : List Expr} {t : TA} {W : WX}
theorem pe_dfX (D : DfX X.prog X.w X.K X.mg X.base x k ps sp) (hr : Room k X.A) (tk : Takes X W) (ha : PA X (e :: es) t) (hg : Gl X x := by rfl) (hdb : (x == ("__debug__" : Str)) = false := by decide)
    (he : starEach (e :: es) X.env = (false, eval e X.env) :: starEach es X.env := by rfl) (hpl : (backTo pos (starEach es X.env)).any (·.1) = false := by rfl) : PE X (.Call (.Name x p) (e :: es) [] pos) (tCallS sp (WE W) t) := by
  obtain ⟨f, fd, named, kept, binds, F⟩ := D.ex
  exact pe_callS F hr hg named kept binds (fun σ => passAt tk σ) ha hdb he hpl
end
end HSP
namespace HSP
open PySem PySem.Spec PyProof.Rows L2
/-! ### is_tree of anything -/
/-- a thing: None; a pair of things; anything else -/
inductive Th where
  | nil
  | bad
  | nod (l r : Th)
def Th.size : Th → Nat
  | .nil => 0
  | .bad => 0
  | .nod l r => l.size + 1 + r.size
def Th.good : Th → Bool
  | .nil => true
  | .bad => false
  | .nod l r => l.good && r.good
def BadV (K : PySem.W.Frag) (H : Hp) (v : V) : Prop := v ≠ .non ∧ ((∃ t, TyX K H v t ∧ PySem.W.kitOne K t (.type "tuple") = some false) ∨ ∃ a xs, v = .ref a ∧ H a = some (.tup xs) ∧ xs.length ≠ 2)
theorem TyX.same {K : PySem.W.Frag} {H H' : Hp} {v : V} {t : Value} (s : Same H H') (h : TyX K H v t) : TyX K H' v t := by
  cases h with
  | base b =>
    refine .base ?_
    cases b with
    | non => exact .non
    | bl x => exact .bl x
    | int x => exact .int x
    | str x => exact .str x
    | flt x => exact .flt x
    | lst e => exact .lst (s _ _ e)
    | frz e => exact .frz (s _ _ e)
    | tup e => exact .tup (s _ _ e)
    | dK e => exact .dK (s _ _ e)
    | dT e => exact .dT (s _ _ e)
    | ins e a b c d f => exact .ins (s _ _ e) a b c d f
  | byt b => exact .byt b
  | set e => exact .set (s _ _ e)
  | kList e c => exact .kList e c
  | kTuple e c => exact .kTuple e c
  | kDict e c => exact .kDict e c
  | fTuple e => exact .fTuple (s _ _ e)
  | fDict e => exact .fDict (s _ _ e)
inductive ThAt (K : PySem.W.Frag) (H : Hp) : V → Th → Prop
  | nil : ThAt K H .non .nil
  | bad {v : V} (b : BadV K H v) : ThAt K H v .bad
  | nod {a : Addr} {x y : V} {l r : Th} : H a = some (.tup [x, y]) → ThAt K H x l → ThAt K H y r → ThAt K H (.ref a) (.nod l r)
inductive WaitT (K : PySem.W.Frag) (H : Hp) : List V → List Th → Prop
  | nil : WaitT K H [] []
  | cons {v : V} {t : Th} {vs : List V} {ts : List Th} : ThAt K H v t → WaitT K H vs ts → WaitT K H (v :: vs) (t :: ts)
def sizesT : List Th → Nat
  | [] => 0
  | t :: r => t.size + sizesT r
def turnsT : List Th → Nat
  | [] => 0
  | t :: r => 2 * t.size + 1 + turnsT r
section
variable {P : Program} {w : World} {K : PySem.W.Frag} {mg : Str → Option Value} {base : Heap}
def spTreeX (K : PySem.W.Frag) : Sp := fun vs H Q _ => ∃ (v : V) (t : Th), vs = [v] ∧ ThAt K H v t ∧ t.size ≤ 1000 ∧ ∀ H', Same H H' → Q (.bl t.good) H'
theorem sc_treeX : FnScope n_is_tree ["thing"] (defScope s_is_tree) := ⟨rfl, rfl, rfl, by decide +kernel, rfl, by decide +kernel, by decide +kernel⟩
theorem ok_treeX (B : Bl mg) (a : At K mg "is_tree" s_is_tree) : Df P w K mg base "is_tree" 1 ["thing"] (spTreeX K) := by
  refine Df.mk' a sc_treeX (fun vs H Q E h => ?_) (fun _ _ _ _ _ _ us hl => match us, hl with | [_], _ => rfl) (fun f cdv A outer s H vs Q E hr h => ?_)
  · obtain ⟨v, t, rfl, _⟩ := h
    rfl
  obtain ⟨v, t, rfl, ht, hz, q⟩ := h
  refine ⟨_, (pss_cons (ps_set (i := 1) sc_treeX.nd rfl (.inl rfl) (pe_lst (pa_cons (pv 0) pa_nil)))
 (pss_cons (ps_while PassesOwn.never (pt_truth (pv 1) (by intro _; rfl)) (pss_cons (ps_set (i := 2) sc_treeX.nd rfl (.inl rfl) (pe_bm0 PySem.F.plainAttrs_list PySem.F.slot_list_pop PySem.F.type_list_pop mt_pop (pv 1)))
 (pss_one (ps_if (pt_cmpR op_notN (pv 2) pe_non (nomark _)) (pss_cons (ps_if (PW.pt (pw_or (pt_not (pt_val (pe_callB call_isi (by rfl) B.isinstance (by decide +kernel) (pa_cons (pv 2) (pa_cons (pe_bltn (v := .ty "tuple") (by rfl) B.tuple (by decide +kernel) rfl) pa_nil))))) (pw_or1 (pt_cmpR op_ne (pe_callB call_len_seq (by rfl) B.len PySem.boot_len (pa_cons (pv 2) pa_nil)) pe_int (nomark _))))) (pss_one (ps_ret pe_bl)) pss_nil)
 (pss_cons (ps_expr (pe_bm PySem.F.plainAttrs_list PySem.F.slot_list_append PySem.F.type_list_append mt_append (pv 1) (pa_cons (pe_ix ix_tup (pv 2) pe_int (fun _ _ => rfl)) pa_nil)))
 (pss_one (ps_expr (pe_bm PySem.F.plainAttrs_list PySem.F.slot_list_append PySem.F.type_list_append mt_append (pv 1) (pa_cons (pe_ix ix_tup (pv 2) pe_int (fun _ _ => rfl)) pa_nil)))))) pss_nil))))
 (pss_one (ps_ret pe_bl)))), ?_⟩
  refine ⟨v, rfl, (by show 1 ≤ sizeLine; decide), fun l hl => ?_⟩
  have s0 : Same H (upd H l (.lst [v])) := Same.new hl
  refine ⟨fun m σ H1 => ∃ (vs : List V) (ts : List Th) (n : Nat) (y : Option V), σ = [some v, some (.ref l), y] ∧ Same H H1 ∧ H1 l = some (.lst vs.reverse) ∧ WaitT K H vs ts ∧ n + sizesT ts = t.size ∧ vs.length ≤ n + 1 ∧ ts.all Th.good = t.good ∧ m = turnsT ts,
    ⟨_, [v], [t], 0, none, rfl, s0, upd_same, .cons ht .nil, by show 0 + (t.size + 0) = t.size; omega, by show 1 ≤ 0 + 1; omega, by show (t.good && true) = t.good; rw [Bool.and_true], rfl⟩, fun m σ H1 hW => ?_⟩
  obtain ⟨vs, ts, n, y, rfl, sm, el, hw, hn, hlen, good, rfl⟩ := hW
  refine ⟨.ref l, rfl, !vs.reverse.isEmpty, .inl ⟨_, .of el, rfl⟩, ?_⟩
  rw [rev_empty]
  cases hw with
  | nil =>
    rw [← good] at q
    exact iteF (q _ sm)
  | @cons x u xs us hx hxs =>
    refine iteT ⟨fun σ' H' => ∃ m', m' < turnsT (u :: us) ∧ ∃ (vs : List V) (ts : List Th) (n : Nat) (y : Option V), σ' = [some v, some (.ref l), y] ∧ Same H H' ∧ H' l = some (.lst vs.reverse) ∧ WaitT K H vs ts ∧ n + sizesT ts = t.size ∧ vs.length ≤ n + 1 ∧ ts.all Th.good = t.good ∧ m' = turnsT ts,
      fun σ' H' hN => hN, ?_⟩
    refine ⟨.ref l, rfl, .inl ⟨rfl, _, .of el⟩, l, _, x, rfl, rfl, el, last_rev, ?_⟩
    rw [drop_rev]
    have sm2 : Same H (upd H1 l (.lst xs.reverse)) := fun b o e => by rw [upd_ne (ne_of_none e hl)]; exact sm b o e
    refine ⟨x, rfl, rfl, _, rfl, ?_⟩
    cases hx with
    | nil =>
      refine iteF ?_
      refine ⟨_, ?_, xs, us, n, _, rfl, sm2, upd_same, hxs, ?_, ?_, good, rfl⟩
      · show turnsT us < 2 * 0 + 1 + turnsT us; omega
      · have : 0 + sizesT us = sizesT (Th.nil :: us) := rfl
        omega
      · rw [List.length_cons] at hlen; omega
    | bad b =>
      have is : t.good = false := good.symm
      rw [is] at q
      obtain ⟨not, b⟩ := b
      rw [show (!decide (x = V.non)) = true by rw [decide_eq_false not]; rfl]
      refine iteT ?_
      rcases b with ⟨ty, k, no⟩ | ⟨a, xs2, rfl, e, two⟩
      · refine ⟨_, rfl, _, _, _, _, false, rfl, .ty "tuple", TyX.same sm2 k, no, false, rfl, iteT ?_⟩
        exact q _ sm2
      · refine ⟨_, rfl, _, _, _, _, true, rfl, .ty "tuple", .base (.tup (sm2 _ _ e)), rfl, true, rfl, iteF ?_⟩
        refine ⟨_, rfl, a, _, rfl, .inr (.of (sm2 _ _ e)), rfl, _, rfl, ?_⟩
        rw [show (!decide (V.int ((xs2.length : Nat) : Int) = V.int 2)) = true by rw [decide_eq_false (fun z => two (by have := V.int.inj z; omega))]; rfl]
        exact iteT (q _ sm2)
    | @nod a x1 y1 l1 r1 ea hl1 hr1 =>
      refine iteT ?_
      have e2 : (upd H1 l (.lst xs.reverse)) a = some (.tup [x1, y1]) := sm2 _ _ ea
      refine ⟨_, rfl, _, _, _, _, true, rfl, .ty "tuple", .base (.tup e2), rfl, true, rfl, iteF ?_⟩
      refine ⟨_, rfl, a, _, rfl, .inr (.of e2), rfl, _, rfl, iteF ?_⟩
      refine ⟨_, rfl, .inl ⟨rfl, _, .of upd_same⟩, _, rfl, a, _, _, y1, rfl, rfl, .of e2, atI_nat (j := 1) rfl, l, _, _, rfl, rfl, upd_same, ?_, ?_⟩
      · rw [List.length_reverse]
        rw [List.length_cons] at hlen
        exact small1000 (by omega)
      refine ⟨_, rfl, .inl ⟨rfl, _, .of upd_same⟩, _, rfl, a, _, _, x1, rfl, rfl, .of (by rw [upd_ne (ne_of_none ea hl)]; exact e2), atI_nat (xs := [x1, y1]) (j := 0) rfl, l, _, _, rfl, rfl, upd_same, ?_, ?_⟩
      · rw [List.length_append, List.length_reverse, List.length_singleton]
        rw [List.length_cons] at hlen
        have e1 : sizesT (Th.nod l1 r1 :: us) = (l1.size + 1 + r1.size) + sizesT us := rfl
        exact small1000 (by omega)
      rw [rev_push, rev_push]
      refine ⟨_, ?_, x1 :: y1 :: xs, l1 :: r1 :: us, n + 1, _, rfl, fun b o e => ?_, upd_same, .cons hl1 (.cons hr1 hxs), ?_, ?_, ?_, rfl⟩
      · show 2 * l1.size + 1 + (2 * r1.size + 1 + turnsT us) < 2 * (l1.size + 1 + r1.size) + 1 + turnsT us
        omega
      · rw [upd_ne (ne_of_none e hl), upd_ne (ne_of_none e hl)]
        exact sm2 b o e
      · have e1 : sizesT (Th.nod l1 r1 :: us) = (l1.size + 1 + r1.size) + sizesT us := rfl
        show n + 1 + (l1.size + (r1.size + sizesT us)) = t.size
        omega
      · rw [List.length_cons, List.length_cons]
        rw [List.length_cons] at hlen
        omega
      · rw [← good]
        show (l1.good && (r1.good && us.all Th.good)) = ((l1.good && r1.good) && us.all Th.good)
        rw [Bool.and_assoc]
end
end HSP
namespace HSP
open PySem PySem.Spec PyProof.Rows L2
/-! ### is_whole of anything -/
section
variable {P : Program} {w : World} {K : PySem.W.Frag} {mg : Str → Option Value} {base : Heap}
/-- whether a thing is a whole number -/
def WholeV (K : PySem.W.Frag) (H : Hp) (x : V) (b : Bool) : Prop := ∃ (t : Value) (b1 b2 : Bool), TyX K H x t ∧ PySem.W.kitOne K t (.type "int") = some b1 ∧ PySem.W.kitOne K t (.type "bool") = some b2 ∧ b = (b1 && !b2)
def spWholeX (K : PySem.W.Frag) : Sp := fun vs H Q _ => ∃ (x : V) (b : Bool), vs = [x] ∧ WholeV K H x b ∧ Q (.bl b) H
theorem sc_wholeX : FnScope n_is_whole ["thing"] (defScope s_is_whole) := ⟨rfl, rfl, rfl, by decide +kernel, rfl, by decide +kernel, by decide +kernel⟩
theorem ok_wholeX (B : Bl mg) (a : At K mg "is_whole" s_is_whole) : Df P w K mg base "is_whole" 1 ["thing"] (spWholeX K) := by
  refine Df.mk' a sc_wholeX (fun vs H Q E h => ?_) (fun _ _ _ _ _ _ us hl => match us, hl with | [_], _ => rfl) (fun f cdv A outer s H vs Q E hr h => ?_)
  · obtain ⟨x, b, rfl, _⟩ := h
    rfl
  obtain ⟨x, b, rfl, ⟨t, b1, b2, ty, k1, k2, rfl⟩, q⟩ := h
  refine ⟨_, (pss_one (ps_ret (pe_and (pe_callB call_isi (by rfl) B.isinstance (by decide +kernel) (pa_cons (pv 0) (pa_cons (pe_bltn (v := .ty "int") (by rfl) B.int (by decide +kernel) rfl) pa_nil))) (pe_one (pe_not (pe_callB call_isi (by rfl) B.isinstance (by decide +kernel) (pa_cons (pv 0) (pa_cons (pe_bltn (v := .ty "bool") (by rfl) B.bool (by decide +kernel) rfl) pa_nil)))))))), ?_⟩
  refine ⟨_, rfl, _, _, _, _, b1, rfl, .ty "int", ty, k1, ?_⟩
  cases b1 with
  | false => exact ⟨false, rfl, iteF q⟩
  | true =>
    refine ⟨true, rfl, iteT ?_⟩
    refine ⟨_, rfl, _, _, _, _, b2, rfl, .ty "bool", ty, k2, b2, rfl, ?_⟩
    exact q
theorem WholeV.same {H H' : Hp} {x : V} {b : Bool} (s : Same H H') (h : WholeV K H x b) : WholeV K H' x b := by
  obtain ⟨t, b1, b2, ty, k⟩ := h
  exact ⟨t, b1, b2, TyX.same s ty, k⟩
end
end HSP
namespace HSP
open PySem PySem.Spec PyProof.Rows L2
/-! ## check_wishes, can_keep -/
section
variable {P : Program} {w : World} {K : PySem.W.Frag} {mg : Str → Option Value} {base : Heap}
theorem sc_check_wishes : FnScope n_check_wishes ["tree", "values", "wished"] (defScope s_check_wishes) := ⟨rfl, rfl, rfl, by decide +kernel, rfl, by decide +kernel, by decide +kernel⟩
def spChkWs : Sp := fun vs H Q _ => ∃ (v : V) (t : Tr) (a W : Addr) (ns : List Int) (ws : List Nat), vs = [v, .ref a, .ref W] ∧ TrAt H v t ∧ t.size ≤ 30 ∧ H a = some (.lst (ns.map V.int)) ∧ ns.length = t.size ∧ H W = some (.lst (ws.map natV)) ∧ ws.Nodup ∧ (∀ x, x ∈ ws → x < t.size) ∧ ∀ H', Same H H' → Q .non H'
theorem ok_chkWs (Cv : Df P w K mg base "check_values" 3 ["tree", "values"] spChkV) (Cw : Df P w K mg base "check_wished" 3 ["tree", "wished"] spChkWd) (a : At K mg "check_wishes" s_check_wishes) : Df P w K mg base "check_wishes" 4 ["tree", "values", "wished"] spChkWs := by
  refine Df.mk' a sc_check_wishes (fun vs H Q E h => ?_) (fun _ _ _ _ _ _ us hl => match us, hl with | [_, _, _], _ => rfl) (fun f cdv A outer s H vs Q E hr h => ?_)
  · obtain ⟨_, _, _, _, _, _, rfl, _⟩ := h
    rfl
  obtain ⟨v, t, av, W, ns, ws, rfl, ht, hz, ea, la, eW, nd, lt, q⟩ := h
  refine ⟨_, (pss_cons (ps_expr (pe_df Cv hr (pa_cons (pv 0) (pa_cons (pv 1) pa_nil))))
 (pss_one (ps_expr (pe_df Cw hr (pa_cons (pv 0) (pa_cons (pv 2) pa_nil)))))), ?_⟩
  refine ⟨_, rfl, _, rfl, v, t, av, ns, rfl, ht, by omega, ea, la, fun H1 s1 => ?_⟩
  exact ⟨_, rfl, _, rfl, v, t, W, ws, rfl, ht.same s1, by omega, s1 _ _ eW, nd, lt, fun H2 s2 => q H2 (s1.trans s2)⟩
theorem NodesW.uniq {t : Tr} {ws N M : List Nat} (h : NodesW t ws N) (g : NodesW t ws M) : N = M :=
  List.Perm.eq_of_pairwise (fun a b _ _ h1 h2 => absurd h1 (Nat.lt_asymm h2)) h.1 g.1 ((List.perm_ext_iff_of_nodup (h.1.imp fun {a b} z => Nat.ne_of_lt z) (g.1.imp fun {a b} z => Nat.ne_of_lt z)).mpr fun x => (h.2 x).trans (g.2 x).symm)
theorem kvN_noneZ : ∀ {prs : List (Nat × Addr)} {z : Int}, (∀ n : Nat, n ∈ prs.map (·.1) → (n : Int) ≠ z) → valV (kvN prs) (Sum.inl z) = none
  | [], _, _ => rfl
  | (y, b) :: r, z, h => by
    show valV ((Sum.inl (y : Int), V.ref b) :: kvN r) _ = none
    rw [valV_neg (fun e => h y List.mem_cons_self (Sum.inl.inj e))]
    exact kvN_noneZ fun n hn => h n (List.mem_cons_of_mem _ hn)
theorem whole_intW {H : Hp} {i : Int} : WholeV K H (.int i) true := ⟨.type "int", true, false, .base (.int i), kit_ty (by decide +kernel), kit_ty (by decide +kernel), rfl⟩
/-- not a list -/
def NotLw (K : PySem.W.Frag) (H : Hp) (y : V) : Prop := ∃ t, TyX K H y t ∧ PySem.W.kitOne K t (.type "list") = some false
theorem NotLw.same {H H' : Hp} {y : V} (s : Same H H') (h : NotLw K H y) : NotLw K H' y := by
  obtain ⟨t, ty, k⟩ := h
  exact ⟨t, TyX.same s ty, k⟩
/-- what is asked to be kept: no list; nodes of N, each once, up to the first that is none; all nodes -/
def KeptAt (K : PySem.W.Frag) (H : Hp) (kp : V) (N : List Nat) (due : List Nat → Bool) (b : Bool) : Prop :=
  (NotLw K H kp ∧ b = false) ∨ ∃ (k : Addr) (ks : List Nat), kp = .ref k ∧ ks.length ≤ 60 ∧ ks.Nodup ∧ (∀ x, x ∈ ks → x ∈ N) ∧
    ((H k = some (.lst (ks.map natV)) ∧ b = due ks) ∨ ∃ (x : V) (r : List V), H k = some (.lst (ks.map natV ++ x :: r)) ∧ b = false ∧
      (WholeV K H x false ∨ ∃ z : Int, x = .int z ∧ ((∀ n : Nat, n ∈ N → (n : Int) ≠ z) ∨ ∃ n : Nat, n ∈ ks ∧ (n : Int) = z)))
/-- no two of them in conflict -/
def freeOf (D : Nat → Nat → Nat) (v : Nat → Int) (n : Nat) (ks : List Nat) : Bool := !(ks.any fun a => ks.any fun b => decide (b ∈ confOf D v n a))
theorem sc_can_keep : FnScope n_can_keep ["tree", "values", "wished", "kept"] (defScope s_can_keep) := ⟨rfl, rfl, rfl, by decide +kernel, rfl, by decide +kernel, by decide +kernel⟩
def spCanKeep (K : PySem.W.Frag) : Sp := fun vs H Q _ => ∃ (v : V) (t : Tr) (a W : Addr) (ns : List Int) (ws : List Nat) (kp : V) (N : List Nat) (D : Nat → Nat → Nat) (b : Bool), vs = [v, .ref a, .ref W, kp] ∧ TrAt H v t ∧ t.size ≤ 30 ∧ H a = some (.lst (ns.map V.int)) ∧ ns.length = t.size ∧ H W = some (.lst (ws.map natV)) ∧ ws.Nodup ∧ (∀ x, x ∈ ws → x < t.size) ∧
  NodesW t ws N ∧ AllL (EdW t ws) D ∧ KeptAt K H kp N (freeOf D (valAt ns) t.size) b ∧ ∀ H', Same H H' → Q (.bl b) H'
theorem okB_canKeep (B : Bl mg) (An : mg "any" = none) (Cs : Df P w K mg base "check_wishes" 4 ["tree", "values", "wished"] spChkWs) (Co : Df P w K mg base "conflicts" 6 ["tree", "values", "wished"] spConf) (Wh : Df P w K mg base "is_whole" 1 ["thing"] (spWholeX K)) (a : At K mg "can_keep" s_can_keep) : DfB P w K mg base "can_keep" 7 ["tree", "values", "wished", "kept"] ["kept", "wished", "values", "tree"] (spCanKeep K) := by
  refine DfB.mk' a sc_can_keep (fun vs H Q E h => ?_) (fun _ _ _ _ _ _ us hl => match us, hl with | [_, _, _, _], _ => rfl) (fun _ _ _ _ _ _ us hl => match us, hl with | [_, _, _, _], _ => rfl) (fun f cdv A outer s H vs Q E hr h => ?_)
  · obtain ⟨_, _, _, _, _, _, _, _, _, _, rfl, _⟩ := h
    rfl
  obtain ⟨v, t, av, W, ns, ws, kp, N, D, b, rfl, ht, hz, ea, la, eW, nd, lt, hN, aD, hk, q⟩ := h
  have lw : ws.length ≤ t.size := few_below t.size nd lt
  refine ⟨_, (pss_cons (ps_expr (pe_df Cs (hr.mono (by decide)) (pa_cons (pv 0) (pa_cons (pv 1) (pa_cons (pv 2) pa_nil)))))
 (pss_cons (ps_set (i := 4) sc_can_keep.nd rfl (.inr rfl) (pe_df Co hr (pa_cons (pv 0) (pa_cons (pv 1) (pa_cons (pv 2) pa_nil)))))
 (pss_cons (ps_if (pt_not (pt_val (pe_callB call_isi (by rfl) B.isinstance (by decide +kernel) (pa_cons (pv 3) (pa_cons (pe_bltn (v := .ty "list") (by rfl) B.list (by decide +kernel) rfl) pa_nil))))) (pss_one (ps_ret pe_bl)) pss_nil)
 (pss_cons (ps_for PassesOwn.never rfl (pi_enum (by rfl) B.enumerate (pa_cons (pv 3) pa_nil)) (pg_tup rfl (pgs_cons (pg_name (i := 5) sc_can_keep.nd rfl (.inl rfl)) (pgs_cons (pg_name (i := 6) sc_can_keep.nd rfl (.inl rfl)) pgs_nil))) (pss_one (ps_if (PW.pt (pw_or (pt_not (pt_val (pe_df Wh (hr.mono (by decide)) (pa_cons (pv 6) pa_nil)))) (pw_or (pt_cmp (pc_dnotin (hu_of hr) (pv 6) (pv 4))) (pw_or1 (pt_cmpR (show OpR _ (compareOp .In) (rIn K false) from op_in_seq) (pv 6) (pe_slice sl_list (pv 3) po_none (po_some (pv 5))) (by rfl)))))) (pss_one (ps_ret pe_bl)) pss_nil)))
 (pss_one (ps_ret (pe_not (pe_callB (cr_any rfl) (by rfl) An (by decide +kernel) (pa_cons (pe_lc2 (own := [("one", 7), ("other", 8)]) (vs1 := [8]) (g := (gName 7)) (g1 := (gName 8)) (tt := tYes) (tt1 := tYes) (by rfl) sc_can_keep.nd (show PI _ _ _ (iList K _) from pi_list (pv 3)) (blkOk_by (N := n_can_keep) (sc := defScope s_can_keep) (by decide +kernel)) (by decide) (fun _ _ _ _ _ => (pg_name (i := 7) sc_can_keep.nd rfl (.inl rfl))) (fun _ _ _ _ _ => pts_nil) (fun _ _ _ _ _ => by exact (show PI _ _ _ (iList K _) from pi_list (pv 3))) (fun _ _ _ _ _ => (pg_name (i := 8) sc_can_keep.nd rfl (.inl rfl))) (fun _ _ _ _ _ => pts_nil) (fun _ _ _ _ _ => (pe_cmpR (show OpR _ (compareOp .In) (rIn K false) from op_in_seq) (pv 8) (pe_dget (hu_of hr) (pv 4) (pv 7) (fun _ _ => rfl)) (by rfl)))) pa_nil))))))))), ?_⟩
  refine ⟨_, rfl, _, rfl, _, rfl, v, t, av, W, ns, ws, rfl, ht, hz, ea, la, eW, nd, lt, fun H1 s1 => ?_⟩
  refine ⟨_, rfl, _, rfl, _, rfl, v, t, av, W, ns, ws, rfl, ht.same s1, hz, s1 _ _ ea, la, s1 _ _ eW, lw, lt, fun H2 R N2 D2 s2 nR hN2 aD2 rows => ?_⟩
  obtain rfl := hN2.uniq hN
  have eD : confOf D2 (valAt ns) t.size = confOf D (valAt ns) t.size := by
    funext a
    unfold confOf
    refine List.filter_congr fun b _ => ?_
    rw [(aD2 a).uniq (aD a) b]
  rw [eD] at rows
  obtain ⟨prs, eR, kR, rR⟩ := rows
  have s02 := s1.trans s2
  rcases hk with ⟨nl, rfl⟩ | ⟨k, ks, rfl, l60, ndk, inN, hk⟩
  · obtain ⟨ty, hty, kit⟩ := nl.same s02
    exact ⟨_, rfl, _, _, _, _, false, rfl, .ty "list", hty, kit, false, rfl, iteT (q _ s02)⟩
  obtain ⟨xs, rest, ek, rfl⟩ : ∃ xs rest, H k = some (.lst xs) ∧ xs = ks.map natV ++ rest := by
    rcases hk with ⟨e, _⟩ | ⟨x, r, e, _⟩
    · exact ⟨_, [], e, by rw [List.append_nil]⟩
    · exact ⟨_, _, e, rfl⟩
  have ek2 := s02 _ _ ek
  refine ⟨_, rfl, _, _, _, _, true, rfl, .ty "list", .base (.lst ek2), rfl, true, rfl, iteF ?_⟩
  refine ⟨_, rfl, k, _, rfl, .of ek2, for_it (walk_enum (K := K) (a := k) (xs := ks.map natV ++ rest)) (fun i σ H' => (∃ y5 y6 : Option V, σ = [some v, some (.ref av), some (.ref W), some (.ref k), some (.ref R), y5, y6, none, none]) ∧ Same H2 H' ∧ i ≤ ks.length) ⟨⟨_, _, rfl⟩, .refl _, Nat.zero_le _⟩ (fun i σ H' _ h' => .of (h'.2.1 _ _ ek2)) (fun i x σ H3 H4 hi h3 hy => ?_) (fun σ H3 h3 => ?_)⟩
  · obtain ⟨⟨y5, y6, rfl⟩, s3, li⟩ := h3
    obtain ⟨T, x1, x2, rfl, nT, rfl, g1, g2⟩ := hy
    obtain rfl : V.int ((i : Nat) : Int) = x1 := Option.some.inj g1
    have g2 : (ks.map natV ++ rest)[i]? = some x2 := g2
    have sT := Same.new (o := .tup [V.int ((i : Nat) : Int), x2]) nT
    have s04 := s02.trans (s3.trans sT)
    have eR4 := sT _ _ (s3 _ _ eR)
    have ek4 := s04 _ _ ek
    refine ⟨T, _, rfl, .of upd_same, rfl, _, _, rfl, _, [], rfl, rfl, ?_⟩
    by_cases c : i < ks.length
    · rw [List.getElem?_append_left (by rw [List.length_map]; exact c), List.getElem?_map, List.getElem?_eq_getElem c] at g2
      obtain rfl : natV ks[i] = x2 := Option.some.inj g2
      have hm := List.getElem_mem c
      have nin := take_new (List.pairwise_iff_getElem.mpr (List.pairwise_iff_getElem.mp ndk)) (List.getElem?_eq_getElem c)
      generalize ks[i] = x at hm nin eR4 ek4 s04 sT ⊢
      obtain ⟨ad, had, vad⟩ := kvN_get (prs := prs) (x := x) (by rw [kR]; exact List.mem_reverse.mpr (inN x hm))
      refine ⟨_, rfl, natV x, true, rfl, whole_intW, true, rfl, iteF ?_⟩
      refine ⟨_, rfl, _, rfl, R, some (V.ref ad), rfl, .inl ⟨kvN prs, Sum.inl (x : Int), .inl eR4, rfl, vad.symm⟩, false, rfl, iteF ?_⟩
      refine ⟨_, rfl, _, rfl, _, rfl, _, rfl, k, _, rfl, .of ek4, fun S nS => ?_⟩
      have eS : cutV (ks.map natV ++ rest) none (some ((i : Nat) : Int)) = (ks.take i).map natV := by
        rw [cut_to, List.take_append_of_le_length (by rw [List.length_map]; omega), List.map_take]
      rw [eS]
      refine ⟨S, _, rfl, .inl (.of upd_same), rfl, flat_nats _, _, rfl, ?_⟩
      rw [show (if false = true then !inV (natV x) ((ks.take i).map natV) else inV (natV x) ((ks.take i).map natV)) = decide (x ∈ ks.take i) from inV_nat x _, decide_eq_false nin]
      exact iteF ⟨⟨_, _, rfl⟩, s3.trans (sT.trans (Same.new nS)), c⟩
    · have ei : i = ks.length := by omega
      subst ei
      rcases hk with ⟨e, _⟩ | ⟨x, r, e, rfl, bad⟩
      · exfalso
        rw [ek] at e
        have := congrArg List.length (HO.lst.inj (Option.some.inj e))
        rw [this, List.length_map] at hi
        omega
      rw [ek] at e
      have e2 := HO.lst.inj (Option.some.inj e)
      rw [e2, List.getElem?_append_right (by rw [List.length_map]; exact Nat.le_refl _), List.length_map, Nat.sub_self] at g2
      obtain rfl : x = x2 := Option.some.inj g2
      rcases bad with wh | ⟨z, rfl, bad⟩
      · exact ⟨_, rfl, x, false, rfl, wh.same s04, false, rfl, iteT (q _ s04)⟩
      · refine ⟨_, rfl, V.int z, true, rfl, whole_intW, true, rfl, iteF ?_⟩
        by_cases inz : ∃ n : Nat, n ∈ N2 ∧ (n : Int) = z
        · obtain ⟨n, hn, rfl⟩ := inz
          obtain ⟨m, hm, em⟩ := bad.resolve_left fun h => h n hn rfl
          obtain rfl : m = n := by omega
          obtain ⟨ad, had, vad⟩ := kvN_get (prs := prs) (x := m) (by rw [kR]; exact List.mem_reverse.mpr hn)
          refine ⟨_, rfl, _, rfl, R, some (V.ref ad), rfl, .inl ⟨kvN prs, Sum.inl (m : Int), .inl eR4, rfl, vad.symm⟩, false, rfl, iteF ?_⟩
          refine ⟨_, rfl, _, rfl, _, rfl, _, rfl, k, _, rfl, .of ek4, fun S nS => ?_⟩
          have eS : cutV (ks.map natV ++ rest) none (some ((ks.length : Nat) : Int)) = ks.map natV := by
            rw [cut_to, List.take_append_of_le_length (by rw [List.length_map]; exact Nat.le_refl _), List.take_of_length_le (by rw [List.length_map]; exact Nat.le_refl _)]
          rw [eS]
          refine ⟨S, _, rfl, .inl (.of upd_same), rfl, flat_nats _, _, rfl, ?_⟩
          rw [show (if false = true then !inV (V.int (m : Int)) (ks.map natV) else inV (V.int (m : Int)) (ks.map natV)) = decide (m ∈ ks) from inV_nat m _, decide_eq_true hm]
          exact iteT (q _ (s04.trans (Same.new nS)))
        · refine ⟨_, rfl, _, rfl, R, none, rfl, .inl ⟨kvN prs, Sum.inl z, .inl eR4, rfl, (kvN_noneZ fun n hn en => inz ⟨n, List.mem_reverse.mp (by rw [← kR]; exact hn), en⟩).symm⟩, true, rfl, iteT (q _ s04)⟩
  · obtain ⟨⟨y5, y6, rfl⟩, s3, li⟩ := h3
    have er : rest = [] := by
      rw [List.length_append, List.length_map] at li
      exact List.length_eq_zero_iff.mp (by omega)
    subst er
    rw [List.append_nil] at ek ek2
    have eb : b = freeOf D (valAt ns) t.size ks := by
      rcases hk with ⟨_, e⟩ | ⟨x, r, e, _⟩
      · exact e
      · exfalso
        rw [ek] at e
        have := congrArg List.length (HO.lst.inj (Option.some.inj e))
        rw [List.length_append, List.length_cons] at this
        omega
    have ek3 := s3 _ _ ek2
    have eR3 := s3 _ _ eR
    refine ⟨_, rfl, k, rfl, ⟨_, .of ek3⟩, fun L hL => ?_⟩
    refine lc2_it (walk_list (K := K) (a := k) (xs := ks.map natV)) (fun i H' => Same H3 H' ∧ H' L = some (.lst (((ks.take i).flatMap fun a => ks.map fun b => decide (b ∈ confOf D (valAt ns) t.size a)).map V.bl))) ⟨Same.new hL, upd_same⟩ (fun i H' _ h' => .of (h'.1 _ _ ek3)) (fun i x H4 H5 hi h4 hy => ?_) (fun H4 h4 => ?_)
    · obtain ⟨s4, e4⟩ := h4
      obtain ⟨rfl, hx⟩ := hy
      rw [List.getElem?_map] at hx
      obtain ⟨c, hc, rfl⟩ := Option.map_eq_some_iff.mp hx
      have cN := inN c (List.mem_of_getElem? hc)
      obtain ⟨ad, had, vad⟩ := kvN_get (prs := prs) (x := c) (by rw [kR]; exact List.mem_reverse.mpr cN)
      have ead := rR _ had
      have et : ((ks.take (i + 1)).flatMap fun a => ks.map fun b => decide (b ∈ confOf D (valAt ns) t.size a)) = ((ks.take i).flatMap fun a => ks.map fun b => decide (b ∈ confOf D (valAt ns) t.size a)) ++ ks.map fun b => decide (b ∈ confOf D (valAt ns) t.size c) := by
        rw [List.take_add_one, hc, List.flatMap_append]
        congr 1
        show [c].flatMap _ = _
        rw [List.flatMap_cons, List.flatMap_nil, List.append_nil]
      have lf : ∀ l : List Nat, (l.flatMap fun a => ks.map fun b => decide (b ∈ confOf D (valAt ns) t.size a)).length ≤ l.length * ks.length := fun l => by
        induction l with
        | nil => exact Nat.zero_le _
        | cons a r ih =>
          rw [List.flatMap_cons, List.length_append, List.length_map, List.length_cons, Nat.succ_mul]
          omega
      have l1 := lf (ks.take i)
      have l2 : (ks.take i).length ≤ 60 := by rw [List.length_take]; omega
      have l3 : (ks.take i).length * ks.length ≤ 60 * 60 := Nat.mul_le_mul l2 l60
      refine ⟨rfl, ?_⟩
      refine yes_lcA ?_
      refine ⟨_, rfl, k, rfl, ⟨_, .of (s4 _ _ ek3)⟩, ?_⟩
      refine in_it (walk_list (K := K) (a := k) (xs := ks.map natV)) (fun j H' => Same H3 H' ∧ H' L = some (.lst ((((ks.take i).flatMap fun a => ks.map fun b => decide (b ∈ confOf D (valAt ns) t.size a)) ++ (ks.take j).map fun b => decide (b ∈ confOf D (valAt ns) t.size c)).map V.bl))) ⟨s4, by rw [List.take_zero, List.map_nil, List.append_nil]; exact e4⟩ (fun j H' _ h' => .of (h'.1 _ _ ek3)) (fun j x H6 H7 hj h6 hy => ?_) (fun H6 h6 => ?_)
      · obtain ⟨s6, e6⟩ := h6
        obtain ⟨rfl, hx2⟩ := hy
        rw [List.getElem?_map] at hx2
        obtain ⟨d, hd, rfl⟩ := Option.map_eq_some_iff.mp hx2
        refine ⟨rfl, yes_lcA ?_⟩
        refine ⟨_, rfl, _, rfl, _, rfl, R, V.ref ad, rfl, .inl ⟨kvN prs, Sum.inl (c : Int), .inl (s6 _ _ eR3), rfl, vad.symm⟩, ?_⟩
        refine ⟨ad, _, rfl, .inl (.of (s6 _ _ (s3 _ _ ead))), rfl, flat_nats _, ?_⟩
        rw [show (if false = true then !inV (natV d) ((confOf D (valAt ns) t.size c).map natV) else inV (natV d) ((confOf D (valAt ns) t.size c).map natV)) = decide (d ∈ confOf D (valAt ns) t.size c) from inV_nat d _]
        refine ⟨_, e6, ?_, fun b o eb => ?_, ?_⟩
        · rw [List.length_map, List.length_append, List.length_map, List.length_take]
          show _ < 16777216
          omega
        · rw [upd_ne (ne_of_none eb hL)]
          exact s6 _ _ eb
        · simp only [upd_same, List.take_add_one, hd, Option.toList, List.map_append, List.append_assoc, List.map_cons, List.map_nil]
      · obtain ⟨s6, e6⟩ := h6
        rw [List.length_map, List.take_length, ← et] at e6
        exact ⟨s6, e6⟩
    · obtain ⟨s4, e4⟩ := h4
      rw [List.length_map, List.take_length] at e4
      refine ⟨L, _, rfl, .of e4, ?_⟩
      have ev : (!((ks.flatMap fun a => ks.map fun b => decide (b ∈ confOf D (valAt ns) t.size a)).any id)) = b := by
        rw [eb, List.any_flatMap]
        unfold freeOf
        congr 2
        funext a
        rw [List.any_map]
        rfl
      exact ⟨_, rfl, by rw [ev]; exact q _ (s02.trans (s3.trans s4))⟩
end
end HSP
namespace HSP
/-! # A greatest matching by alternating ways: the mathematics -/
/-- who comes before each one -/
abbrev Bef := Nat → Option Nat
def Bef.set (M : Bef) (r l : Nat) : Bef := fun x => if x = r then some l else M x
theorem Bef.set_same {M : Bef} {r l : Nat} : (M.set r l) r = some l := if_pos rfl
theorem Bef.set_ne {M : Bef} {r l x : Nat} (h : x ≠ r) : (M.set r l) x = M x := if_neg h
/-- a search out of `one` that succeeds, with those tried before -/
inductive Aug (row : Nat → List Nat) : Bef → (Nat → Prop) → Nat → Bef → Prop
  | free {M : Bef} {T : Nat → Prop} {one other : Nat} : other ∈ row one → ¬ T other → M other = none → Aug row M T one (M.set other one)
  | step {M M' : Bef} {T T1 : Nat → Prop} {one other l : Nat} : other ∈ row one → ¬ T other → M other = some l → (∀ x, T x → T1 x) → T1 other → Aug row M T1 l M' → Aug row M T one (M'.set other one)
theorem Aug.sub {row : Nat → List Nat} {M M' : Bef} {T T0 : Nat → Prop} {one : Nat} (h : Aug row M T one M') (le : ∀ x, T0 x → T x) : Aug row M T0 one M' := by
  cases h with
  | free h1 h2 h3 => exact .free h1 (fun z => h2 (le _ z)) h3
  | step h1 h2 h3 h4 h5 h6 => exact .step h1 (fun z => h2 (le _ z)) h3 (fun x z => h4 x (le x z)) h5 h6
/-- what was tried stays -/
theorem Aug.tried {row : Nat → List Nat} {M M' : Bef} {T : Nat → Prop} {one : Nat} (h : Aug row M T one M') : ∀ r, T r → M' r = M r := by
  induction h with
  | free h1 h2 h3 => exact fun r hr => Bef.set_ne fun e => h2 (by rw [← e]; exact hr)
  | step h1 h2 h3 h4 h5 _ ih => exact fun r hr => (Bef.set_ne fun e => h2 (by rw [← e]; exact hr)).trans (ih r (h4 r hr))
/-- each one before is one of those whose row holds it -/
def EdgeB (row : Nat → List Nat) (M : Bef) : Prop := ∀ r l, M r = some l → r ∈ row l
theorem Aug.edge {row : Nat → List Nat} {M M' : Bef} {T : Nat → Prop} {one : Nat} (h : Aug row M T one M') : EdgeB row M → EdgeB row M' := by
  induction h with
  | @free T one other h1 h2 h3 =>
    intro e r l hr
    by_cases c : r = other
    · subst c
      rw [Bef.set_same] at hr
      exact Option.some.inj hr ▸ h1
    · rw [Bef.set_ne c] at hr
      exact e r l hr
  | @step M' T T1 one other l0 h1 h2 h3 h4 h5 _ ih =>
    intro e r l hr
    by_cases c : r = other
    · subst c
      rw [Bef.set_same] at hr
      exact Option.some.inj hr ▸ h1
    · rw [Bef.set_ne c] at hr
      exact ih e r l hr
/-- who has one before keeps having one -/
theorem Aug.grow {row : Nat → List Nat} {M M' : Bef} {T : Nat → Prop} {one : Nat} (h : Aug row M T one M') : ∀ r, M r ≠ none → M' r ≠ none := by
  induction h with
  | @free T one other h1 h2 h3 =>
    intro r hr
    by_cases c : r = other
    · rw [c, Bef.set_same]
      exact nofun
    · rw [Bef.set_ne c]
      exact hr
  | @step M' T T1 one other l0 h1 h2 h3 h4 h5 _ ih =>
    intro r hr
    by_cases c : r = other
    · rw [c, Bef.set_same]
      exact nofun
    · rw [Bef.set_ne c]
      exact ih r hr
theorem Aug.into {row : Nat → List Nat} {M M' : Bef} {T N : Nat → Prop} {one : Nat} (h : Aug row M T one M') (rN : ∀ a, N a → ∀ b, b ∈ row a → N b) : (∀ r x, M r = some x → N r ∧ N x) → N one → ∀ r x, M' r = some x → N r ∧ N x := by
  induction h with
  | @free T one other h1 h2 h3 =>
    intro m o r x e
    by_cases c : r = other
    · rw [c, Bef.set_same] at e
      rw [c, ← Option.some.inj e]
      exact ⟨rN one o other h1, o⟩
    · rw [Bef.set_ne c] at e
      exact m r x e
  | @step M' T T1 one other l0 h1 h2 h3 h4 h5 _ ih =>
    intro m o r x e
    by_cases c : r = other
    · rw [c, Bef.set_same] at e
      rw [c, ← Option.some.inj e]
      exact ⟨rN one o other h1, o⟩
    · rw [Bef.set_ne c] at e
      exact ih m (m other l0 h3).2 r x e
/-- outside of what was tried no two have the same one before -/
def InjB (M : Bef) (T : Nat → Prop) : Prop := ∀ r s l, ¬ T r → ¬ T s → M r = some l → M s = some l → r = s
def HasB (M : Bef) (T : Nat → Prop) (l : Nat) : Prop := ∃ r, ¬ T r ∧ M r = some l
theorem Aug.inj {row : Nat → List Nat} {M M' : Bef} {T : Nat → Prop} {one : Nat} (h : Aug row M T one M') : InjB M T → ¬ HasB M T one → InjB M' T ∧ ∀ l, HasB M' T l ↔ HasB M T l ∨ l = one := by
  classical
  induction h with
  | @free T one other h1 h2 h3 =>
    intro i n
    refine ⟨fun r s l hr hs er es => ?_, fun l => ⟨fun ⟨r, hr, er⟩ => ?_, fun h => ?_⟩⟩
    · by_cases cr : r = other
      · by_cases cs : s = other
        · rw [cr, cs]
        · rw [cr, Bef.set_same] at er
          rw [Bef.set_ne cs] at es
          exact absurd ⟨s, hs, Option.some.inj er ▸ es⟩ n
      · rw [Bef.set_ne cr] at er
        by_cases cs : s = other
        · rw [cs, Bef.set_same] at es
          exact absurd ⟨r, hr, Option.some.inj es ▸ er⟩ n
        · rw [Bef.set_ne cs] at es
          exact i r s l hr hs er es
    · by_cases cr : r = other
      · rw [cr, Bef.set_same] at er
        exact .inr (Option.some.inj er).symm
      · rw [Bef.set_ne cr] at er
        exact .inl ⟨r, hr, er⟩
    · rcases h with ⟨r, hr, er⟩ | rfl
      · exact ⟨r, hr, by rw [Bef.set_ne fun e => by rw [e, h3] at er; cases er]; exact er⟩
      · exact ⟨other, h2, Bef.set_same⟩
  | @step M' T T1 one other l0 h1 h2 h3 h4 h5 h6 ih =>
    intro i n
    have i1 : InjB M T1 := fun r s l hr hs => i r s l (fun z => hr (h4 r z)) fun z => hs (h4 s z)
    have n1 : ¬ HasB M T1 l0 := fun ⟨r, hr, er⟩ => hr (i r other l0 (fun z => hr (h4 r z)) h2 er h3 ▸ h5)
    obtain ⟨iM, vM⟩ := ih i1 n1
    have tr := h6.tried
    have l0ne : l0 ≠ one := fun e => n ⟨other, h2, e ▸ h3⟩
    -- a place outside of T but not `other`: what stands there now stood there or elsewhere outside, or is l0
    have key : ∀ r l, ¬ T r → r ≠ other → M' r = some l → (T1 r ∧ M r = some l) ∨ (¬ T1 r ∧ ((∃ r', ¬ T1 r' ∧ M r' = some l) ∨ l = l0)) := fun r l hr ne er => by
      by_cases c : T1 r
      · exact .inl ⟨c, by rw [← tr r c]; exact er⟩
      · exact .inr ⟨c, (vM l).mp ⟨r, c, er⟩⟩
    have none1 : ∀ r, ¬ T r → r ≠ other → M' r ≠ some one := fun r hr ne er => by
      rcases key r one hr ne er with ⟨_, e⟩ | ⟨c, ⟨r', c', e⟩ | e⟩
      · exact n ⟨r, hr, e⟩
      · exact n ⟨r', fun z => c' (h4 r' z), e⟩
      · exact l0ne e.symm
    have mix : ∀ r s l, ¬ T r → ¬ T s → r ≠ other → T1 r → ¬ T1 s → M r = some l → M' s = some l → False := fun r s l hr hs ne c1 c2 er es => by
      rcases (vM l).mp ⟨s, c2, es⟩ with ⟨s', c', e⟩ | rfl
      · exact c' (i r s' l hr (fun z => c' (h4 s' z)) er e ▸ c1)
      · exact ne (i r other _ hr h2 er h3)
    refine ⟨fun r s l hr hs er es => ?_, fun l => ⟨fun ⟨r, hr, er⟩ => ?_, fun h => ?_⟩⟩
    · by_cases cr : r = other
      · by_cases cs : s = other
        · rw [cr, cs]
        · rw [cr, Bef.set_same] at er
          rw [Bef.set_ne cs, ← Option.some.inj er] at es
          exact absurd es (none1 s hs cs)
      · rw [Bef.set_ne cr] at er
        by_cases cs : s = other
        · rw [cs, Bef.set_same] at es
          rw [← Option.some.inj es] at er
          exact absurd er (none1 r hr cr)
        · rw [Bef.set_ne cs] at es
          by_cases t1 : T1 r
          · by_cases t2 : T1 s
            · rw [tr r t1] at er
              rw [tr s t2] at es
              exact i r s l hr hs er es
            · exact (mix r s l hr hs cr t1 t2 (by rw [← tr r t1]; exact er) es).elim
          · by_cases t2 : T1 s
            · exact (mix s r l hs hr cs t2 t1 (by rw [← tr s t2]; exact es) er).elim
            · exact iM r s l t1 t2 er es
    · by_cases cr : r = other
      · rw [cr, Bef.set_same] at er
        exact .inr (Option.some.inj er).symm
      · rw [Bef.set_ne cr] at er
        rcases key r l hr cr er with ⟨_, e⟩ | ⟨c, ⟨r', c', e⟩ | rfl⟩
        · exact .inl ⟨r, hr, e⟩
        · exact .inl ⟨r', fun z => c' (h4 r' z), e⟩
        · exact .inl ⟨other, h2, h3⟩
    · rcases h with ⟨r, hr, er⟩ | rfl
      · by_cases cr : r = other
        · subst cr
          rw [h3] at er
          obtain rfl := Option.some.inj er
          obtain ⟨s, hs, es⟩ := (vM l0).mpr (.inr rfl)
          exact ⟨s, fun z => hs (h4 s z), by rw [Bef.set_ne fun e => hs (by rw [e]; exact h5)]; exact es⟩
        · by_cases t1 : T1 r
          · exact ⟨r, hr, by rw [Bef.set_ne cr, tr r t1]; exact er⟩
          · obtain ⟨s, hs, es⟩ := (vM l).mpr (.inl ⟨r, t1, er⟩)
            exact ⟨s, fun z => hs (h4 s z), by rw [Bef.set_ne fun e => hs (by rw [e]; exact h5)]; exact es⟩
      · exact ⟨other, h2, Bef.set_same⟩
/-- a set of those that have one before, and nothing leads out of it -/
def ShutB (row : Nat → List Nat) (M : Bef) (C : Nat → Prop) : Prop := ∀ r, C r → ∃ l, M r = some l ∧ ∀ x, x ∈ row l → C x
/-- no search out of a shut set succeeds, and one from outside does not touch it -/
theorem Aug.shut {row : Nat → List Nat} {M M' : Bef} {T : Nat → Prop} {one : Nat} (h : Aug row M T one M') {C : Nat → Prop} : ShutB row M C → (¬ ∀ x, x ∈ row one → C x) ∧ ∀ r, C r → M' r = M r := by
  induction h with
  | @free T one other h1 h2 h3 =>
    intro s
    have no : ¬ C other := fun c => by
      obtain ⟨l, e, _⟩ := s other c
      rw [h3] at e
      cases e
    exact ⟨fun a => no (a other h1), fun r hr => Bef.set_ne fun e => no (by rw [← e]; exact hr)⟩
  | @step M' T T1 one other l0 h1 h2 h3 h4 h5 h6 ih =>
    intro s
    obtain ⟨i1, i2⟩ := ih s
    have no : ¬ C other := fun c => by
      obtain ⟨l, e, q⟩ := s other c
      rw [h3] at e
      obtain rfl := Option.some.inj e
      exact i1 q
    exact ⟨fun a => no (a other h1), fun r hr => (Bef.set_ne fun e => no (by rw [← e]; exact hr)).trans (i2 r hr)⟩
theorem ShutB.aug {row : Nat → List Nat} {M M' : Bef} {T : Nat → Prop} {one : Nat} (h : Aug row M T one M') {C : Nat → Prop} (s : ShutB row M C) : ShutB row M' C := fun r hr => by
  rw [(h.shut s).2 r hr]
  exact s r hr
/-- a search that failed has shut what it tried -/
def FailB (row : Nat → List Nat) (M : Bef) (T T' : Nat → Prop) (one : Nat) : Prop := (∀ x, T x → T' x) ∧ (∀ x, x ∈ row one → T' x) ∧ ∀ r, T' r → ¬ T r → ∃ l, M r = some l ∧ ∀ x, x ∈ row l → T' x
/-- after all of `done` were asked: those that failed lie over shut sets -/
structure DoneB (row : Nat → List Nat) (M : Bef) (done : Nat → Prop) : Prop where
  edge : EdgeB row M
  inj : ∀ r s l, M r = some l → M s = some l → r = s
  left : ∀ r l, M r = some l → done l
  fail : ∀ l, done l → (∃ r, M r = some l) ∨ ∃ C, ShutB row M C ∧ ∀ x, x ∈ row l → C x
theorem DoneB.start (row : Nat → List Nat) : DoneB row (fun _ => none) fun _ => False := ⟨nofun, nofun, nofun, nofun⟩
theorem DoneB.aug {row : Nat → List Nat} {M M' : Bef} {done : Nat → Prop} {one : Nat} (d : DoneB row M done) (n : ¬ done one) (h : Aug row M (fun _ => False) one M') : DoneB row M' fun l => done l ∨ l = one := by
  have i0 : InjB M fun _ => False := fun r s l _ _ => d.inj r s l
  have n0 : ¬ HasB M (fun _ => False) one := fun ⟨r, _, e⟩ => n (d.left r one e)
  obtain ⟨i, v⟩ := h.inj i0 n0
  refine ⟨h.edge d.edge, fun r s l => i r s l id id, fun r l e => ?_, fun l hl => ?_⟩
  · rcases (v l).mp ⟨r, id, e⟩ with ⟨s, _, e⟩ | rfl
    · exact .inl (d.left s l e)
    · exact .inr rfl
  · rcases hl with hl | rfl
    · rcases d.fail l hl with ⟨r, e⟩ | ⟨C, s, q⟩
      · obtain ⟨s, _, e⟩ := (v l).mpr (.inl ⟨r, id, e⟩)
        exact .inl ⟨s, e⟩
      · exact .inr ⟨C, s.aug h, q⟩
    · obtain ⟨s, _, e⟩ := (v l).mpr (.inr rfl)
      exact .inl ⟨s, e⟩
theorem DoneB.no {row : Nat → List Nat} {M : Bef} {done : Nat → Prop} {one : Nat} (d : DoneB row M done) {T' : Nat → Prop} (f : FailB row M (fun _ => False) T' one) : DoneB row M fun l => done l ∨ l = one := by
  refine ⟨d.edge, d.inj, fun r l e => .inl (d.left r l e), fun l hl => ?_⟩
  rcases hl with hl | rfl
  · exact d.fail l hl
  · exact .inr ⟨T', fun r hr => f.2.2 r hr id, f.2.1⟩
end HSP
namespace HSP
open PySem PySem.Spec PyProof.Rows L2
/-! ## what the law draws from: a list of a number, a count, a mark -/
def DrAt (H : Hp) (p : Addr) (k : Nat) : Prop := ∃ (n : Int) (j : Nat) (b : Bool), H p = some (.lst [.int n, .int (j : Int), .bl b]) ∧ j ≤ k
theorem DrAt.mono {H : Hp} {p : Addr} {k k' : Nat} (d : DrAt H p k) (h : k ≤ k') : DrAt H p k' := by
  obtain ⟨n, j, b, e, l⟩ := d
  exact ⟨n, j, b, e, Nat.le_trans l h⟩
theorem DrAt.same {H H' : Hp} {p : Addr} {k : Nat} (d : DrAt H p k) (s : Same H H') : DrAt H' p k := by
  obtain ⟨n, j, b, e, l⟩ := d
  exact ⟨n, j, b, s _ _ e, l⟩
theorem DrAt.ne {H : Hp} {p q : Addr} {k : Nat} (d : DrAt H p k) (h : H q = none) : q ≠ p := by
  obtain ⟨n, j, b, e, l⟩ := d
  exact (ne_of_none e h).symm
theorem DrAt.tree {H H' : Hp} {p : Addr} {k : Nat} {v : V} {t : Tr} (d : DrAt H p k) (s : Keep p H H') (h : TrAt H v t) : TrAt H' v t := by
  obtain ⟨n, j, b, e, l⟩ := d
  exact s.tree e h
/-- any of the items, whichever place is read -/
theorem at_any {xs : List V} {C : V → Prop} (h : ∀ x, x ∈ xs → C x) {i : Int} (h0 : 0 ≤ i) (h1 : i < (xs.length : Int)) : ∃ v, atI xs i = some v ∧ C v := by
  have hk : i.toNat < xs.length := by omega
  have ei : i = ((i.toNat : Nat) : Int) := by omega
  exact ⟨xs[i.toNat], at_of ei (List.getElem?_eq_getElem hk), h _ (List.getElem_mem hk)⟩
theorem small_mod {a m : Int} (h0 : 0 < m) (h1 : m < 2 ^ 64) : -(2 ^ 64) < a % m ∧ a % m < 2 ^ 64 := by
  have q1 := Int.emod_nonneg a (show m ≠ 0 by omega)
  have q2 := Int.emod_lt_of_pos a h0
  constructor <;> omega
section
variable {P : Program} {w : World} {K : PySem.W.Frag} {mg : Str → Option Value} {base : Heap}
/-! ### _law_draws -/
theorem sc_law_draws : FnScope n_law_draws ["cell"] (defScope s_law_draws) := ⟨rfl, rfl, rfl, by decide +kernel, rfl, by decide +kernel, by decide +kernel⟩
def spDraws : Sp := fun vs H Q _ => ∃ c : Int, vs = [.int c] ∧ ∀ (H' : Hp) (p : Addr), Same H H' → H p = none → DrAt H' p 0 → Q (.ref p) H'
theorem ok_draws (B : Bl mg) (a : At K mg "_law_draws" s_law_draws) : Df P w K mg base "_law_draws" 1 ["cell"] spDraws := by
  refine Df.mk' a sc_law_draws (fun vs H Q E h => ?_) (fun _ _ _ _ _ _ us hl => match us, hl with | [_], _ => rfl) (fun f cdv A outer s H vs Q E hr h => ?_)
  · obtain ⟨c, rfl, _⟩ := h
    rfl
  obtain ⟨c, rfl, q⟩ := h
  refine ⟨_, (pss_one (ps_ret (pe_lst (pa_cons (pe_op op_mod (pe_callTy call_int1 (by rfl) B.int (by decide +kernel) (pa_cons (pv 0) pa_nil)) (pe_op op_powW (pe_op op_powW (pe_op op_powW pe_int pe_int) pe_int) pe_int)) (pa_cons pe_int (pa_cons (pe_cmpR op_ge (pv 0) (pe_op op_powW pe_int pe_int) (nomark _)) pa_nil)))))), ?_⟩
  refine ⟨_, rfl, .inl ⟨_, rfl, _, _, rfl, rfl, ⟨by decide, by decide +kernel⟩, _, _, rfl, rfl, ⟨by decide, by decide +kernel⟩, _, _, rfl, rfl, ⟨by decide, by decide +kernel⟩, _, _, rfl, rfl, ?_, ?_⟩⟩
  · exact Int.pow_pos (Int.pow_pos (Int.pow_pos (by decide)))
  refine ⟨_, rfl, _, _, rfl, rfl, ⟨by decide, by decide +kernel⟩, _, _, rfl, rfl, (by show 3 ≤ sizeLine; decide), fun p hp => ?_⟩
  exact q _ p (Same.new hp) hp ⟨_, 0, _, upd_same, Nat.le_refl _⟩
/-! ### _law_next -/
theorem sc_law_next : FnScope n_law_next ["draws"] (defScope s_law_next) := ⟨rfl, rfl, rfl, by decide +kernel, rfl, by decide +kernel, by decide +kernel⟩
def spNext : Sp := fun vs H Q _ => ∃ (p : Addr) (k : Nat), vs = [.ref p] ∧ DrAt H p k ∧ k ≤ 100000 ∧ ∀ (H' : Hp) (r : Int), Keep p H H' → DrAt H' p (k + 1) → 0 ≤ r → r < 2147483648 → Q (.int r) H'
theorem ok_next (B : Bl mg) (a : At K mg "_law_next" s_law_next) : Df P w K mg base "_law_next" 1 ["draws"] spNext := by
  refine Df.mk' a sc_law_next (fun vs H Q E h => ?_) (fun _ _ _ _ _ _ us hl => match us, hl with | [_], _ => rfl) (fun f cdv A outer s H vs Q E hr h => ?_)
  · obtain ⟨p, k, rfl, _⟩ := h
    rfl
  obtain ⟨p, k, rfl, ⟨n, j, b, e, hj⟩, hk, q⟩ := h
  refine ⟨_, (pss_cons (ps_asg (pe_op op_add (pe_ix ix_list (pv 0) pe_int (fun _ _ => rfl)) pe_int) (pg_sub (pv 0) pe_int set_list))
 (pss_cons (ps_set (i := 1) sc_law_next.nd rfl (.inl rfl) (pe_ix ix_list (pv 0) pe_int (fun _ _ => rfl)))
 (pss_cons (ps_if (pt_val (pe_ix ix_list (pv 0) pe_int (fun _ _ => rfl))) (pss_cons (ps_set (i := 2) sc_law_next.nd rfl (.inl rfl) (pe_op op_mod (pe_callTy call_int1 (by rfl) B.int (by decide +kernel) (pa_cons (pe_ix ix_list (pv 0) pe_int (fun _ _ => rfl)) pa_nil)) (pe_op op_powW pe_int pe_int)))
 (pss_cons (ps_asg (pe_op op_fdiv (pe_ix ix_list (pv 0) pe_int (fun _ _ => rfl)) (pe_op op_powW pe_int pe_int)) (pg_sub (pv 0) pe_int set_list))
 (pss_one (ps_ret (pv 2))))) pss_nil)
 (pss_cons (ps_set (i := 2) sc_law_next.nd rfl (.inl rfl) (pe_op op_mod (pe_callTy call_int1 (by rfl) B.int (by decide +kernel) (pa_cons (pe_op op_mul (pe_op op_add (pe_op op_add (pe_op op_mod (pe_callTy call_int1 (by rfl) B.int (by decide +kernel) (pa_cons (pe_ix ix_list (pv 0) pe_int (fun _ _ => rfl)) pa_nil)) pe_int) (pe_op op_mul (pe_op op_mul (pv 1) (pv 1)) pe_int)) (pv 1)) pe_int) pa_nil)) pe_int))
 (pss_cons (ps_set (i := 2) sc_law_next.nd rfl (.inl rfl) (pe_op op_mod (pe_callTy call_int1 (by rfl) B.int (by decide +kernel) (pa_cons (pe_op op_mul (pv 2) (pv 2)) pa_nil)) pe_int))
 (pss_one (ps_ret (pe_op op_fdiv (pe_op op_mod (pe_callTy call_int1 (by rfl) B.int (by decide +kernel) (pa_cons (pe_op op_mul (pv 2) (pe_op op_add (pv 2) pe_int)) pa_nil)) pe_int) pe_int)))))))), ?_⟩
  have e1 : (upd H p (.lst ([V.int n, .int (j : Int), .bl b].set 1 (.int ((j : Int) + 1))))) p = some (.lst [.int n, .int ((j + 1 : Nat) : Int), .bl b]) := by
    rw [upd_same]
    rfl
  refine ⟨_, rfl, p, _, _, _, rfl, rfl, .of e, atI_nat (j := 1) rfl, _, _, rfl, rfl, _, rfl, p, _, _, 1, rfl, rfl, e, rfl, ?_⟩
  have kp1 : Keep p H (upd H p (.lst ([V.int n, .int (j : Int), .bl b].set 1 (.int ((j : Int) + 1))))) := Keep.at
  generalize upd H p (.lst ([V.int n, .int (j : Int), .bl b].set 1 (.int ((j : Int) + 1)))) = H1 at e1 kp1 ⊢
  refine ⟨_, rfl, p, _, _, _, rfl, rfl, .of e1, atI_nat (j := 1) rfl, ?_⟩
  refine ⟨_, rfl, p, _, _, _, rfl, rfl, .of e1, atI_nat (j := 2) rfl, b, rfl, ?_⟩
  refine ite2 (fun c => ?_) (fun c => ?_)
  · refine ⟨_, rfl, p, _, _, _, rfl, rfl, .of e1, atI_nat (j := 0) rfl, .inl ⟨_, rfl, _, _, rfl, rfl, ⟨by decide, by decide +kernel⟩, _, _, rfl, rfl, Int.pow_pos (by decide), ?_⟩⟩
    refine ⟨_, rfl, p, _, _, _, rfl, rfl, .of e1, atI_nat (j := 0) rfl, _, _, rfl, rfl, ⟨by decide, by decide +kernel⟩, _, _, rfl, rfl, ⟨by decide, by decide⟩, _, rfl, p, _, _, 0, rfl, rfl, e1, rfl, ?_⟩
    refine ⟨_, rfl, q _ _ (kp1.trans Keep.at) ⟨_, j + 1, b, upd_same, by omega⟩ (Int.emod_nonneg _ (by decide)) ?_⟩
    have h6 : n % (1000000 : Int) < 1000000 := Int.emod_lt_of_pos n (by decide)
    exact Int.lt_trans h6 (by decide)
  · have k1 : -(2 ^ 64) < ((j + 1 : Nat) : Int) := by omega
    have k2 : ((j + 1 : Nat) : Int) < 2 ^ 64 := by omega
    refine ⟨_, rfl, p, _, _, _, rfl, rfl, .of e1, atI_nat (j := 0) rfl, .inl ⟨_, rfl, _, _, rfl, rfl, (by show (0 : Int) < 1000003; decide), _, rfl, _, rfl, _, _, rfl, rfl, .inl ⟨k1, k2⟩, _, _, rfl, rfl, .inr ⟨by decide, by decide⟩, _, _, rfl, rfl, _, rfl, _, _, rfl, rfl, _, _, rfl, rfl, .inr ⟨by decide, by decide⟩,
      .inl ⟨_, rfl, _, _, rfl, rfl, (by show (0 : Int) < 2147483629; decide), ?_⟩⟩⟩
    refine ⟨_, rfl, _, rfl, _, _, rfl, rfl, .inl (small_mod (by decide) (by decide)), .inl ⟨_, rfl, _, _, rfl, rfl, (by show (0 : Int) < 2147483587; decide), ?_⟩⟩
    refine ⟨_, rfl, _, rfl, _, _, rfl, rfl, _, _, rfl, rfl, .inl (small_mod (by decide) (by decide)), .inl ⟨_, rfl, _, _, rfl, rfl, (by show (0 : Int) < 2147483579; decide), _, _, rfl, rfl, ⟨by decide, by decide⟩, ?_⟩⟩
    refine q _ _ kp1 ⟨n, j + 1, b, e1, by omega⟩ (Int.ediv_nonneg (Int.emod_nonneg _ (by decide)) (by decide)) ?_
    exact Int.lt_of_le_of_lt (Int.ediv_le_self _ (Int.emod_nonneg _ (by decide))) (Int.lt_trans (Int.emod_lt_of_pos _ (by decide)) (by decide))
end
end HSP
namespace HSP
open PySem PySem.Spec PyProof.Rows L2
section
variable {P : Program} {w : World} {K : PySem.W.Frag} {mg : Str → Option Value} {base : Heap}
/-- nothing can be asked: no room is needed -/
theorem Df.none' {x : Str} {st : Stmt} {ps : List Str} {sp : Sp} (a : At K mg x st) (no : ∀ vs H Q E, ¬ sp vs H Q E)
    (hb : ∀ (kV doc pm : Value) (an : Option Addr) (cdv ct : Value) (us : List Value), us.length = ps.length → bindArgs (PySem.W.fnOf x x (defArgs st) (defBody st) (defScope st) .none kV doc pm an cdv ct) ⟨us, []⟩ = pure (ps.zip us)) (k : Nat) : Df P w K mg base x k ps sp := by
  obtain ⟨f, fd, hm, F⟩ := a
  exact ⟨f, fd, hm, F.kp, F.binds hb, ⟨fun vs H Q E h => absurd h (no vs H Q E), fun A outer s H args us vs Q E _ _ _ _ h => absurd h (no vs H Q E)⟩⟩
def spSize (n : Nat) : Sp := fun vs H Q _ => ∃ (v : V) (t : Tr), vs = [v] ∧ TrAt H v t ∧ t.ht < n ∧ Q (.int t.size) H
end
end HSP
namespace HSP
open PySem PySem.Spec PyProof.Rows L2
/-! ## gains_next, fewest_chains -/
theorem nodup_sub : ∀ {l N : List Nat}, l.Nodup → (∀ x, x ∈ l → x ∈ N) → l.length ≤ N.length
  | [], N, _, _ => Nat.zero_le _
  | x :: l, N, nd, h => by
    obtain ⟨n1, n2⟩ := List.nodup_cons.mp nd
    have hx := h x List.mem_cons_self
    have ih := nodup_sub (N := N.erase x) n2 fun y hy => by
      rw [List.mem_erase_of_ne fun e => n1 (by rw [← e]; exact hy)]
      exact h y (List.mem_cons_of_mem _ hy)
    have := List.length_erase_of_mem hx
    have := List.length_pos_of_mem hx
    rw [List.length_cons]
    omega
/-- the dict of who comes before each one -/
def BefK (kvs : List (Key × V)) (M : Bef) : Prop := ∃ ks : List (Nat × Nat), kvs = kvI ks ∧ (ks.map (·.1)).Nodup ∧ ∀ r l, (r, l) ∈ ks ↔ M r = some l
theorem BefK.nil : BefK [] fun _ => none := ⟨[], rfl, List.nodup_nil, fun _ _ => ⟨fun h => (nomatch h), fun h => nomatch h⟩⟩
theorem BefK.get {kvs : List (Key × V)} {M : Bef} (h : BefK kvs M) (r : Nat) : valV kvs (Sum.inl (r : Int)) = (M r).map natV := by
  obtain ⟨ks, rfl, nd, mem⟩ := h
  cases e : M r with
  | none =>
    refine kvI_none fun z => ?_
    obtain ⟨⟨r', l⟩, hp, er⟩ := List.mem_map.mp z
    have er : r' = r := er
    subst er
    have := (mem r' l).mp hp
    rw [e] at this
    cases this
  | some l => exact kvI_get nd ((mem r l).mpr e)
theorem BefK.put {kvs : List (Key × V)} {M : Bef} (h : BefK kvs M) (r l : Nat) : BefK (putK kvs (Sum.inl (r : Int)) (natV l)) (M.set r l) := by
  by_cases c : M r = none
  · obtain ⟨ks, rfl, nd, mem⟩ := h
    have nr : r ∉ ks.map (·.1) := fun z => by
      obtain ⟨⟨r', l'⟩, hp, er⟩ := List.mem_map.mp z
      have er : r' = r := er
      subst er
      have := (mem r' l').mp hp
      rw [c] at this
      cases this
    refine ⟨ks ++ [(r, l)], ?_, ?_, fun x y => ?_⟩
    · rw [putK_new _ (kvI_none nr)]
      unfold kvI
      rw [List.map_append]
      rfl
    · rw [List.map_append, List.nodup_append]
      exact ⟨nd, List.pairwise_singleton _ _, fun a ha d hd z => nr (by have hd : d = r := List.mem_singleton.mp hd; rw [← hd, ← z]; exact ha)⟩
    · rw [List.mem_append, List.mem_singleton]
      by_cases cx : x = r
      · subst cx
        rw [Bef.set_same]
        constructor
        · rintro (h | h)
          · have := (mem _ _).mp h
            rw [c] at this
            cases this
          · cases h
            rfl
        · intro h
          cases h
          exact .inr rfl
      · rw [Bef.set_ne cx]
        constructor
        · rintro (h | h)
          · exact (mem _ _).mp h
          · cases h
            exact absurd rfl cx
        · exact fun h => .inl ((mem _ _).mpr h)
  · have g := h.get r
    obtain ⟨ks, rfl, nd, mem⟩ := h
    refine ⟨ks.map fun p => if p.1 = r then (r, l) else p, ?_, ?_, fun x y => ?_⟩
    · unfold putK
      have a : ((kvI ks).any fun kv => decide (kv.1 = Sum.inl (r : Int))) = true := by
        rw [valV_any, g]
        cases e : M r with
        | none => exact absurd e c
        | some _ => rfl
      rw [if_pos a]
      unfold kvI
      rw [List.map_map, List.map_map]
      refine List.map_congr_left fun p _ => ?_
      show (if (Sum.inl (p.1 : Int) : Key) = Sum.inl (r : Int) then (Sum.inl (p.1 : Int), natV l) else (Sum.inl (p.1 : Int), natV p.2)) = (Sum.inl (((if p.1 = r then (r, l) else p).1 : Nat) : Int), natV (if p.1 = r then (r, l) else p).2)
      by_cases e : p.1 = r
      · rw [if_pos (by rw [e]), if_pos e, e]
      · rw [if_neg (fun z => e (by have := Sum.inl.inj z; omega)), if_neg e]
    · rw [List.map_map]
      have e : ks.map ((·.1) ∘ fun p : Nat × Nat => if p.1 = r then (r, l) else p) = ks.map (·.1) := List.map_congr_left fun p _ => by
        show (if p.1 = r then (r, l) else p).1 = p.1
        by_cases e : p.1 = r
        · rw [if_pos e, e]
        · rw [if_neg e]
      rw [e]
      exact nd
    · rw [List.mem_map]
      by_cases e : x = r
      · subst e
        rw [Bef.set_same]
        constructor
        · rintro ⟨p, hp, z⟩
          split at z
          · cases z
            rfl
          · rename_i c2
            cases z
            exact absurd rfl c2
        · intro hy
          cases hy
          obtain ⟨l0, e0⟩ : ∃ l0, M x = some l0 := by
            cases e : M x with
            | none => exact absurd e c
            | some l0 => exact ⟨l0, rfl⟩
          exact ⟨(x, l0), (mem _ _).mpr e0, if_pos rfl⟩
      · rw [Bef.set_ne e, ← mem]
        constructor
        · rintro ⟨p, hp, z⟩
          split at z
          · cases z
            exact absurd rfl e
          · rw [← z]
            exact hp
        · intro hp
          exact ⟨(x, y), hp, if_neg e⟩
theorem BefK.len {kvs : List (Key × V)} {M : Bef} {N : List Nat} (h : BefK kvs M) (inN : ∀ r l, M r = some l → r ∈ N) : kvs.length ≤ N.length := by
  obtain ⟨ks, rfl, nd, mem⟩ := h
  have := nodup_sub (N := N) nd fun x hx => by
    obtain ⟨⟨r, l⟩, hp, rfl⟩ := List.mem_map.mp hx
    exact inN r l ((mem r l).mp hp)
  unfold kvI
  rw [List.length_map] at this ⊢
  exact this
/-- the dict of those that were tried -/
def TrdK (kvs : List (Key × V)) (l : List Nat) : Prop := kvs = l.map (fun r : Nat => ((Sum.inl (r : Int) : Key), V.bl true)) ∧ l.Nodup
theorem TrdK.nil : TrdK [] [] := ⟨rfl, List.nodup_nil⟩
theorem trd_get : ∀ (l : List Nat) (x : Nat), valV (l.map (fun r : Nat => ((Sum.inl (r : Int) : Key), V.bl true))) (Sum.inl (x : Int)) = if x ∈ l then some (V.bl true) else none
  | [], _ => rfl
  | y :: l, x => by
    rw [List.map_cons]
    by_cases c : y = x
    · rw [c, valV_pos rfl, if_pos List.mem_cons_self]
    · rw [valV_neg (fun e => c (by have := Sum.inl.inj e; omega)), trd_get l x]
      by_cases d : x ∈ l
      · rw [if_pos d, if_pos (List.mem_cons_of_mem _ d)]
      · rw [if_neg d, if_neg fun z => (List.mem_cons.mp z).elim (fun e => c e.symm) d]
theorem TrdK.get {kvs : List (Key × V)} {l : List Nat} (h : TrdK kvs l) (x : Nat) : valV kvs (Sum.inl (x : Int)) = if x ∈ l then some (V.bl true) else none := by
  rw [h.1]
  exact trd_get l x
theorem TrdK.put {kvs : List (Key × V)} {l : List Nat} (h : TrdK kvs l) {x : Nat} (n : x ∉ l) : TrdK (putK kvs (Sum.inl (x : Int)) (V.bl true)) (l ++ [x]) := by
  refine ⟨?_, ?_⟩
  · rw [putK_new _ (by rw [h.get, if_neg n]), h.1, List.map_append]
    rfl
  · exact List.nodup_append.mpr ⟨h.2, List.pairwise_singleton _ _, fun a ha d hd z => n (by rw [List.mem_singleton] at hd; rw [← hd, ← z]; exact ha)⟩
theorem TrdK.len {kvs : List (Key × V)} {l : List Nat} (h : TrdK kvs l) : kvs.length = l.length := by rw [h.1, List.length_map]
theorem RowsW.stay {H H' : Hp} {R : Addr} {N : List Nat} {row : Nat → List Nat} {X : List Addr} (h : RowsW H R N row) (s : Stay X H H') (nR : R ∉ X) (nX : ∀ x, x ∈ X → ∃ kvs, H x = some (.dK kvs)) : RowsW H' R N row := by
  obtain ⟨prs, e, k, r⟩ := h
  exact ⟨prs, s _ _ nR e, k, fun p hp => s _ _ (fun z => by
    obtain ⟨kvs, q⟩ := nX _ z
    rw [r p hp] at q
    cases q) (r p hp)⟩
theorem RowsW.same {H H' : Hp} {R : Addr} {N : List Nat} {row : Nat → List Nat} (h : RowsW H R N row) (s : Same H H') : RowsW H' R N row := by
  obtain ⟨prs, e, k, r⟩ := h
  exact ⟨prs, s _ _ e, k, fun p hp => s _ _ (r p hp)⟩
/-- what is known of the rows -/
structure RowF (N : List Nat) (row : Nat → List Nat) : Prop where
  few : N.length ≤ 30
  nd : N.Nodup
  into : ∀ a, a ∈ N → ∀ b, b ∈ row a → b ∈ N
def spGains (n : Nat) : Sp := fun vs H Q _ => ∃ (one : Nat) (R Bf Td : Addr) (N : List Nat) (row : Nat → List Nat) (kvb kvt : List (Key × V)) (M : Bef) (l : List Nat), vs = [natV one, .ref R, .ref Bf, .ref Td] ∧ RowsW H R N row ∧ RowF N row ∧ H Bf = some (.dK kvb) ∧ BefK kvb M ∧ H Td = some (.dK kvt) ∧ TrdK kvt l ∧
  R ≠ Bf ∧ R ≠ Td ∧ Bf ≠ Td ∧ one ∈ N ∧ (∀ r x, M r = some x → r ∈ N ∧ x ∈ N) ∧ (∀ x, x ∈ l → x ∈ N) ∧ N.length < l.length + n ∧
  (∀ (H' : Hp) (kvb' kvt' : List (Key × V)) (M' : Bef), Stay [Bf, Td] H H' → H' Bf = some (.dK kvb') → BefK kvb' M' → H' Td = some (.dK kvt') → Aug row M (· ∈ l) one M' → Q (.bl true) H') ∧
  (∀ (H' : Hp) (kvt' : List (Key × V)) (l' : List Nat), Stay [Bf, Td] H H' → H' Bf = some (.dK kvb) → H' Td = some (.dK kvt') → TrdK kvt' l' → (∀ x, x ∈ l' → x ∈ N) → FailB row M (· ∈ l) (· ∈ l') one → Q (.bl false) H')
section
variable {P : Program} {w : World} {K : PySem.W.Frag} {mg : Str → Option Value} {base : Heap}
theorem sc_gains : FnScope n_gains_next ["one", "rows", "before", "tried"] (defScope s_gains_next) := ⟨rfl, rfl, rfl, by decide +kernel, rfl, by decide +kernel, by decide +kernel⟩
theorem ok_gains (a : At K mg "gains_next" s_gains_next) : ∀ n, Df P w K mg base "gains_next" n ["one", "rows", "before", "tried"] (spGains n)
  | 0 => Df.none' a (fun vs H Q E h => by
      obtain ⟨one, R, Bf, Td, N, row, kvb, kvt, M, l, _, _, rf, _, _, _, tk, _, _, _, _, _, inN, h, _⟩ := h
      have := nodup_sub tk.2 inN
      omega) (fun _ _ _ _ _ _ us hl => match us, hl with | [_, _, _, _], _ => rfl) 0
  | n + 1 => by
    have G := ok_gains a n
    refine Df.mk' a sc_gains (fun vs H Q E h => ?_) (fun _ _ _ _ _ _ us hl => match us, hl with | [_, _, _, _], _ => rfl) (fun f cdv A outer s H vs Q E hr h => ?_)
    · obtain ⟨_, _, _, _, _, _, _, _, _, _, rfl, _⟩ := h
      rfl
    obtain ⟨one, R, Bf, Td, N, row, kvb, kvt, M, l, rfl, ⟨prs, eR, kR, rR⟩, rf, eB, bK, eT, tK, nRB, nRT, nBT, oN, mN, lN, few, qT, qF⟩ := h
    refine ⟨_, (pss_cons (ps_for PassesOwn.never rfl (pi_list (pe_dget (hu_of hr) (pv 1) (pv 0) (fun _ _ => rfl))) (pg_name (i := 4) sc_gains.nd rfl (.inl rfl)) (pss_one (ps_if (pt_cmp (pc_dnotin (hu_of hr) (pv 4) (pv 3))) (pss_cons (ps_dput (hu_of hr) (pv 3) (pv 4) pe_bl (by rfl))
 (pss_one (ps_if (PW.pt (pw_or (pt_cmp (pc_dnotin (hu_of hr) (pv 4) (pv 2))) (pw_or1 (pt_val (pe_df G hr (pa_cons (pe_dget (hu_of hr) (pv 2) (pv 4) (fun _ _ => rfl)) (pa_cons (pv 1) (pa_cons (pv 2) (pa_cons (pv 3) pa_nil))))))))) (pss_cons (ps_dput (hu_of hr) (pv 2) (pv 4) (pv 0) (by rfl))
 (pss_one (ps_ret pe_bl))) pss_nil))) pss_nil)))
 (pss_one (ps_ret pe_bl))), ?_⟩
    obtain ⟨ad, had, vad⟩ := kvN_get (prs := prs) (x := one) (by rw [kR]; exact oN)
    have ead := rR _ had
    have nad : ad ∉ [Bf, Td] := no2 (fun z => by rw [z, eB] at ead; cases ead) (fun z => by rw [z, eT] at ead; cases ead)
    have l30 := rf.few
    refine ⟨_, rfl, _, rfl, R, _, rfl, .inl ⟨kvN prs, Sum.inl (one : Int), .inl eR, rfl, vad.symm⟩, ?_⟩
    refine ⟨ad, rfl, ⟨_, .of ead⟩, ?_⟩
    refine for_it (walk_list (K := K) (a := ad) (xs := (row one).map natV)) (fun i σ H' => (∃ y4 : Option V, σ = [some (natV one), some (.ref R), some (.ref Bf), some (.ref Td), y4]) ∧ Stay [Bf, Td] H H' ∧ H' Bf = some (.dK kvb) ∧ ∃ kvt' l', H' Td = some (.dK kvt') ∧ TrdK kvt' l' ∧ (∀ x, x ∈ l' → x ∈ N) ∧ (∀ x, x ∈ l → x ∈ l') ∧ (∀ x, x ∈ (row one).take i → x ∈ l') ∧ ∀ r, r ∈ l' → r ∉ l → ∃ y, M r = some y ∧ ∀ x, x ∈ row y → x ∈ l') ⟨⟨_, rfl⟩, .refl _ _, eB, kvt, l, eT, tK, lN, fun _ h => h, fun _ h => (nomatch h), fun r h n => absurd h n⟩ (fun i σ H' _ h' => .of (h'.2.1 _ _ nad ead)) (fun i x σ H3 H4 hi h3 hy => ?_) (fun σ H3 h3 => ?_)
    · obtain ⟨⟨y4, rfl⟩, s3, eB3, kvt', l', eT3, tk, inN, sub, done, shut⟩ := h3
      obtain ⟨rfl, hx⟩ := hy
      rw [List.getElem?_map] at hx
      obtain ⟨c, hc, rfl⟩ := Option.map_eq_some_iff.mp hx
      have cr := List.mem_of_getElem? hc
      have cN := rf.into one oN c cr
      have et : (row one).take (i + 1) = (row one).take i ++ [c] := by rw [List.take_add_one, hc]; rfl
      have lt := nodup_sub tk.2 inN
      have ll := nodup_sub tK.2 sub
      have lk := tk.len
      by_cases ct : c ∈ l'
      · refine ⟨_, rfl, _, rfl, Td, some (.bl true), rfl, .inl ⟨kvt', Sum.inl (c : Int), .inl eT3, rfl, by rw [tk.get, if_pos ct]⟩, false, rfl, iteF ⟨⟨_, rfl⟩, s3, eB3, kvt', l', eT3, tk, inN, sub, fun x hx => ?_, shut⟩⟩
        rw [et] at hx
        rcases List.mem_append.mp hx with hx | hx
        · exact done x hx
        · rw [List.mem_singleton.mp hx]
          exact ct
      refine ⟨_, rfl, _, rfl, Td, none, rfl, .inl ⟨kvt', Sum.inl (c : Int), .inl eT3, rfl, by rw [tk.get, if_neg ct]⟩, true, rfl, iteT ?_⟩
      refine ⟨_, rfl, _, rfl, Td, _, rfl, DPut.k (k := Sum.inl (c : Int)) eT3 (small1000 (by omega)), ?_⟩
      have s5 := s3.put (o := .dK (putK kvt' (Sum.inl (c : Int)) (V.bl true))) in2r
      have eT5 : (upd H4 Td (.dK (putK kvt' (Sum.inl (c : Int)) (V.bl true)))) Td = some (.dK (putK kvt' (Sum.inl (c : Int)) (V.bl true))) := upd_same
      have eB5 : (upd H4 Td (.dK (putK kvt' (Sum.inl (c : Int)) (V.bl true)))) Bf = some (.dK kvb) := by rw [upd_ne nBT]; exact eB3
      have tk5 := tk.put ct
      generalize upd H4 Td (.dK (putK kvt' (Sum.inl (c : Int)) (V.bl true))) = H5 at s5 eT5 eB5 ⊢
      generalize putK kvt' (Sum.inl (c : Int)) (V.bl true) = kvt5 at eT5 tk5
      have cl : c ∉ l := fun z => ct (sub c z)
      have lb := bK.len (N := N) fun r x e => (mN r x e).1
      cases em : M c with
      | none =>
        refine ⟨_, rfl, _, rfl, Bf, none, rfl, .inl ⟨kvb, Sum.inl (c : Int), .inl eB5, rfl, by rw [bK.get, em]; rfl⟩, true, rfl, iteT ?_⟩
        refine ⟨_, rfl, _, rfl, _, rfl, Bf, _, rfl, DPut.k (k := Sum.inl (c : Int)) eB5 (small1000 (by omega)), ?_⟩
        exact qT _ _ kvt5 (M.set c one) (s5.put in2l) upd_same (bK.put c one) (by rw [upd_ne (Ne.symm nBT)]; exact eT5) (.free cr cl em)
      | some y =>
        refine ⟨_, rfl, _, rfl, Bf, some (natV y), rfl, .inl ⟨kvb, Sum.inl (c : Int), .inl eB5, rfl, by rw [bK.get, em]; rfl⟩, false, rfl, iteF ?_⟩
        have rows5 : RowsW H5 R N row := RowsW.stay ⟨prs, eR, kR, rR⟩ s5 (no2 nRB nRT) fun x hx => by
          rcases List.mem_cons.mp hx with rfl | hx
          · exact ⟨_, eB⟩
          · rw [List.mem_singleton.mp hx]
            exact ⟨_, eT⟩
        refine ⟨_, rfl, _, rfl, Bf, _, rfl, .inl ⟨kvb, Sum.inl (c : Int), .inl eB5, rfl, by rw [bK.get, em]; rfl⟩, _, rfl, _, rfl, _, rfl, ?_⟩
        refine ⟨y, R, Bf, Td, N, row, kvb, kvt5, M, l' ++ [c], rfl, rows5, rf, eB5, bK, eT5, tk5, nRB, nRT, nBT, (mN c y em).2, mN, fun x hx => ?_, ?_, fun H6 kvb6 kvt6 M6 s6 e6 b6 t6 aug => ⟨true, rfl, iteT ?_⟩, fun H6 kvt6 l6 s6 e6 t6 k6 n6 fail => ⟨false, rfl, iteF ?_⟩⟩
        · rcases List.mem_append.mp hx with hx | hx
          · exact inN x hx
          · rw [List.mem_singleton.mp hx]
            exact cN
        · rw [List.length_append, List.length_singleton]
          omega
        · have lb6 := b6.len (N := N) fun r x e => (aug.into (N := (· ∈ N)) rf.into mN (mN c y em).2 r x e).1
          refine ⟨_, rfl, _, rfl, _, rfl, Bf, _, rfl, DPut.k (k := Sum.inl (c : Int)) e6 (small1000 (by omega)), ?_⟩
          exact qT _ _ kvt6 (M6.set c one) ((s5.trans s6).put in2l) upd_same (b6.put c one) (by rw [upd_ne (Ne.symm nBT)]; exact t6) (.step (T1 := (· ∈ l' ++ [c])) cr cl em (fun x hx => List.mem_append_left _ (sub x hx)) (List.mem_append_right _ (List.mem_singleton.mpr rfl)) aug)
        · obtain ⟨f1, f2, f3⟩ := fail
          refine ⟨⟨_, rfl⟩, s5.trans s6, e6, kvt6, l6, t6, k6, n6, fun x hx => f1 x (List.mem_append_left _ (sub x hx)), fun x hx => ?_, fun r hr hl => ?_⟩
          · rw [et] at hx
            rcases List.mem_append.mp hx with hx | hx
            · exact f1 x (List.mem_append_left _ (done x hx))
            · exact f1 x (List.mem_append_right _ hx)
          · by_cases r1 : r ∈ l'
            · obtain ⟨z, ez, hz⟩ := shut r r1 hl
              exact ⟨z, ez, fun x hx => f1 x (List.mem_append_left _ (hz x hx))⟩
            · by_cases r2 : r = c
              · rw [r2]
                exact ⟨y, em, f2⟩
              · exact f3 r hr fun z => (List.mem_append.mp z).elim r1 fun z => r2 (List.mem_singleton.mp z)
    · obtain ⟨⟨y4, rfl⟩, s3, eB3, kvt', l', eT3, tk, inN, sub, done, shut⟩ := h3
      rw [List.length_map, List.take_length] at done
      exact qF H3 kvt' l' s3 eB3 eT3 tk inN ⟨sub, done, shut⟩
end
end HSP
namespace HSP
open PySem PySem.Spec PyProof.Rows L2
/-! ## fewest_chains, chains_of, keepers, repair -/
theorem DoneB.iff {row : Nat → List Nat} {M : Bef} {d d' : Nat → Prop} (h : DoneB row M d) (e : ∀ l, d l ↔ d' l) : DoneB row M d' := ⟨h.edge, h.inj, fun r l x => (e l).mp (h.left r l x), fun l x => h.fail l ((e l).mpr x)⟩
theorem sorted_rows {M0 N : List Nat} (pm : M0.Perm N) (up : N.Pairwise (· < ·)) {ys : List Int} (p : ys.Perm (M0.map Int.ofNat)) (u : ys.Pairwise (· ≤ ·)) : ys = N.map Int.ofNat :=
  List.Perm.eq_of_pairwise (fun a b _ _ h1 h2 => Int.le_antisymm h1 h2) u (List.pairwise_map.mpr (up.imp fun {a b} h => by
    show ((a : Nat) : Int) ≤ ((b : Nat) : Int)
    omega)) (p.trans (pm.map _))
theorem kvN_keys (prs : List (Nat × Addr)) : (kvN prs).map (·.1) = (prs.map fun p => (p.1 : Int)).map Sum.inl := by
  unfold kvN
  rw [List.map_map, List.map_map]
  rfl
def spFewest : Sp := fun vs H Q _ => ∃ (R : Addr) (M0 N : List Nat) (row : Nat → List Nat), vs = [.ref R] ∧ RowsW H R M0 row ∧ RowF M0 row ∧ M0.Perm N ∧ N.Pairwise (· < ·) ∧
  ∀ (H' : Hp) (Bf : Addr) (ob : Obj) (kvb : List (Key × V)) (M : Bef), Same H H' → H Bf = none → H' Bf = some (.frz ob (.dK kvb)) → BefK kvb M → (∀ r x, M r = some x → r ∈ N ∧ x ∈ N) → DoneB row M (· ∈ N) → Q (.ref Bf) H'
section
variable {P : Program} {w : World} {K : PySem.W.Frag} {mg : Str → Option Value} {base : Heap}
theorem sc_fewest : FnScope n_fewest_chains ["rows"] (defScope s_fewest_chains) := ⟨rfl, rfl, rfl, by decide +kernel, rfl, by decide +kernel, by decide +kernel⟩
theorem ok_fewest (B : Bl mg) (G : Df P w K mg base "gains_next" 31 ["one", "rows", "before", "tried"] (spGains 31)) (a : At K mg "fewest_chains" s_fewest_chains) : Df P w K mg base "fewest_chains" 32 ["rows"] spFewest := by
  refine Df.mk' a sc_fewest (fun vs H Q E h => ?_) (fun _ _ _ _ _ _ us hl => match us, hl with | [_], _ => rfl) (fun f cdv A outer s H vs Q E hr h => ?_)
  · obtain ⟨_, _, _, _, rfl, _⟩ := h
    rfl
  obtain ⟨R, M0, N, row, rfl, rw0, rf, pm, up, q⟩ := h
  have rw1 := rw0
  obtain ⟨prs, eR, kR, rR⟩ := rw0
  refine ⟨_, (pss_cons (ps_set (i := 1) sc_fewest.nd rfl (.inl rfl) pe_dnewK)
 (pss_cons (ps_for PassesOwn.never rfl (pi_list (pe_callB (call_sortedDI rfl) (by rfl) B.sorted (by decide +kernel) (pa_cons (pv 0) pa_nil))) (pg_name (i := 2) sc_fewest.nd rfl (.inl rfl)) (pss_one (ps_expr (pe_df G hr (pa_cons (pv 2) (pa_cons (pv 0) (pa_cons (pv 1) (pa_cons pe_dnewK pa_nil))))))))
 (pss_one (ps_ret (pe_lockD (pv 1)))))), ?_⟩
  refine fun Bf hB => ?_
  have sB := Same.new (o := .dK []) hB
  have lp : prs.length = M0.length := by rw [← kR, List.length_map]
  have l30 := rf.few
  have lN := pm.length_eq
  refine ⟨_, rfl, R, kvN prs, prs.map (fun p => (p.1 : Int)), rfl, .inl (sB _ _ eR), kvN_keys prs, ?_, fun ys S perm up2 hS => ?_⟩
  · rw [List.length_map]
    omega
  obtain rfl := sorted_rows pm up (by rw [← kR, List.map_map]; exact perm) up2
  have eS : (upd (upd H Bf (.dK [])) S (.lst ((N.map Int.ofNat).map V.int))) S = some (.lst (N.map natV)) := by
    rw [upd_same, List.map_map]
    rfl
  have eB : (upd (upd H Bf (.dK [])) S (.lst ((N.map Int.ofNat).map V.int))) Bf = some (.dK []) := Same.new hS _ _ upd_same
  have s1 := sB.trans (Same.new (o := .lst ((N.map Int.ofNat).map V.int)) hS)
  generalize upd (upd H Bf (.dK [])) S (.lst ((N.map Int.ofNat).map V.int)) = H1 at eS eB s1 ⊢
  refine ⟨S, rfl, ⟨_, .of eS⟩, ?_⟩
  refine for_it (walk_list (K := K) (a := S) (xs := N.map natV)) (fun i σ H' => (∃ y2 : Option V, σ = [some (.ref R), some (.ref Bf), y2]) ∧ Same H H' ∧ H' S = some (.lst (N.map natV)) ∧ ∃ kvb M, H' Bf = some (.dK kvb) ∧ BefK kvb M ∧ (∀ r x, M r = some x → r ∈ N ∧ x ∈ N) ∧ DoneB row M (· ∈ N.take i)) ⟨⟨_, rfl⟩, s1, eS, [], fun _ => none, eB, .nil, nofun, (DoneB.start row).iff fun l => ⟨False.elim, fun h => nomatch h⟩⟩ (fun i σ H' _ h' => .of h'.2.2.1) (fun i x σ H3 H4 hi h3 hy => ?_) (fun σ H3 h3 => ?_)
  · obtain ⟨⟨y2, rfl⟩, s3, e3, kvb, M, eB3, bK, inN, dn⟩ := h3
    obtain ⟨rfl, hx⟩ := hy
    rw [List.getElem?_map] at hx
    obtain ⟨c, hc, rfl⟩ := Option.map_eq_some_iff.mp hx
    have cN := List.mem_of_getElem? hc
    have et : N.take (i + 1) = N.take i ++ [c] := by rw [List.take_add_one, hc]; rfl
    have cout : c ∉ N.take i := take_new (up.imp fun {a b} h => Nat.ne_of_lt h) hc
    have mem : ∀ l, (l ∈ N.take i ∨ l = c) ↔ l ∈ N.take (i + 1) := fun l => by rw [et, List.mem_append, List.mem_singleton]
    refine ⟨_, rfl, _, rfl, _, rfl, fun Td hT => ?_⟩
    have sT := Same.new (o := .dK []) hT
    have nB : Bf ≠ Td := ne_of_none eB3 hT
    have nR : R ≠ Td := ne_of_none (s3 _ _ eR) hT
    have nRB : R ≠ Bf := ne_of_none eR hB
    have fT : H Td = none := s3.free hT
    have back : ∀ {H' : Hp}, Stay [Bf, Td] (upd H4 Td (.dK [])) H' → Same H H' ∧ H' S = some (.lst (N.map natV)) := fun {H'} st => ⟨st.same (s3.trans sT) fun x hx => by
        rcases List.mem_cons.mp hx with rfl | hx
        · exact hB
        · rw [List.mem_singleton.mp hx]
          exact fT, st _ _ (no2 (fun z => by rw [z, eB3] at e3; cases e3) (fun z => by rw [z, hT] at e3; cases e3)) (sT _ _ e3)⟩
    refine ⟨c, R, Bf, Td, M0, row, kvb, [], M, [], rfl, rw1.same (s3.trans sT), rf, sT _ _ eB3, bK, upd_same, .nil, nRB, nR, nB, pm.mem_iff.mpr cN, fun r x e => ⟨pm.mem_iff.mpr (inN r x e).1, pm.mem_iff.mpr (inN r x e).2⟩, fun _ h => (nomatch h), by show M0.length < 0 + 31; omega, fun H6 kvb6 kvt6 M6 s6 e6 b6 t6 aug => ?_, fun H6 kvt6 l6 s6 e6 t6 k6 n6 fail => ?_⟩
    · obtain ⟨z1, z2⟩ := back s6
      have aug0 : Aug row M (fun _ => False) c M6 := aug.sub fun x h => h.elim
      refine ⟨⟨_, rfl⟩, z1, z2, kvb6, M6, e6, b6, fun r x e => ?_, (dn.aug cout aug0).iff mem⟩
      have h2 := aug.into (N := (· ∈ M0)) rf.into (fun r x e => ⟨pm.mem_iff.mpr (inN r x e).1, pm.mem_iff.mpr (inN r x e).2⟩) (pm.mem_iff.mpr cN) r x e
      exact ⟨pm.mem_iff.mp h2.1, pm.mem_iff.mp h2.2⟩
    · obtain ⟨z1, z2⟩ := back s6
      obtain ⟨f1, f2, f3⟩ := fail
      refine ⟨⟨_, rfl⟩, z1, z2, kvb, M, e6, bK, inN, (dn.no (T' := (· ∈ l6)) ⟨fun _ h => h.elim, f2, fun r hr _ => f3 r hr fun h => nomatch h⟩).iff mem⟩
  · obtain ⟨⟨y2, rfl⟩, s3, e3, kvb, M, eB3, bK, inN, dn⟩ := h3
    rw [List.length_map, List.take_length] at dn
    refine ⟨_, rfl, Bf, kvb, rfl, eB3, fun o => ?_⟩
    refine q _ Bf o kvb M (fun b u e => ?_) hB upd_same bK inN dn
    rw [upd_ne (ne_of_none e hB)]
    exact s3 _ _ e
end
end HSP
namespace HSP
open PySem PySem.Spec PyProof.Rows L2
/-- a dict made over a walk -/
theorem dc_it {J : It} {n : Nat} {G : Hp → Prop} {Y : Nat → Hp → V → Hp → Prop} (w : Walk J n G Y) {Z : Addr} {g : TG} {tt : TT} {tk tv : TE} {vs : List Nat} {σ : L2.St} {G0 : Hp} {End : Hp → Prop} (Pv : Nat → Hp → Prop) (h0 : Pv 0 (upd G0 Z (.dK []))) (hG : ∀ i H, i ≤ n → Pv i H → G H)
    (hs : ∀ i x H H', i < n → Pv i H → Y i H x H' → dcTurn g tt tk tv vs σ Z (Pv (i + 1)) x H') (hd : ∀ H, Pv n H → End H) :
    ∃ W : Nat → Nat → Hp → Prop, (∃ m, W 0 m (upd G0 Z (.dK []))) ∧ ∀ i m H, W i m H → (J.stop i H ∧ End H) ∨ (J.go i H ∧ ∃ Nx : Hp → Prop, (∀ H', Nx H' → ∃ m', m' < m ∧ W (i + 1) m' H') ∧ ∀ x H', J.yld i H x H' → dcTurn g tt tk tv vs σ Z Nx x H') := by
  refine ⟨fun i m H => m = n - i ∧ i ≤ n ∧ Pv i H, ⟨n, by simp, Nat.zero_le _, h0⟩, ?_⟩
  rintro i m H ⟨rfl, hi, p⟩
  have q := hG i H hi p
  by_cases hlt : i < n
  · exact .inr ⟨w.goes i H hlt q, Pv (i + 1), fun H' p' => ⟨n - (i + 1), by omega, rfl, hlt, p'⟩, fun x H' y => hs i x H H' hlt p (w.yields i H x H' hlt q y)⟩
  · have e : i = n := by omega
    subst e
    exact .inl ⟨w.stops H q, hd H p⟩
end HSP
namespace HSP
open PySem PySem.Spec PyProof.Rows L2
/-! ## chains_of -/
theorem paired_in {α β : Type} {p q : α → β → Prop} : ∀ {as : List α} {bs : List β}, Paired p as bs → (∀ a b, a ∈ as → p a b → q a b) → Paired q as bs
  | _, _, .nil, _ => .nil
  | _, _, .cons h t, f => .cons (f _ _ List.mem_cons_self h) (paired_in t fun a b ha => f a b (List.mem_cons_of_mem _ ha))
/-- each but the first comes after the one ahead of it -/
def Lk (M : Bef) (c : List Nat) : Prop := ∀ i a b, c[i]? = some a → c[i + 1]? = some b → M b = some a
theorem Lk.snoc {M : Bef} {c : List Nat} {x r : Nat} (h : Lk M c) (hx : c.getLast? = some x) (hr : M r = some x) : Lk M (c ++ [r]) := fun i a b ha hb => by
  have l0 : 0 < c.length := by
    cases c with
    | nil => cases hx
    | cons y l => exact Nat.succ_pos _
  by_cases c1 : i + 1 < c.length
  · rw [List.getElem?_append_left (by omega)] at ha
    rw [List.getElem?_append_left c1] at hb
    exact h i a b ha hb
  · have c2 : i + 1 = c.length := by
      have := (List.getElem?_eq_some_iff.mp hb).1
      rw [List.length_append, List.length_singleton] at this
      omega
    rw [List.getElem?_append_left (by omega)] at ha
    rw [List.getElem?_append_right (by omega), c2, Nat.sub_self] at hb
    obtain rfl : r = b := Option.some.inj hb
    rw [List.getLast?_eq_getElem?, show c.length - 1 = i by omega, ha] at hx
    rw [hr, ← Option.some.inj hx]
/-- the chains in which those of N stand -/
def ChOf (M : Bef) (N : List Nat) (css : List (List Nat)) : Prop := css.map List.head? = (N.filter fun x => decide (M x = none)).map some ∧ ∀ c, c ∈ css → Lk M c ∧ (∀ x, c.getLast? = some x → ∀ r, M r ≠ some x) ∧ (∀ x, x ∈ c → x ∈ N) ∧ c.length ≤ N.length
/-- what is known of who comes before -/
structure BefF (row : Nat → List Nat) (M : Bef) (N : List Nat) : Prop where
  inN : ∀ r x, M r = some x → r ∈ N ∧ x ∈ N
  inj : ∀ r s l, M r = some l → M s = some l → r = s
  edge : EdgeB row M
  up : ∀ a, a ∈ N → ∀ b, b ∈ row a → a < b
def spChains : Sp := fun vs H Q _ => ∃ (R Bf : Addr) (ob : Obj) (M0 N : List Nat) (row : Nat → List Nat) (kvb : List (Key × V)) (M : Bef), vs = [.ref R, .ref Bf] ∧ RowsW H R M0 row ∧ RowF M0 row ∧ M0.Perm N ∧ N.Pairwise (· < ·) ∧ H Bf = some (.frz ob (.dK kvb)) ∧ BefK kvb M ∧ BefF row M N ∧
  ∀ (H' : Hp) (C : Addr) (as : List Addr) (css : List (List Nat)), Same H H' → H C = none → H' C = some (.lst (as.map V.ref)) → Paired (fun a c => H' a = some (.lst (c.map natV))) as css → ChOf M N css → as.Nodup → (∀ a, a ∈ as → H a = none ∧ a ≠ C) → Q (.ref C) H'
section
variable {P : Program} {w : World} {K : PySem.W.Frag} {mg : Str → Option Value} {base : Heap}
theorem sc_chains_of : FnScope n_chains_of ["rows", "before"] (defScope s_chains_of) := ⟨rfl, rfl, rfl, by decide +kernel, rfl, by decide +kernel, by decide +kernel⟩
theorem ok_chains (B : Bl mg) (a : At K mg "chains_of" s_chains_of) : Df P w K mg base "chains_of" 1 ["rows", "before"] spChains := by
  refine Df.mk' a sc_chains_of (fun vs H Q E h => ?_) (fun _ _ _ _ _ _ us hl => match us, hl with | [_, _], _ => rfl) (fun f cdv A outer s H vs Q E hr h => ?_)
  · obtain ⟨_, _, _, _, _, _, _, _, rfl, _⟩ := h
    rfl
  obtain ⟨R, Bf, ob, M0, N, row, kvb, M, rfl, rw0, rf, pm, up, eB, bK, bF, q⟩ := h
  have rw1 := rw0
  obtain ⟨prs, eR, kR, rR⟩ := rw0
  obtain ⟨ks, rfl, ndk, memk⟩ := bK
  have bK0 : BefK (kvI ks) M := ⟨ks, rfl, ndk, memk⟩
  have one : 1 ≤ sizeLine := by show 1 ≤ 16777216; decide
  refine ⟨_, (pss_cons (ps_setDc (i := 2) (own := [("other", 6), ("one", 7)]) (g := (gTup K 2 (gCons (gName 6) (gCons (gName 7) gNil)))) (tt := tYes) rfl rfl (sw_dict rfl rfl rfl (by decide +kernel)) rfl sc_chains_of.nd (pi_items (pv 1)) (blkOk_by (N := n_chains_of) (sc := defScope s_chains_of) (by decide +kernel)) (fun _ _ _ _ _ => (pg_tup rfl (pgs_cons (pg_name (i := 6) sc_chains_of.nd rfl (.inl rfl)) (pgs_cons (pg_name (i := 7) sc_chains_of.nd rfl (.inl rfl)) pgs_nil)))) (fun _ _ _ _ _ => pts_nil) (fun _ _ _ _ _ => (pv 7)) (fun _ _ _ _ _ => (pv 6)))
 (pss_cons (ps_set (i := 3) sc_chains_of.nd rfl (.inl rfl) (pe_lst pa_nil))
 (pss_cons (ps_for PassesOwn.never rfl (pi_list (pe_callB (call_sortedDI rfl) (by rfl) B.sorted (by decide +kernel) (pa_cons (pv 0) pa_nil))) (pg_name (i := 4) sc_chains_of.nd rfl (.inl rfl)) (pss_one (ps_if (pt_cmp (pc_dnotin (hu_of hr) (pv 4) (pv 1))) (pss_cons (ps_set (i := 5) sc_chains_of.nd rfl (.inl rfl) (pe_lst (pa_cons (pv 4) pa_nil)))
 (pss_cons (ps_while PassesOwn.never (pt_cmp (pc_din (hu_of hr) (pe_ix ix_list (pv 5) (pe_un un_neg pe_int) (fun _ _ => rfl)) (pv 2))) (pss_one (ps_expr (pe_bm PySem.F.plainAttrs_list PySem.F.slot_list_append PySem.F.type_list_append mt_append (pv 5) (pa_cons (pe_dget (hu_of hr) (pv 2) (pe_ix ix_list (pv 5) (pe_un un_neg pe_int) (fun _ _ => rfl)) (fun _ _ => rfl)) pa_nil)))))
 (pss_one (ps_expr (pe_bm PySem.F.plainAttrs_list PySem.F.slot_list_append PySem.F.type_list_append mt_append (pv 3) (pa_cons (pv 5) pa_nil)))))) pss_nil)))
 (pss_one (ps_ret (pv 3)))))), ?_⟩
  have l30 := rf.few
  have lN := pm.length_eq
  have lp : prs.length = M0.length := by rw [← kR, List.length_map]
  have lks : ks.length ≤ N.length := by
    have := nodup_sub (N := N) ndk fun x hx => by
      obtain ⟨⟨r, l⟩, hp, rfl⟩ := List.mem_map.mp hx
      exact (bF.inN r l ((memk r l).mp hp)).1
    rw [List.length_map] at this
    exact this
  refine ⟨_, rfl, Bf, ob, kvI ks, rfl, eB, fun Bh hBh => ?_⟩
  refine dc_it (g := gTup K 2 (gCons (gName 6) (gCons (gName 7) gNil))) (tt := tYes) (tk := tVar 7) (tv := tVar 6) (vs := [6, 7]) (σ := L2.start n_chains_of [V.ref R, V.ref Bf]) (walk_items (d := Bf) (o := ob) (kvs := kvI ks)) (fun i H' => Same H H' ∧ ∃ kvs Mi, H' Bh = some (.dK kvs) ∧ BefK kvs Mi ∧ ∀ l r, Mi l = some r ↔ (r, l) ∈ ks.take i) ⟨Same.new hBh, [], fun _ => none, upd_same, .nil, fun l r => ⟨nofun, fun h => nomatch h⟩⟩ (fun i H' _ h' => h'.1 _ _ eB) (fun i x H3 H4 hi h3 hy => ?_) (fun H3 h3 => ?_)
  · obtain ⟨s3, kvs, Mi, e3, b3, m3⟩ := h3
    obtain ⟨T, x1, x2, rfl, nT, rfl, g1, g2⟩ := hy
    rw [show (kvI ks).length = ks.length from List.length_map _] at hi
    obtain ⟨⟨r, l⟩, hb⟩ : ∃ z, ks[i]? = some z := ⟨_, List.getElem?_eq_getElem hi⟩
    have hkv : (kvI ks)[i]? = some (Sum.inl (r : Int), natV l) := by
      unfold kvI
      rw [List.getElem?_map, hb]
      rfl
    have g1 : ((kvI ks)[i]?.map fun kv => kV kv.1) = some x1 := g1
    have g2 : (kvI ks)[i]?.map Prod.snd = some x2 := g2
    rw [hkv] at g1 g2
    obtain rfl : natV r = x1 := Option.some.inj g1
    obtain rfl : natV l = x2 := Option.some.inj g2
    have sT := Same.new (o := .tup [natV r, natV l]) nT
    have e4 := sT _ _ e3
    have hm := (memk r l).mp (List.mem_of_getElem? hb)
    refine ⟨T, _, rfl, .of upd_same, rfl, _, _, rfl, _, [], rfl, rfl, ?_⟩
    refine ⟨rfl, yes_lcA ?_⟩
    have lb := b3.len (N := N) fun l r e => (bF.inN r l ((memk r l).mp (List.mem_of_mem_take ((m3 l r).mp e)))).2
    refine ⟨_, rfl, _, rfl, kvs, Sum.inl (l : Int), rfl, e4, small1000 (by omega), fun b u eb => ?_, _, Mi.set l r, upd_same, b3.put l r, fun l' r' => ?_⟩
    · rw [upd_ne (ne_of_none eb hBh)]
      exact sT _ _ (s3 _ _ eb)
    · rw [List.take_add_one, hb, List.mem_append]
      by_cases c : l' = l
      · subst c
        rw [Bef.set_same]
        constructor
        · intro h
          cases h
          exact .inr (List.mem_singleton.mpr rfl)
        · rintro (h | h)
          · rw [bF.inj r' r l' ((memk r' l').mp (List.mem_of_mem_take h)) hm]
          · cases List.mem_singleton.mp h
            rfl
      · rw [Bef.set_ne c, m3]
        exact ⟨.inl, fun h => h.elim id fun h => absurd (Prod.mk.inj (List.mem_singleton.mp h)).2 c⟩
  obtain ⟨s3, kvs, Mi, eH3, b3, m3⟩ := h3
  rw [show (kvI ks).length = ks.length from List.length_map _, List.take_length] at m3
  have inv : ∀ l r, Mi l = some r ↔ M r = some l := fun l r => (m3 l r).trans (memk r l)
  clear m3 memk ndk
  refine ⟨Nat.zero_le _, fun C hC => ?_⟩
  have nBC : Bh ≠ C := ne_of_none eH3 hC
  have sC := Same.new (o := .lst []) hC
  have eC3 : (upd H3 C (.lst [])) C = some (.lst []) := upd_same
  have eH4 := sC _ _ eH3
  have fC : H C = none := s3.free hC
  have s4 := s3.trans sC
  generalize upd H3 C (.lst []) = H4 at sC eC3 eH4 s4 ⊢
  refine ⟨_, rfl, R, kvN prs, prs.map (fun p => (p.1 : Int)), rfl, .inl (s4 _ _ eR), kvN_keys prs, ?_, fun ys S perm up2 hS => ?_⟩
  · rw [List.length_map]
    omega
  obtain rfl := sorted_rows pm up (by rw [← kR, List.map_map]; exact perm) up2
  have sS := Same.new (o := .lst ((N.map Int.ofNat).map V.int)) hS
  have eS : (upd H4 S (.lst ((N.map Int.ofNat).map V.int))) S = some (.lst (N.map natV)) := by
    rw [upd_same, List.map_map]
    rfl
  have eC5 := sS _ _ eC3
  have eH5 := sS _ _ eH4
  have s5 := s4.trans sS
  generalize upd H4 S (.lst ((N.map Int.ofNat).map V.int)) = H5 at sS eS eC5 eH5 s5 ⊢
  have nSC : S ≠ C := (ne_of_none eC3 hS).symm
  refine ⟨S, rfl, ⟨_, .of eS⟩, ?_⟩
  refine for_it (walk_list (K := K) (a := S) (xs := N.map natV)) (fun i σ H' => (∃ y4 y5 : Option V, σ = [some (.ref R), some (.ref Bf), some (.ref Bh), some (.ref C), y4, y5, none, none]) ∧ Same H H' ∧ H' S = some (.lst (N.map natV)) ∧ H' Bh = some (.dK kvs) ∧ ∃ (as : List Addr) (css : List (List Nat)), H' C = some (.lst (as.map V.ref)) ∧ Paired (fun a c => H' a = some (.lst (c.map natV))) as css ∧ css.map List.head? = ((N.take i).filter fun x => decide (M x = none)).map some ∧ (∀ c, c ∈ css → Lk M c ∧ (∀ x, c.getLast? = some x → ∀ r, M r ≠ some x) ∧ (∀ x, x ∈ c → x ∈ N) ∧ c.length ≤ N.length) ∧ as.Nodup ∧ ∀ a, a ∈ as → H a = none ∧ a ≠ C ∧ a ≠ S ∧ a ≠ Bh) ⟨⟨_, _, rfl⟩, s5, eS, eH5, [], [], eC5, .nil, rfl, fun _ h => (nomatch h), List.nodup_nil, fun _ h => nomatch h⟩ (fun i σ H' _ h' => .of h'.2.2.1) (fun i x σ H6 H7 hi h6 hy => ?_) (fun σ H6 h6 => ?_)
  · obtain ⟨⟨y4, y5, rfl⟩, s6, eS6, eH6, as, css, eC6, pC, heads, good, nda, fresh⟩ := h6
    obtain ⟨rfl, hx⟩ := hy
    rw [List.getElem?_map] at hx
    obtain ⟨c, hc, rfl⟩ := Option.map_eq_some_iff.mp hx
    have cN := List.mem_of_getElem? hc
    have eB6 := s6 _ _ eB
    have et : (N.take (i + 1)).filter (fun x => decide (M x = none)) = (N.take i).filter (fun x => decide (M x = none)) ++ [c].filter fun x => decide (M x = none) := by
      rw [List.take_add_one, hc, List.filter_append]
      rfl
    have lcs : as.length ≤ i := by
      have h1 := congrArg List.length heads
      rw [List.length_map, List.length_map] at h1
      have h2 := List.length_filter_le (fun x => decide (M x = none)) (N.take i)
      rw [List.length_take] at h2
      have h3 := Paired.length pC
      omega
    have hi' : i < N.length := by rw [List.length_map] at hi; exact hi
    cases em : M c with
    | some y =>
      refine ⟨_, rfl, _, rfl, Bf, some (natV y), rfl, .inl ⟨kvI ks, Sum.inl (c : Int), .inr ⟨ob, eB6⟩, rfl, by rw [bK0.get, em]; rfl⟩, false, rfl, iteF ⟨⟨_, _, rfl⟩, s6, eS6, eH6, as, css, eC6, pC, ?_, good, nda, fresh⟩⟩
      rw [et, List.filter_cons_of_neg (by rw [em]; exact Bool.false_ne_true), List.filter_nil, List.append_nil]
      exact heads
    | none =>
      refine ⟨_, rfl, _, rfl, Bf, none, rfl, .inl ⟨kvI ks, Sum.inl (c : Int), .inr ⟨ob, eB6⟩, rfl, by rw [bK0.get, em]; rfl⟩, true, rfl, iteT ?_⟩
      refine ⟨_, rfl, one, fun Ca hCa => ?_⟩
      have sA := Same.new (o := .lst [natV c]) hCa
      have nCC : Ca ≠ C := (ne_of_none eC6 hCa).symm
      have nCS : Ca ≠ S := (ne_of_none eS6 hCa).symm
      have nCB : Ca ≠ Bh := (ne_of_none eH6 hCa).symm
      have fA : H Ca = none := s6.free hCa
      have naA : Ca ∉ as := fun z => by
        obtain ⟨k, hk⟩ := List.getElem?_of_mem z
        obtain ⟨c2, _, e2⟩ := Paired.getL pC hk
        rw [hCa] at e2
        cases e2
      refine ⟨fun m σ H1 => ∃ (pre : List Nat) (x : Nat), σ = [some (.ref R), some (.ref Bf), some (.ref Bh), some (.ref C), some (natV c), some (.ref Ca), none, none] ∧ Same H7 H1 ∧ H1 Ca = some (.lst ((pre ++ [x]).map natV)) ∧ (pre ++ [x]).head? = some c ∧ Lk M (pre ++ [x]) ∧ (∀ z, z ∈ pre ++ [x] → z ∈ N ∧ z ≤ x) ∧ (pre ++ [x]).Nodup ∧ m + (pre ++ [x]).length = N.length, ⟨N.length - 1, [], c, rfl, sA, upd_same, rfl, fun i a b ha hb => ?_, fun z hz => ?_, List.pairwise_singleton _ _, ?_⟩, fun m σ H8 hW => ?_⟩
      · rw [List.nil_append, List.getElem?_eq_none (by show 1 ≤ i + 1; omega)] at hb
        cases hb
      · rw [List.mem_singleton.mp hz]
        exact ⟨cN, Nat.le_refl _⟩
      · show N.length - 1 + 1 = N.length
        omega
      obtain ⟨pre, x, rfl, s8, e8, hd, lk, inx, ndc, hm⟩ := hW
      have at1 : atI ((pre ++ [x]).map natV) (-1) = some (natV x) := by
        rw [List.map_append]
        exact atI_last _ _
      have eH8 := s8 _ _ eH6
      have xN := (inx x (List.mem_append_right _ (List.mem_singleton.mpr rfl))).1
      cases er : Mi x with
      | some r =>
        refine ⟨_, rfl, _, rfl, Ca, _, _, _, rfl, rfl, .of e8, at1, ?_⟩
        have hr := (inv x r).mp er
        have xr := bF.up x xN r (bF.edge r x hr)
        have nr : r ∉ pre ++ [x] := fun z => by
          have := (inx r z).2
          omega
        have nd2 : (pre ++ [x] ++ [r]).Nodup := List.nodup_append.mpr ⟨ndc, List.pairwise_singleton _ _, fun a ha d hd z => nr (by rw [List.mem_singleton] at hd; rw [← hd, ← z]; exact ha)⟩
        have in2 : ∀ z, z ∈ pre ++ [x] ++ [r] → z ∈ N ∧ z ≤ r := fun z hz => by
          rcases List.mem_append.mp hz with hz | hz
          · exact ⟨(inx z hz).1, by have := (inx z hz).2; omega⟩
          · rw [List.mem_singleton.mp hz]
            exact ⟨(bF.inN r x hr).1, Nat.le_refl _⟩
        have l2 := nodup_sub nd2 fun z hz => (in2 z hz).1
        have l3 : (pre ++ [x] ++ [r]).length = (pre ++ [x]).length + 1 := by rw [List.length_append]; rfl
        refine ⟨_, rfl, Bh, some (natV r), rfl, .inl ⟨kvs, Sum.inl (x : Int), .inl (s8 _ _ eH6), rfl, by rw [b3.get, er]; rfl⟩, true, rfl, iteT ?_⟩
        refine ⟨fun σ' H' => ∃ m', m' < m ∧ ∃ (pre : List Nat) (x : Nat), σ' = [some (.ref R), some (.ref Bf), some (.ref Bh), some (.ref C), some (natV c), some (.ref Ca), none, none] ∧ Same H7 H' ∧ H' Ca = some (.lst ((pre ++ [x]).map natV)) ∧ (pre ++ [x]).head? = some c ∧ Lk M (pre ++ [x]) ∧ (∀ z, z ∈ pre ++ [x] → z ∈ N ∧ z ≤ x) ∧ (pre ++ [x]).Nodup ∧ m' + (pre ++ [x]).length = N.length, fun σ' H' hN => hN, ?_⟩
        refine ⟨_, rfl, .inl ⟨rfl, _, .of e8⟩, _, rfl, _, rfl, _, rfl, Ca, _, _, _, rfl, rfl, .of e8, at1, Bh, _, rfl, .inl ⟨kvs, Sum.inl (x : Int), .inl (s8 _ _ eH6), rfl, by rw [b3.get, er]; rfl⟩, ?_⟩
        refine ⟨Ca, _, _, rfl, rfl, e8, ?_, ?_⟩
        · rw [List.length_map]
          exact small1000 (by omega)
        refine ⟨m - 1, by omega, pre ++ [x], r, rfl, fun b u eb => ?_, ?_, ?_, lk.snoc (by rw [List.getLast?_append]; rfl) hr, in2, nd2, by omega⟩
        · rw [upd_ne (ne_of_none eb hCa)]
          exact s8 _ _ eb
        · rw [upd_same, List.map_append (l₂ := [r])]
          rfl
        · rw [List.head?_append, hd]
          rfl
      | none =>
        refine ⟨_, rfl, _, rfl, Ca, _, _, _, rfl, rfl, .of e8, at1, ?_⟩
        refine ⟨_, rfl, Bh, none, rfl, .inl ⟨kvs, Sum.inl (x : Int), .inl (s8 _ _ eH6), rfl, by rw [b3.get, er]; rfl⟩, false, rfl, iteF ?_⟩
        have eC8 := s8 _ _ eC6
        refine ⟨_, rfl, .inl ⟨rfl, _, .of eC8⟩, _, rfl, C, _, _, rfl, rfl, eC8, ?_, ?_⟩
        · rw [List.length_map]
          exact small1000 (by omega)
        refine ⟨⟨_, _, rfl⟩, fun b u eb => ?_, ?_, ?_, as ++ [Ca], css ++ [pre ++ [x]], ?_, ?_, ?_, fun c2 hc2 => ?_, ?_, fun a2 ha2 => ?_⟩
        · rw [upd_ne (ne_of_none eb fC)]
          exact s8 _ _ (s6 _ _ eb)
        · rw [upd_ne nSC]
          exact s8 _ _ eS6
        · rw [upd_ne nBC]
          exact s8 _ _ eH6
        · rw [upd_same, List.map_append]
          rfl
        · refine Paired.app (paired_in pC fun a2 c2 ha2 h => ?_) (.cons ?_ .nil)
          · rw [upd_ne (fresh a2 ha2).2.1]
            exact s8 _ _ h
          · rw [upd_ne nCC]
            exact e8
        · rw [et, List.filter_cons_of_pos (by rw [em]; rfl), List.filter_nil, List.map_append, List.map_append, heads]
          show _ ++ [(pre ++ [x]).head?] = _ ++ [some c]
          rw [hd]
        · rcases List.mem_append.mp hc2 with hc2 | hc2
          · exact good c2 hc2
          · rw [List.mem_singleton.mp hc2]
            refine ⟨lk, fun y hy r hr => ?_, fun z hz => (inx z hz).1, by omega⟩
            rw [List.getLast?_append] at hy
            obtain rfl : x = y := Option.some.inj hy
            rw [(inv x r).mpr hr] at er
            cases er
        · exact List.nodup_append.mpr ⟨nda, List.pairwise_singleton _ _, fun a2 ha2 d hd2 z => naA (by rw [List.mem_singleton] at hd2; rw [← hd2, ← z]; exact ha2)⟩
        · rcases List.mem_append.mp ha2 with ha2 | ha2
          · exact fresh a2 ha2
          · rw [List.mem_singleton.mp ha2]
            exact ⟨fA, nCC, nCS, nCB⟩
  · obtain ⟨⟨y4, y5, rfl⟩, s6, eS6, eH6, as, css, eC6, pC, heads, good, nda, fresh⟩ := h6
    rw [List.length_map, List.take_length] at heads
    exact ⟨_, rfl, q H6 C as css s6 fC eC6 pC ⟨heads, good⟩ nda fun a ha => ⟨(fresh a ha).1, (fresh a ha).2.1⟩⟩
end
end HSP
namespace HSP
open PySem PySem.Spec PyProof.Rows L2
/-! ## keepers, repair -/
def befN (M : Bef) (r : Nat) : Nat := (M r).getD 0
/-- the nodes that are kept: those reached that are not barred -/
def KeepF (row : Nat → List Nat) (M : Bef) (N ks : List Nat) : Prop := ks.Pairwise (· ≤ ·) ∧ ∃ U B : List Nat, U.Nodup ∧ (∀ x, x ∈ U ↔ x ∈ N ∧ ∀ r, M r ≠ some x) ∧ B.Nodup ∧ (∀ r, r ∈ B → ∃ l, M r = some l) ∧
  (∀ l, l ∈ U ++ B.map (befN M) → ∀ r, r ∈ row l → r ∈ B) ∧ ks.Perm ((U ++ B.map (befN M)).filter fun x => decide (x ∉ B))
theorem perm_nats {ns : List Int} {xs : List Nat} (p : ns.Perm (xs.map Int.ofNat)) : ∃ zs : List Nat, ns = zs.map Int.ofNat ∧ zs.Perm xs := by
  refine ⟨ns.map Int.toNat, ?_, ?_⟩
  · rw [List.map_map]
    have : ∀ l : List Int, (∀ v, v ∈ l → 0 ≤ v) → l = l.map (Int.ofNat ∘ Int.toNat) := fun l => by
      induction l with
      | nil => intro _; rfl
      | cons v r ih =>
        intro h
        rw [List.map_cons, ← ih fun x hx => h x (List.mem_cons_of_mem _ hx)]
        have := h v List.mem_cons_self
        rw [show (Int.ofNat ∘ Int.toNat) v = v from Int.toNat_of_nonneg this]
    refine this ns fun v hv => ?_
    obtain ⟨x, _, rfl⟩ := List.mem_map.mp (p.mem_iff.mp hv)
    exact Int.natCast_nonneg x
  · have h := p.map Int.toNat
    rw [List.map_map] at h
    have e : xs.map (Int.toNat ∘ Int.ofNat) = xs := by
      have : (Int.toNat ∘ Int.ofNat) = id := funext fun x => rfl
      rw [this, List.map_id]
    rw [e] at h
    exact h
def spKeepers : Sp := fun vs H Q _ => ∃ (R Bf : Addr) (ob : Obj) (M0 N : List Nat) (row : Nat → List Nat) (kvb : List (Key × V)) (M : Bef), vs = [.ref R, .ref Bf] ∧ RowsW H R M0 row ∧ RowF M0 row ∧ M0.Perm N ∧ N.Pairwise (· < ·) ∧ H Bf = some (.frz ob (.dK kvb)) ∧ BefK kvb M ∧ BefF row M N ∧ DoneB row M (· ∈ N) ∧
  ∀ (H' : Hp) (Kp : Addr) (ks : List Nat), Same H H' → H Kp = none → H' Kp = some (.lst (ks.map natV)) → KeepF row M N ks → Q (.ref Kp) H'
section
variable {P : Program} {w : World} {K : PySem.W.Frag} {mg : Str → Option Value} {base : Heap}
theorem sc_keepers : FnScope n_keepers ["rows", "before"] (defScope s_keepers) := ⟨rfl, rfl, rfl, by decide +kernel, rfl, by decide +kernel, by decide +kernel⟩
theorem ok_keepers (B : Bl mg) (a : At K mg "keepers" s_keepers) : Df P w K mg base "keepers" 1 ["rows", "before"] spKeepers := by
  refine Df.mk' a sc_keepers (fun vs H Q E h => ?_) (fun _ _ _ _ _ _ us hl => match us, hl with | [_, _], _ => rfl) (fun f cdv A outer s H vs Q E hr h => ?_)
  · obtain ⟨_, _, _, _, _, _, _, _, rfl, _⟩ := h
    rfl
  obtain ⟨R, Bf, ob, M0, N, row, kvb, M, rfl, rw0, rf, pm, up, eB, bK, bF, dn, q⟩ := h
  have rw1 := rw0
  obtain ⟨prs, eR, kR, rR⟩ := rw0
  have bK0 := bK
  obtain ⟨ks, rfl, ndk, memk⟩ := bK
  have one : 1 ≤ sizeLine := by show 1 ≤ 16777216; decide
  refine ⟨_, (pss_cons (ps_set (i := 3) sc_keepers.nd rfl (.inr rfl) (pe_dc (own := [("one", 2)]) (g := (gName 2)) (tt := tYes) rfl sc_keepers.nd (pi_values (pv 1)) (blkOk_by (N := n_keepers) (sc := defScope s_keepers) (by decide +kernel)) (fun _ _ _ _ _ => (pg_name (i := 2) sc_keepers.nd rfl (.inl rfl))) (fun _ _ _ _ _ => pts_nil) (fun _ _ _ _ _ => (pv 2)) (fun _ _ _ _ _ => pe_bl)))
 (pss_cons (ps_setLc (i := 4) (own := [("one", 2)]) (g := (gName 2)) (by rfl) sc_keepers.nd rfl rfl (sw_true rfl rfl rfl (by decide +kernel)) (pi_list (pe_callB (call_sortedDI rfl) (by rfl) B.sorted (by decide +kernel) (pa_cons (pv 0) pa_nil))) (blkOk_by (N := n_keepers) (sc := defScope s_keepers) (by decide +kernel)) (fun _ _ _ _ _ => (pg_name (i := 2) sc_keepers.nd rfl (.inl rfl))) (fun _ _ _ _ _ => (pts_one (pt_cmp (pc_dnotin (hu_of hr) (pv 2) (pv 3))))) (fun _ _ _ _ _ => (pv 2)))
 (pss_cons (ps_set (i := 5) sc_keepers.nd rfl (.inl rfl) (pe_callTy call_list_of (by rfl) B.list (by decide +kernel) (pa_cons (pv 4) pa_nil)))
 (pss_cons (ps_set (i := 6) sc_keepers.nd rfl (.inr rfl) pe_dnewK)
 (pss_cons (ps_while PassesOwn.never (pt_truth (pv 5) (by intro _; rfl)) (pss_cons (ps_set (i := 2) sc_keepers.nd rfl (.inl rfl) (pe_bm0 PySem.F.plainAttrs_list PySem.F.slot_list_pop PySem.F.type_list_pop mt_pop (pv 5)))
 (pss_one (ps_for PassesOwn.never rfl (pi_list (pe_dget (hu_of hr) (pv 0) (pv 2) (fun _ _ => rfl))) (pg_name (i := 7) sc_keepers.nd rfl (.inl rfl)) (pss_one (ps_if (pt_cmp (pc_dnotin (hu_of hr) (pv 7) (pv 6))) (pss_cons (ps_dput (hu_of hr) (pv 6) (pv 7) pe_bl (by rfl))
 (pss_cons (ps_expr (pe_bm PySem.F.plainAttrs_list PySem.F.slot_list_append PySem.F.type_list_append mt_append (pv 4) (pa_cons (pe_dget (hu_of hr) (pv 1) (pv 7) (fun _ _ => rfl)) pa_nil)))
 (pss_one (ps_expr (pe_bm PySem.F.plainAttrs_list PySem.F.slot_list_append PySem.F.type_list_append mt_append (pv 5) (pa_cons (pe_dget (hu_of hr) (pv 1) (pv 7) (fun _ _ => rfl)) pa_nil)))))) pss_nil))))))
 (pss_one (ps_ret (pe_lc (own := [("node", 8)]) (g := (gName 8)) (by rfl) sc_keepers.nd (pi_list (pe_callB cr_sortedI (by rfl) B.sorted (by decide +kernel) (pa_cons (pv 4) pa_nil))) (blkOk_by (N := n_keepers) (sc := defScope s_keepers) (by decide +kernel)) (fun _ _ _ _ _ => (pg_name (i := 8) sc_keepers.nd rfl (.inl rfl))) (fun _ _ _ _ _ => (pts_one (pt_cmp (pc_dnotin (hu_of hr) (pv 8) (pv 6))))) (fun _ _ _ _ _ => (pv 8)))))))))), ?_⟩
  have l30 := rf.few
  have lN := pm.length_eq
  have lp : prs.length = M0.length := by rw [← kR, List.length_map]
  have lks : ks.length ≤ N.length := by
    have := nodup_sub (N := N) ndk fun x hx => by
      obtain ⟨⟨r, l⟩, hp, rfl⟩ := List.mem_map.mp hx
      exact (bF.inN r l ((memk r l).mp hp)).1
    rw [List.length_map] at this
    exact this
  have nds : (ks.map (·.2)).Nodup := by
    rw [List.nodup_iff_pairwise_ne, List.pairwise_map]
    refine List.Pairwise.imp_of_mem (fun {p q} hp hq h => ?_) (List.pairwise_map.mp (List.nodup_iff_pairwise_ne.mp ndk))
    intro z
    have h1 := (memk p.1 p.2).mp hp
    have h2 := (memk q.1 q.2).mp hq
    rw [z] at h1
    exact h (bF.inj _ _ _ h1 h2)
  have folM : ∀ x, x ∈ ks.map (·.2) ↔ ∃ r, M r = some x := fun x => by
    constructor
    · intro h
      obtain ⟨⟨r, l⟩, hp, rfl⟩ := List.mem_map.mp h
      exact ⟨r, (memk r l).mp hp⟩
    · rintro ⟨r, h⟩
      exact List.mem_map.mpr ⟨(r, x), (memk r x).mpr h, rfl⟩
  refine ⟨_, rfl, Bf, ob, kvI ks, rfl, eB, fun Fo hFo => ?_⟩
  refine dc_it (g := gName 2) (tt := tYes) (tk := tVar 2) (tv := tC (V.bl true)) (vs := [2]) (σ := L2.start n_keepers [V.ref R, V.ref Bf]) (walk_values (d := Bf) (o := ob) (kvs := kvI ks)) (fun i H' => Same H H' ∧ ∃ kvs, H' Fo = some (.dK kvs) ∧ TrdK kvs ((ks.take i).map (·.2))) ⟨Same.new hFo, [], upd_same, .nil⟩ (fun i H' _ h' => h'.1 _ _ eB) (fun i x H3 H4 hi h3 hy => ?_) (fun H3 h3 => ?_)
  · obtain ⟨s3, kvs, e3, t3⟩ := h3
    obtain ⟨rfl, k0, hk⟩ := hy
    rw [show (kvI ks).length = ks.length from List.length_map _] at hi
    obtain ⟨⟨r, l⟩, hb⟩ : ∃ z, ks[i]? = some z := ⟨_, List.getElem?_eq_getElem hi⟩
    have hkv : (kvI ks)[i]? = some (Sum.inl (r : Int), natV l) := by
      unfold kvI
      rw [List.getElem?_map, hb]
      rfl
    rw [hkv] at hk
    obtain rfl : natV l = x := (Prod.mk.inj (Option.some.inj hk)).2
    have et : (ks.take (i + 1)).map (·.2) = (ks.take i).map (·.2) ++ [l] := by rw [List.take_add_one, hb, List.map_append]; rfl
    have nl : l ∉ (ks.take i).map (·.2) := by
      have h1 : (ks.map (·.2))[i]? = some l := by rw [List.getElem?_map, hb]; rfl
      rw [List.map_take]
      exact take_new (List.nodup_iff_pairwise_ne.mp nds) h1
    have lt := t3.len
    rw [List.length_map, List.length_take] at lt
    refine ⟨rfl, yes_lcA ?_⟩
    refine ⟨_, rfl, kvs, Sum.inl (l : Int), rfl, e3, small1000 (by omega), fun b u eb => ?_, _, upd_same, ?_⟩
    · rw [upd_ne (ne_of_none eb hFo)]
      exact s3 _ _ eb
    · rw [et]
      exact t3.put nl
  obtain ⟨s3, kvf, eF3, tF⟩ := h3
  rw [show (kvI ks).length = ks.length from List.length_map _, List.take_length] at tF
  refine ⟨_, rfl, R, kvN prs, prs.map (fun p => (p.1 : Int)), rfl, .inl (s3 _ _ eR), kvN_keys prs, ?_, fun ys S perm up2 hS => ?_⟩
  · rw [List.length_map]
    omega
  obtain rfl := sorted_rows pm up (by rw [← kR, List.map_map]; exact perm) up2
  have sS := Same.new (o := .lst ((N.map Int.ofNat).map V.int)) hS
  have eS : (upd H3 S (.lst ((N.map Int.ofNat).map V.int))) S = some (.lst (N.map natV)) := by
    rw [upd_same, List.map_map]
    rfl
  have eF5 := sS _ _ eF3
  have s5 := s3.trans sS
  generalize upd H3 S (.lst ((N.map Int.ofNat).map V.int)) = H5 at sS eS eF5 s5 ⊢
  refine ⟨S, rfl, ⟨_, .of eS⟩, fun Re hRe => ?_⟩
  refine lc_it (walk_list (K := K) (a := S) (xs := N.map natV)) (fun i H' => Same H5 H' ∧ H' Re = some (.lst (((N.take i).filter fun x => decide (x ∉ ks.map (·.2))).map natV))) ⟨Same.new hRe, upd_same⟩ (fun i H' _ h' => .of (h'.1 _ _ eS)) (fun i x H6 H7 hi h6 hy => ?_) (fun H6 h6 => ?_)
  · obtain ⟨s6, e6⟩ := h6
    obtain ⟨rfl, hx⟩ := hy
    rw [List.getElem?_map] at hx
    obtain ⟨c, hc, rfl⟩ := Option.map_eq_some_iff.mp hx
    have et : (N.take (i + 1)).filter (fun x => decide (x ∉ ks.map (·.2))) = (N.take i).filter (fun x => decide (x ∉ ks.map (·.2))) ++ [c].filter fun x => decide (x ∉ ks.map (·.2)) := by
      rw [List.take_add_one, hc, List.filter_append]
      rfl
    have few := List.length_filter_le (fun x => decide (x ∉ ks.map (·.2))) (N.take i)
    rw [List.length_take] at few
    refine ⟨rfl, ?_⟩
    by_cases cf : c ∈ ks.map (·.2)
    · refine ⟨_, rfl, _, rfl, Fo, some (.bl true), rfl, .inl ⟨kvf, Sum.inl (c : Int), .inl (s6 _ _ eF5), rfl, by rw [tF.get, if_pos cf]⟩, false, rfl, iteF ⟨s6, ?_⟩⟩
      rw [et, List.filter_cons_of_neg (by rw [decide_eq_false (fun z => z cf)]; exact Bool.false_ne_true), List.filter_nil, List.append_nil]
      exact e6
    · refine ⟨_, rfl, _, rfl, Fo, none, rfl, .inl ⟨kvf, Sum.inl (c : Int), .inl (s6 _ _ eF5), rfl, by rw [tF.get, if_neg cf]⟩, true, rfl, iteT ?_⟩
      refine ⟨_, rfl, _, e6, ?_, fun b u eb => ?_, ?_⟩
      · rw [List.length_map]
        exact small1000 (by omega)
      · rw [upd_ne (ne_of_none eb hRe)]
        exact s6 _ _ eb
      · rw [upd_same, et, List.filter_cons_of_pos (by rw [decide_eq_true cf]), List.filter_nil, List.map_append]
        rfl
  obtain ⟨s6, eRe⟩ := h6
  rw [List.length_map, List.take_length] at eRe
  have memU : ∀ x, x ∈ N.filter (fun x => decide (x ∉ ks.map (·.2))) ↔ x ∈ N ∧ ∀ r, M r ≠ some x := fun x => by
    rw [List.mem_filter, decide_eq_true_iff, folM]
    exact ⟨fun ⟨h1, h2⟩ => ⟨h1, fun r e => h2 ⟨r, e⟩⟩, fun ⟨h1, h2⟩ => ⟨h1, fun ⟨r, e⟩ => h2 r e⟩⟩
  have ndN : N.Nodup := up.imp fun {a b} z => Nat.ne_of_lt z
  have ndU : (N.filter (fun x => decide (x ∉ ks.map (·.2)))).Nodup := ndN.filter _
  generalize N.filter (fun x => decide (x ∉ ks.map (·.2))) = U at eRe memU ndU
  have lU := nodup_sub ndU fun x hx => ((memU x).mp hx).1
  have s06 := s5.trans s6
  have fRe : H Re = none := s5.free hRe
  clear tF eF5 sS s3 s5 eF3 folM nds memk
  refine ⟨_, rfl, Re, _, rfl, .inl (.of eRe), fun Wt hWt => ?_⟩
  have sW := Same.new (o := .lst (U.map natV)) hWt
  have eRe2 := sW _ _ eRe
  have eWt : (upd H6 Wt (.lst (U.map natV))) Wt = some (.lst (U.map natV)) := upd_same
  have fWt : H Wt = none := s06.free hWt
  have nRW : Re ≠ Wt := ne_of_none eRe hWt
  have s07 := s06.trans sW
  generalize upd H6 Wt (.lst (U.map natV)) = H7 at sW eRe2 eWt s07 ⊢
  refine fun Bd hBd => ?_
  have sD := Same.new (o := .dK []) hBd
  have eRe3 := sD _ _ eRe2
  have eWt3 := sD _ _ eWt
  have eBd : (upd H7 Bd (.dK [])) Bd = some (.dK []) := upd_same
  have fBd : H Bd = none := s07.free hBd
  have nRB : Re ≠ Bd := ne_of_none eRe2 hBd
  have nWB : Wt ≠ Bd := ne_of_none eWt hBd
  have s08 := s07.trans sD
  generalize upd H7 Bd (.dK []) = H8 at sD eRe3 eWt3 eBd s08 ⊢
  refine ⟨fun m σ H' => ∃ (wl Bl : List Nat) (kvt : List (Key × V)), (∃ y2 y7 : Option V, σ = [some (.ref R), some (.ref Bf), y2, some (.ref Fo), some (.ref Re), some (.ref Wt), some (.ref Bd), y7, none]) ∧ Same H H' ∧ H' Re = some (.lst ((U ++ Bl.map (befN M)).map natV)) ∧ H' Wt = some (.lst (wl.map natV)) ∧ H' Bd = some (.dK kvt) ∧ TrdK kvt Bl ∧ (∀ r, r ∈ Bl → r ∈ N ∧ ∃ l, M r = some l) ∧ (∀ x, x ∈ wl → x ∈ U ++ Bl.map (befN M)) ∧ (∀ l, l ∈ U ++ Bl.map (befN M) → l ∈ N ∧ ∃ C, ShutB row M C ∧ ∀ x, x ∈ row l → C x) ∧ (∀ l, l ∈ U ++ Bl.map (befN M) → l ∈ wl ∨ ∀ r, r ∈ row l → r ∈ Bl) ∧ m = 2 * (N.length - Bl.length) + wl.length ∧ m ≤ 90, ⟨_, U, [], [], ⟨_, _, rfl⟩, s08, by rw [List.map_nil, List.append_nil]; exact eRe3, eWt3, eBd, .nil, fun _ h => (nomatch h), fun x hx => List.mem_append_left _ hx, fun l hl => ?_, fun l hl => ?_, rfl, by show 2 * (N.length - 0) + U.length ≤ 90; omega⟩, fun m σ H9 hW => ?_⟩
  · rw [List.map_nil, List.append_nil] at hl
    have hu := (memU l).mp hl
    refine ⟨hu.1, ?_⟩
    rcases dn.fail l hu.1 with ⟨r, e⟩ | h
    · exact absurd e (hu.2 r)
    · exact h
  · rw [List.map_nil, List.append_nil] at hl
    exact .inl hl
  obtain ⟨wl, Bl, kvt, ⟨y2, y7, rfl⟩, s9, eR9, eW9, eD9, tk, inB, wlR, shut, open_, rfl, m90⟩ := hW
  rcases List.eq_nil_or_concat wl with rfl | ⟨pre, x, rfl⟩
  · refine ⟨_, rfl, false, .inl ⟨_, .of eW9, rfl⟩, ?_⟩
    refine iteF ?_
    have eR9' : H9 Re = some (.lst (((U ++ Bl.map (befN M)).map Int.ofNat).map V.int)) := by
      rw [eR9, List.map_map]
      rfl
    refine ⟨_, rfl, Re, _, rfl, .of eR9', fun ns' S2 pm2 up2 hS2 => ?_⟩
    obtain ⟨zs, rfl, pz⟩ := perm_nats pm2
    have eS2 : (upd H9 S2 (.lst ((zs.map Int.ofNat).map V.int))) S2 = some (.lst (zs.map natV)) := by
      rw [upd_same, List.map_map]
      rfl
    have sS2 := Same.new (o := .lst ((zs.map Int.ofNat).map V.int)) hS2
    have eD10 := sS2 _ _ eD9
    have s10 := s9.trans sS2
    generalize upd H9 S2 (.lst ((zs.map Int.ofNat).map V.int)) = H10 at eS2 sS2 eD10 s10 ⊢
    refine ⟨S2, rfl, ⟨_, .of eS2⟩, fun L hL => ?_⟩
    have fL : H L = none := s10.free hL
    have lB := nodup_sub tk.2 fun r hr => (inB r hr).1
    have lz : zs.length ≤ 60 := by
      rw [pz.length_eq, List.length_append, List.length_map]
      omega
    refine lc_it (walk_list (K := K) (a := S2) (xs := zs.map natV)) (fun i H' => Same H10 H' ∧ H' L = some (.lst (((zs.take i).filter fun x => decide (x ∉ Bl)).map natV))) ⟨Same.new hL, upd_same⟩ (fun i H' _ h' => .of (h'.1 _ _ eS2)) (fun i x H11 H12 hi h11 hy => ?_) (fun H11 h11 => ?_)
    · obtain ⟨s11, e11⟩ := h11
      obtain ⟨rfl, hx⟩ := hy
      rw [List.getElem?_map] at hx
      obtain ⟨c, hc, rfl⟩ := Option.map_eq_some_iff.mp hx
      have et : (zs.take (i + 1)).filter (fun x => decide (x ∉ Bl)) = (zs.take i).filter (fun x => decide (x ∉ Bl)) ++ [c].filter fun x => decide (x ∉ Bl) := by
        rw [List.take_add_one, hc, List.filter_append]
        rfl
      have few := List.length_filter_le (fun x => decide (x ∉ Bl)) (zs.take i)
      rw [List.length_take] at few
      refine ⟨rfl, ?_⟩
      by_cases cf : c ∈ Bl
      · refine ⟨_, rfl, _, rfl, Bd, some (.bl true), rfl, .inl ⟨kvt, Sum.inl (c : Int), .inl (s11 _ _ eD10), rfl, by rw [tk.get, if_pos cf]⟩, false, rfl, iteF ⟨s11, ?_⟩⟩
        rw [et, List.filter_cons_of_neg (by rw [decide_eq_false (fun z => z cf)]; exact Bool.false_ne_true), List.filter_nil, List.append_nil]
        exact e11
      · refine ⟨_, rfl, _, rfl, Bd, none, rfl, .inl ⟨kvt, Sum.inl (c : Int), .inl (s11 _ _ eD10), rfl, by rw [tk.get, if_neg cf]⟩, true, rfl, iteT ?_⟩
        refine ⟨_, rfl, _, e11, ?_, fun b u eb => ?_, ?_⟩
        · rw [List.length_map]
          exact small1000 (by omega)
        · rw [upd_ne (ne_of_none eb hL)]
          exact s11 _ _ eb
        · rw [upd_same, et, List.filter_cons_of_pos (by rw [decide_eq_true cf]), List.filter_nil, List.map_append]
          rfl
    · obtain ⟨s11, e11⟩ := h11
      rw [List.length_map, List.take_length] at e11
      have upz : zs.Pairwise (· ≤ ·) := (List.pairwise_map.mp up2).imp fun {a b} h => by
        have h : ((a : Nat) : Int) ≤ ((b : Nat) : Int) := h
        omega
      refine q H11 L _ (s10.trans s11) fL e11 ⟨upz.filter _, U, Bl, ndU, memU, tk.2, fun r hr => (inB r hr).2, fun l hl => (open_ l hl).elim (fun z => nomatch z) id, pz.filter _⟩
  · rw [List.concat_eq_append] at eW9 wlR open_ m90 ⊢
    obtain ⟨xN, Cx, sh, rx⟩ := shut x (wlR x (List.mem_append_right _ (List.mem_singleton.mpr rfl)))
    refine ⟨_, rfl, true, .inl ⟨_, .of eW9, by simp⟩, iteT ?_⟩
    refine ⟨fun σ' H' => ∃ m', m' < 2 * (N.length - Bl.length) + (pre ++ [x]).length ∧ ∃ (wl Bl : List Nat) (kvt : List (Key × V)), (∃ y2 y7 : Option V, σ' = [some (.ref R), some (.ref Bf), y2, some (.ref Fo), some (.ref Re), some (.ref Wt), some (.ref Bd), y7, none]) ∧ Same H H' ∧ H' Re = some (.lst ((U ++ Bl.map (befN M)).map natV)) ∧ H' Wt = some (.lst (wl.map natV)) ∧ H' Bd = some (.dK kvt) ∧ TrdK kvt Bl ∧ (∀ r, r ∈ Bl → r ∈ N ∧ ∃ l, M r = some l) ∧ (∀ x, x ∈ wl → x ∈ U ++ Bl.map (befN M)) ∧ (∀ l, l ∈ U ++ Bl.map (befN M) → l ∈ N ∧ ∃ C, ShutB row M C ∧ ∀ x, x ∈ row l → C x) ∧ (∀ l, l ∈ U ++ Bl.map (befN M) → l ∈ wl ∨ ∀ r, r ∈ row l → r ∈ Bl) ∧ m' = 2 * (N.length - Bl.length) + wl.length ∧ m' ≤ 90, fun _ _ h => h, ?_⟩
    refine ⟨_, rfl, .inl ⟨rfl, _, .of eW9⟩, Wt, _, natV x, rfl, rfl, eW9, ?_, ?_⟩
    · rw [List.map_append, List.length_append]
      show (pre.map natV ++ [natV x])[(pre.map natV).length + 1 - 1]? = some (natV x)
      rw [Nat.add_sub_cancel, List.getElem?_append_right (Nat.le_refl _), Nat.sub_self]
      rfl
    rw [List.map_append, show ((pre.map natV) ++ [x].map natV).dropLast = pre.map natV from List.dropLast_concat]
    obtain ⟨ad, had, vad⟩ := kvN_get (prs := prs) (x := x) (by rw [kR]; exact pm.mem_iff.mpr xN)
    have ead := rR _ had
    have s10 : Same H (upd H9 Wt (.lst (pre.map natV))) := fun b u eb => by
      rw [upd_ne (ne_of_none eb fWt)]
      exact s9 _ _ eb
    have eR10 : (upd H9 Wt (.lst (pre.map natV))) Re = some (.lst ((U ++ Bl.map (befN M)).map natV)) := by rw [upd_ne nRW]; exact eR9
    have eD10 : (upd H9 Wt (.lst (pre.map natV))) Bd = some (.dK kvt) := by rw [upd_ne nWB.symm]; exact eD9
    have eW10 : (upd H9 Wt (.lst (pre.map natV))) Wt = some (.lst (pre.map natV)) := upd_same
    generalize upd H9 Wt (.lst (pre.map natV)) = H10 at s10 eR10 eD10 eW10 ⊢
    refine ⟨_, rfl, _, rfl, R, _, rfl, .inl ⟨kvN prs, Sum.inl (x : Int), .inl (s10 _ _ eR), rfl, vad.symm⟩, ?_⟩
    refine ⟨ad, rfl, ⟨_, .of (s10 _ _ ead)⟩, ?_⟩
    generalize em0 : 2 * (N.length - Bl.length) + (pre ++ [x]).length = m0
    rw [em0] at m90
    rw [List.length_append, List.length_singleton] at em0
    refine for_it (walk_list (K := K) (a := ad) (xs := (row x).map natV)) (fun j σ H' => ∃ (wl Bl : List Nat) (kvt : List (Key × V)), (∃ y7 : Option V, σ = [some (.ref R), some (.ref Bf), some (natV x), some (.ref Fo), some (.ref Re), some (.ref Wt), some (.ref Bd), y7, none]) ∧ Same H H' ∧ H' Re = some (.lst ((U ++ Bl.map (befN M)).map natV)) ∧ H' Wt = some (.lst (wl.map natV)) ∧ H' Bd = some (.dK kvt) ∧ TrdK kvt Bl ∧ (∀ r, r ∈ Bl → r ∈ N ∧ ∃ l, M r = some l) ∧ (∀ x, x ∈ wl → x ∈ U ++ Bl.map (befN M)) ∧ (∀ l, l ∈ U ++ Bl.map (befN M) → l ∈ N ∧ ∃ C, ShutB row M C ∧ ∀ x, x ∈ row l → C x) ∧ (∀ r, r ∈ (row x).take j → r ∈ Bl) ∧ (∀ l, l ∈ U ++ Bl.map (befN M) → l ∈ wl ∨ l = x ∨ ∀ r, r ∈ row l → r ∈ Bl) ∧ 2 * (N.length - Bl.length) + wl.length + 1 ≤ m0) ⟨pre, Bl, kvt, ⟨_, rfl⟩, s10, eR10, eW10, eD10, tk, inB, fun y hy => wlR y (List.mem_append_left _ hy), shut, fun _ h => (nomatch h), fun l hl => ?_, by omega⟩ (fun j σ H' _ h' => .of (h'.choose_spec.choose_spec.choose_spec.2.1 _ _ ead)) (fun j y0 σ H11 H12 hj h11 hy => ?_) (fun σ H11 h11 => ?_)
    · rcases open_ l hl with h | h
      · rcases List.mem_append.mp h with h | h
        · exact .inl h
        · exact .inr (.inl (List.mem_singleton.mp h))
      · exact .inr (.inr h)
    · clear eR9 eW9 eD9 eR10 eW10 eD10 tk inB wlR shut open_ s9 s10
      obtain ⟨wl, Bl, kvt, ⟨y7, rfl⟩, s11, eR11, eW11, eD11, tk, inB, wlR, shut, done, open_, le⟩ := h11
      obtain ⟨rfl, hx⟩ := hy
      rw [List.getElem?_map] at hx
      obtain ⟨c, hc, rfl⟩ := Option.map_eq_some_iff.mp hx
      have et : (row x).take (j + 1) = (row x).take j ++ [c] := by rw [List.take_add_one, hc]; rfl
      by_cases cb : c ∈ Bl
      · refine ⟨_, rfl, _, rfl, Bd, some (.bl true), rfl, .inl ⟨kvt, Sum.inl (c : Int), .inl eD11, rfl, by rw [tk.get, if_pos cb]⟩, false, rfl, iteF ⟨wl, Bl, kvt, ⟨_, rfl⟩, s11, eR11, eW11, eD11, tk, inB, wlR, shut, fun r hr => ?_, open_, le⟩⟩
        rw [et] at hr
        rcases List.mem_append.mp hr with hr | hr
        · exact done r hr
        · rw [List.mem_singleton.mp hr]
          exact cb
      obtain ⟨y, em, ry⟩ := sh c (rx c (List.mem_of_getElem? hc))
      have cyN := bF.inN c y em
      have lk := tk.len
      have tk2 := tk.put cb
      have lB := nodup_sub (N := N) tk2.2 fun r hr => by
        rcases List.mem_append.mp hr with hr | hr
        · exact (inB r hr).1
        · rw [List.mem_singleton.mp hr]
          exact cyN.1
      rw [List.length_append, List.length_singleton] at lB
      have ey : befN M c = y := by unfold befN; rw [em]; rfl
      have emap : U ++ (Bl ++ [c]).map (befN M) = U ++ Bl.map (befN M) ++ [y] := by
        rw [List.map_append, ← List.append_assoc, List.map_cons, List.map_nil, ey]
      refine ⟨_, rfl, _, rfl, Bd, none, rfl, .inl ⟨kvt, Sum.inl (c : Int), .inl eD11, rfl, by rw [tk.get, if_neg cb]⟩, true, rfl, iteT ?_⟩
      refine ⟨_, rfl, _, rfl, Bd, _, rfl, DPut.k (k := Sum.inl (c : Int)) eD11 (small1000 (by omega)), ?_⟩
      have eR12 : (upd H12 Bd (.dK (putK kvt (Sum.inl (c : Int)) (V.bl true)))) Re = some (.lst ((U ++ Bl.map (befN M)).map natV)) := by rw [upd_ne nRB]; exact eR11
      have eW12 : (upd H12 Bd (.dK (putK kvt (Sum.inl (c : Int)) (V.bl true)))) Wt = some (.lst (wl.map natV)) := by rw [upd_ne nWB]; exact eW11
      have eD12 : (upd H12 Bd (.dK (putK kvt (Sum.inl (c : Int)) (V.bl true)))) Bd = some (.dK (putK kvt (Sum.inl (c : Int)) (V.bl true))) := upd_same
      have s12 : Same H (upd H12 Bd (.dK (putK kvt (Sum.inl (c : Int)) (V.bl true)))) := fun b u eb => by
        rw [upd_ne (ne_of_none eb fBd)]
        exact s11 _ _ eb
      generalize upd H12 Bd (.dK (putK kvt (Sum.inl (c : Int)) (V.bl true))) = H13 at eR12 eW12 eD12 s12 ⊢
      refine ⟨_, rfl, .inl ⟨rfl, _, .of eR12⟩, _, rfl, _, rfl, Bf, _, rfl, .inl ⟨kvI ks, Sum.inl (c : Int), .inr ⟨ob, s12 _ _ eB⟩, rfl, by rw [bK0.get, em]; rfl⟩, ?_⟩
      refine ⟨Re, _, _, rfl, rfl, eR12, ?_, ?_⟩
      · rw [List.length_map, List.length_append, List.length_map]
        exact small1000 (by omega)
      have eR13 : (upd H13 Re (.lst ((U ++ Bl.map (befN M)).map natV ++ [natV y]))) Re = some (.lst ((U ++ (Bl ++ [c]).map (befN M)).map natV)) := by
        rw [upd_same, emap, List.map_append (l₂ := [y])]
        rfl
      have eW13 : (upd H13 Re (.lst ((U ++ Bl.map (befN M)).map natV ++ [natV y]))) Wt = some (.lst (wl.map natV)) := by rw [upd_ne nRW.symm]; exact eW12
      have eD13 : (upd H13 Re (.lst ((U ++ Bl.map (befN M)).map natV ++ [natV y]))) Bd = some (.dK (putK kvt (Sum.inl (c : Int)) (V.bl true))) := by rw [upd_ne nRB.symm]; exact eD12
      have s13 : Same H (upd H13 Re (.lst ((U ++ Bl.map (befN M)).map natV ++ [natV y]))) := fun b u eb => by
        rw [upd_ne (ne_of_none eb fRe)]
        exact s12 _ _ eb
      generalize upd H13 Re (.lst ((U ++ Bl.map (befN M)).map natV ++ [natV y])) = H14 at eR13 eW13 eD13 s13 ⊢
      have lw : wl.length ≤ 100 := by omega
      refine ⟨_, rfl, .inl ⟨rfl, _, .of eW13⟩, _, rfl, _, rfl, Bf, _, rfl, .inl ⟨kvI ks, Sum.inl (c : Int), .inr ⟨ob, s13 _ _ eB⟩, rfl, by rw [bK0.get, em]; rfl⟩, ?_⟩
      refine ⟨Wt, _, _, rfl, rfl, eW13, ?_, ?_⟩
      · rw [List.length_map]
        exact small1000 (by omega)
      refine ⟨wl ++ [y], Bl ++ [c], _, ⟨_, rfl⟩, fun b u eb => ?_, ?_, ?_, ?_, tk2, fun r hr => ?_, fun w hw => ?_, fun l hl => ?_, fun r hr => ?_, fun l hl => ?_, ?_⟩
      · rw [upd_ne (ne_of_none eb fWt)]
        exact s13 _ _ eb
      · rw [upd_ne nRW]
        exact eR13
      · rw [upd_same, List.map_append]
        rfl
      · rw [upd_ne nWB.symm]
        exact eD13
      · rcases List.mem_append.mp hr with hr | hr
        · exact inB r hr
        · rw [List.mem_singleton.mp hr]
          exact ⟨cyN.1, y, em⟩
      · rw [emap]
        rcases List.mem_append.mp hw with hw | hw
        · exact List.mem_append_left _ (wlR w hw)
        · exact List.mem_append_right _ hw
      · rw [emap] at hl
        rcases List.mem_append.mp hl with hl | hl
        · exact shut l hl
        · rw [List.mem_singleton.mp hl]
          exact ⟨cyN.2, Cx, sh, ry⟩
      · rw [et] at hr
        rcases List.mem_append.mp hr with hr | hr
        · exact List.mem_append_left _ (done r hr)
        · exact List.mem_append_right _ hr
      · rw [emap] at hl
        rcases List.mem_append.mp hl with hl | hl
        · rcases open_ l hl with h | h | h
          · exact .inl (List.mem_append_left _ h)
          · exact .inr (.inl h)
          · exact .inr (.inr fun r hr => List.mem_append_left _ (h r hr))
        · exact .inl (List.mem_append_right _ hl)
      · rw [List.length_append, List.length_append, List.length_singleton, List.length_singleton]
        omega
    · obtain ⟨wl, Bl, kvt, ⟨y7, rfl⟩, s11, eR11, eW11, eD11, tk, inB, wlR, shut, done, open_, le⟩ := h11
      rw [List.length_map, List.take_length] at done
      refine ⟨2 * (N.length - Bl.length) + wl.length, by omega, wl, Bl, kvt, ⟨_, _, rfl⟩, s11, eR11, eW11, eD11, tk, inB, wlR, shut, fun l hl => ?_, rfl, by omega⟩
      rcases open_ l hl with h | rfl | h
      · exact .inl h
      · exact .inr done
      · exact .inr h
end
end HSP
namespace HSP
open PySem PySem.Spec PyProof.Rows L2
/-! ## repair -/
theorem pth_endN {E : Nat → Nat → Prop} {S : Nat → Prop} (h : ∀ a b, E a b → S b) {a b k : Nat} (p : Pth E a b k) : S b := by
  induction p with
  | one e => exact h _ _ e
  | cons _ _ ih => exact ih
/-- what is told of the rows of the nodes in conflict -/
theorem conf_rows {t : Tr} {ws N : List Nat} {D : Nat → Nat → Nat} {v : Nat → Int} (hz : t.size ≤ 30) (lt : ∀ x, x ∈ ws → x < t.size) (hN : NodesW t ws N) (aD : AllL (EdW t ws) D) :
    RowF N.reverse (confOf D v t.size) ∧ ∀ a, a ∈ N → ∀ b, b ∈ confOf D v t.size a → b ∈ N ∧ a < b := by
  have into : ∀ a, ∀ b, b ∈ confOf D v t.size a → b ∈ N ∧ a < b := fun a b hb => by
    obtain ⟨_, d, _⟩ := confOf_mem.mp hb
    exact ⟨pth_endN (S := (· ∈ N)) (fun x y e => (hN.2 y).mpr (edge_in e).2) ((aD a).1 b d), aD.lt (edge_up lt) d⟩
  refine ⟨⟨?_, ?_, fun a _ b hb => List.mem_reverse.mpr (into a b hb).1⟩, fun a _ b hb => into a b hb⟩
  · rw [List.length_reverse]
    exact Nat.le_trans (nodes_few hN lt) hz
  · exact (List.reverse_perm N).nodup_iff.mpr (hN.1.imp fun {a b} z => Nat.ne_of_lt z)
def spRepair : Sp := fun vs H Q _ => ∃ (v : V) (t : Tr) (a W : Addr) (ns : List Int) (ws : List Nat), vs = [v, .ref a, .ref W] ∧ TrAt H v t ∧ t.size ≤ 30 ∧ H a = some (.lst (ns.map V.int)) ∧ ns.length = t.size ∧ H W = some (.lst (ws.map natV)) ∧ ws.Nodup ∧ (∀ x, x ∈ ws → x < t.size) ∧
  ∀ (H' : Hp) (T Kp C : Addr) (as : List Addr) (css : List (List Nat)) (ks N : List Nat) (D : Nat → Nat → Nat) (M : Bef), Same H H' → NodesW t ws N → AllL (EdW t ws) D → BefF (confOf D (valAt ns) t.size) M N → H' T = some (.tup [.ref Kp, .ref C]) → H' Kp = some (.lst (ks.map natV)) → KeepF (confOf D (valAt ns) t.size) M N ks →
    H' C = some (.lst (as.map V.ref)) → Paired (fun a c => H' a = some (.lst (c.map natV))) as css → ChOf M N css → as.Nodup → (∀ a, a ∈ as → H a = none ∧ a ≠ C ∧ a ≠ Kp) → Kp ≠ C → H Kp = none → H C = none → H T = none → Q (.ref T) H'
section
variable {P : Program} {w : World} {K : PySem.W.Frag} {mg : Str → Option Value} {base : Heap}
theorem sc_repair : FnScope n_repair ["tree", "values", "wished"] (defScope s_repair) := ⟨rfl, rfl, rfl, by decide +kernel, rfl, by decide +kernel, by decide +kernel⟩
theorem okB_repair (Cs : Df P w K mg base "check_wishes" 4 ["tree", "values", "wished"] spChkWs) (Co : Df P w K mg base "conflicts" 6 ["tree", "values", "wished"] spConf) (Fe : Df P w K mg base "fewest_chains" 32 ["rows"] spFewest) (Ke : Df P w K mg base "keepers" 1 ["rows", "before"] spKeepers) (Ch : Df P w K mg base "chains_of" 1 ["rows", "before"] spChains) (a : At K mg "repair" s_repair) : DfB P w K mg base "repair" 33 ["tree", "values", "wished"] ["wished", "values", "tree"] spRepair := by
  refine DfB.mk' a sc_repair (fun vs H Q E h => ?_) (fun _ _ _ _ _ _ us hl => match us, hl with | [_, _, _], _ => rfl) (fun _ _ _ _ _ _ us hl => match us, hl with | [_, _, _], _ => rfl) (fun f cdv A outer s H vs Q E hr h => ?_)
  · obtain ⟨_, _, _, _, _, _, rfl, _⟩ := h
    rfl
  obtain ⟨v, t, av, W, ns, ws, rfl, ht, hz, ea, la, eW, nd, lt, q⟩ := h
  have lw : ws.length ≤ t.size := few_below t.size nd lt
  refine ⟨_, (pss_cons (ps_expr (pe_df Cs (hr.mono (by decide)) (pa_cons (pv 0) (pa_cons (pv 1) (pa_cons (pv 2) pa_nil)))))
 (pss_cons (ps_set (i := 3) sc_repair.nd rfl (.inl rfl) (pe_df Co (hr.mono (by decide)) (pa_cons (pv 0) (pa_cons (pv 1) (pa_cons (pv 2) pa_nil)))))
 (pss_cons (ps_set (i := 4) sc_repair.nd rfl (.inl rfl) (pe_df Fe hr (pa_cons (pv 3) pa_nil)))
 (pss_one (ps_ret (pe_tup (pa_cons (pe_df Ke (hr.mono (by decide)) (pa_cons (pv 3) (pa_cons (pv 4) pa_nil))) (pa_cons (pe_df Ch (hr.mono (by decide)) (pa_cons (pv 3) (pa_cons (pv 4) pa_nil))) pa_nil)))))))), ?_⟩
  refine ⟨_, rfl, _, rfl, _, rfl, v, t, av, W, ns, ws, rfl, ht, hz, ea, la, eW, nd, lt, fun H1 s1 => ?_⟩
  refine ⟨_, rfl, _, rfl, _, rfl, v, t, av, W, ns, ws, rfl, ht.same s1, hz, s1 _ _ ea, la, s1 _ _ eW, lw, lt, fun H2 R N D s2 nR hN aD rows => ?_⟩
  obtain ⟨rf, into⟩ := conf_rows (v := valAt ns) hz lt hN aD
  refine ⟨_, rfl, R, N.reverse, N, _, rfl, rows, rf, List.reverse_perm N, hN.1, fun H3 Bf ob kvb M s3 nB eB bK inM dn => ?_⟩
  have bF : BefF (confOf D (valAt ns) t.size) M N := ⟨inM, dn.inj, dn.edge, fun a ha b hb => (into a ha b hb).2⟩
  refine ⟨_, rfl, _, rfl, R, Bf, ob, N.reverse, N, _, kvb, M, rfl, rows.same s3, rf, List.reverse_perm N, hN.1, eB, bK, bF, dn, fun H4 Kp ks s4 nK eK kF => ?_⟩
  refine ⟨_, rfl, _, rfl, R, Bf, ob, N.reverse, N, _, kvb, M, rfl, (rows.same s3).same s4, rf, List.reverse_perm N, hN.1, s4 _ _ eB, bK, bF, fun H5 C as css s5 nC eC pC ch nda fresh => ?_⟩
  have two : 2 ≤ sizeLine := by show 2 ≤ 16777216; decide
  refine ⟨two, fun T hT => ?_⟩
  have s03 := s1.trans (s2.trans s3)
  have s04 := s03.trans s4
  have sT := Same.new (o := .tup [V.ref Kp, V.ref C]) hT
  refine q _ T Kp C as css ks N D M (s04.trans (s5.trans sT)) hN aD bF upd_same (sT _ _ (s5 _ _ eK)) kF (sT _ _ eC) (Paired.mapP pC fun _ _ h => sT _ _ h) ch nda (fun a ha => ⟨s04.free (fresh a ha).1, (fresh a ha).2, (ne_of_none eK (fresh a ha).1).symm⟩) (ne_of_none eK nC) (s03.free nK) (s04.free nC) ((s04.trans s5).free hT)
end
end HSP
namespace HSP
open PySem PySem.Spec PyProof.Rows L2
/-! ## as many are kept as there are chains, and no more can be -/
/-- those in conflict with one in conflict are in conflict -/
def TransR (row : Nat → List Nat) : Prop := ∀ a b c, b ∈ row a → c ∈ row b → c ∈ row a
theorem conf_trans {E : Nat → Nat → Prop} {D : Nat → Nat → Nat} {v : Nat → Int} {n : Nat} (aD : AllL E D) : TransR (confOf D v n) := fun a b c h1 h2 => by
  obtain ⟨_, d1, l1⟩ := confOf_mem.mp h1
  obtain ⟨n2, d2, l2⟩ := confOf_mem.mp h2
  have h := aD.add d1 d2
  exact confOf_mem.mpr ⟨n2, by omega, by omega⟩
theorem Lk.tail {M : Bef} {a : Nat} {c : List Nat} (h : Lk M (a :: c)) : Lk M c := fun i x y hx hy => h (i + 1) x y hx hy
/-- each is in conflict with all behind it in its chain -/
theorem Lk.pair {row : Nat → List Nat} {M : Bef} (e : EdgeB row M) (tr : TransR row) : ∀ {c : List Nat}, Lk M c → c.Pairwise fun a b => b ∈ row a
  | [], _ => .nil
  | [a], _ => List.pairwise_singleton _ _
  | a :: b :: c, h => by
    have ih := Lk.pair e tr h.tail
    have ab : b ∈ row a := e b a (h 0 a b rfl rfl)
    refine List.pairwise_cons.mpr ⟨fun x hx => ?_, ih⟩
    rcases List.mem_cons.mp hx with rfl | hx
    · exact ab
    · exact tr a b x ab ((List.pairwise_cons.mp ih).1 x hx)
theorem few_one {F : List Nat} {c : List Nat} {row : Nat → List Nat} (nd : F.Nodup) (free : ∀ a, a ∈ F → ∀ b, b ∈ F → b ∉ row a) (pc : c.Pairwise fun a b => b ∈ row a) : (F.filter fun x => decide (x ∈ c)).length ≤ 1 := by
  have key : ∀ x y, x ∈ F → y ∈ F → x ∈ c → y ∈ c → x = y := fun x y hx hy xc yc => by
    obtain ⟨i, hi, ei⟩ := List.getElem_of_mem xc
    obtain ⟨j, hj, ej⟩ := List.getElem_of_mem yc
    rcases Nat.lt_trichotomy i j with h | h | h
    · have := (List.pairwise_iff_getElem.mp pc) i j hi hj h
      rw [ei, ej] at this
      exact absurd this (free x hx y hy)
    · subst h
      rw [← ei, ← ej]
    · have := (List.pairwise_iff_getElem.mp pc) j i hj hi h
      rw [ei, ej] at this
      exact absurd this (free y hy x hx)
  match e : F.filter fun x => decide (x ∈ c), (nd.filter fun x => decide (x ∈ c)) with
  | [], _ => exact Nat.zero_le _
  | [_], _ => exact Nat.le_refl _
  | x :: y :: r, nd2 =>
    have hx : x ∈ F.filter fun x => decide (x ∈ c) := by rw [e]; exact List.mem_cons_self
    have hy : y ∈ F.filter fun x => decide (x ∈ c) := by rw [e]; exact List.mem_cons_of_mem _ List.mem_cons_self
    obtain ⟨h1, h2⟩ := List.mem_filter.mp hx
    obtain ⟨h3, h4⟩ := List.mem_filter.mp hy
    have := key x y h1 h3 (of_decide_eq_true h2) (of_decide_eq_true h4)
    exact absurd (by rw [this]; exact List.mem_cons_self) (List.nodup_cons.mp nd2).1
theorem len_split (F : List Nat) (p : Nat → Bool) : F.length = (F.filter p).length + (F.filter fun x => !p x).length := by
  induction F with
  | nil => rfl
  | cons x r ih =>
    cases h : p x with
    | true =>
      rw [List.filter_cons_of_pos h, List.filter_cons_of_neg (by rw [h]; exact Bool.false_ne_true), List.length_cons, List.length_cons, ih]
      omega
    | false =>
      rw [List.filter_cons_of_neg (by rw [h]; exact Bool.false_ne_true), List.filter_cons_of_pos (by rw [h]; rfl), List.length_cons, List.length_cons, ih]
      omega
theorem free_le {row : Nat → List Nat} : ∀ {css : List (List Nat)} {F : List Nat}, F.Nodup → (∀ a, a ∈ F → ∀ b, b ∈ F → b ∉ row a) → (∀ c, c ∈ css → c.Pairwise fun a b => b ∈ row a) → (∀ x, x ∈ F → x ∈ css.flatten) → F.length ≤ css.length
  | [], F, _, _, _, h => by
    cases F with
    | nil => exact Nat.le_refl _
    | cons x r => exact nomatch h x List.mem_cons_self
  | c :: css, F, nd, free, pc, h => by
    have h1 := few_one nd free (pc c List.mem_cons_self)
    have h2 := free_le (css := css) (F := F.filter fun x => !decide (x ∈ c)) (nd.filter _) (fun a ha b hb => free a (List.mem_filter.mp ha).1 b (List.mem_filter.mp hb).1) (fun d hd => pc d (List.mem_cons_of_mem _ hd)) fun x hx => by
      obtain ⟨g1, g2⟩ := List.mem_filter.mp hx
      have g3 := h x g1
      rw [List.flatten_cons] at g3
      rcases List.mem_append.mp g3 with g3 | g3
      · rw [decide_eq_true g3] at g2
        cases g2
      · exact g3
    have h3 := len_split F fun x => decide (x ∈ c)
    rw [List.length_cons]
    omega
section
variable {row : Nat → List Nat} {M : Bef} {N : List Nat} {css : List (List Nat)} {ks : List Nat}
theorem ChOf.start (ch : ChOf M N css) {c : List Nat} (hc : c ∈ css) {s : Nat} (hs : c[0]? = some s) : M s = none := by
  have h1 : c.head? ∈ css.map List.head? := List.mem_map.mpr ⟨c, hc, rfl⟩
  rw [ch.1] at h1
  obtain ⟨x, hx, e⟩ := List.mem_map.mp h1
  rw [List.head?_eq_getElem?, hs] at e
  have := (List.mem_filter.mp hx).2
  rw [Option.some.inj e] at this
  exact of_decide_eq_true this
/-- two chains with one node in common begin alike -/
theorem ChOf.common (bF : BefF row M N) (ch : ChOf M N css) : ∀ (x : Nat) {c d : List Nat}, c ∈ css → d ∈ css → x ∈ c → x ∈ d → c.head? = d.head? := fun x => by
  induction x using Nat.strongRecOn with
  | _ x ih =>
    intro c d hc hd xc xd
    obtain ⟨i, hi⟩ := List.mem_iff_getElem?.mp xc
    obtain ⟨j, hj⟩ := List.mem_iff_getElem?.mp xd
    have before : ∀ {e : List Nat} {k : Nat}, e ∈ css → e[k + 1]? = some x → ∃ y, e[k]? = some y ∧ M x = some y := fun {e k} he hk => by
      have lt := (List.getElem?_eq_some_iff.mp hk).1
      have hy : e[k]? = some e[k] := List.getElem?_eq_getElem (by omega)
      exact ⟨_, hy, (ch.2 e he).1 k _ _ hy hk⟩
    cases i with
    | zero =>
      have m0 := ch.start hc hi
      cases j with
      | zero => rw [List.head?_eq_getElem?, List.head?_eq_getElem?, hi, hj]
      | succ j =>
        obtain ⟨y, _, e⟩ := before hd hj
        rw [m0] at e
        cases e
    | succ i =>
      obtain ⟨y, hy, e⟩ := before hc hi
      cases j with
      | zero =>
        have m0 := ch.start hd hj
        rw [m0] at e
        cases e
      | succ j =>
        obtain ⟨z, hz, e2⟩ := before hd hj
        rw [e] at e2
        obtain rfl := Option.some.inj e2
        exact ih y (bF.up y (bF.inN x y e).2 x (bF.edge x y e)) hc hd (List.mem_of_getElem? hy) (List.mem_of_getElem? hz)
theorem ChOf.covers (bF : BefF row M N) (ch : ChOf M N css) : ∀ x, x ∈ N → x ∈ css.flatten := fun x => by
  induction x using Nat.strongRecOn with
  | _ x ih =>
    intro hx
    cases e : M x with
    | none =>
      have h1 : some x ∈ css.map List.head? := by
        rw [ch.1]
        exact List.mem_map.mpr ⟨x, List.mem_filter.mpr ⟨hx, decide_eq_true e⟩, rfl⟩
      obtain ⟨c, hc, eh⟩ := List.mem_map.mp h1
      rw [List.head?_eq_getElem?] at eh
      exact List.mem_flatten.mpr ⟨c, hc, List.mem_of_getElem? eh⟩
    | some y =>
      have yN := (bF.inN x y e).2
      obtain ⟨c, hc, yc⟩ := List.mem_flatten.mp (ih y (bF.up y yN x (bF.edge x y e)) yN)
      obtain ⟨i, hi⟩ := List.mem_iff_getElem?.mp yc
      have lt := (List.getElem?_eq_some_iff.mp hi).1
      by_cases l : i + 1 < c.length
      · have hz : c[i + 1]? = some c[i + 1] := List.getElem?_eq_getElem l
        have := (ch.2 c hc).1 i y _ hi hz
        rw [bF.inj x _ y e this]
        exact List.mem_flatten.mpr ⟨c, hc, List.mem_of_getElem? hz⟩
      · refine absurd e ((ch.2 c hc).2.1 y ?_ x)
        rw [List.getLast?_eq_getElem?, show c.length - 1 = i by omega]
        exact hi
theorem ChOf.incr (bF : BefF row M N) (ch : ChOf M N css) {c : List Nat} (hc : c ∈ css) : c.Pairwise (· < ·) := by
  have key : ∀ {c : List Nat}, Lk M c → c.Pairwise (· < ·) := fun {c} => by
    induction c with
    | nil => exact fun _ => .nil
    | cons a r ih =>
      intro h
      have i2 := ih h.tail
      cases r with
      | nil => exact List.pairwise_singleton _ _
      | cons b r =>
        have e := h 0 a b rfl rfl
        have ab := bF.up a (bF.inN b a e).2 b (bF.edge b a e)
        refine List.pairwise_cons.mpr ⟨fun x hx => ?_, i2⟩
        rcases List.mem_cons.mp hx with rfl | hx
        · exact ab
        · exact Nat.lt_trans ab ((List.pairwise_cons.mp i2).1 x hx)
  exact key (ch.2 c hc).1
theorem ChOf.perm (bF : BefF row M N) (up : N.Pairwise (· < ·)) (ch : ChOf M N css) : css.flatten.Perm N := by
  have ndN : N.Nodup := up.imp fun {a b} z => Nat.ne_of_lt z
  have ndH : (css.map List.head?).Nodup := by
    rw [ch.1]
    exact List.pairwise_map.mpr ((ndN.filter _).imp fun {a b} h z => h (Option.some.inj z))
  have nd : css.flatten.Nodup := by
    refine List.pairwise_flatten.mpr ⟨fun c hc => (ch.incr bF hc).imp fun {a b} z => Nat.ne_of_lt z, ?_⟩
    refine List.Pairwise.imp_of_mem (fun {c d} hc hd h => ?_) (List.pairwise_map.mp ndH)
    exact fun x xc y yd z => h (ch.common bF x hc hd xc (by rw [z]; exact yd))
  refine (List.perm_ext_iff_of_nodup nd ndN).mpr fun x => ⟨fun h => ?_, ch.covers bF x⟩
  obtain ⟨c, hc, xc⟩ := List.mem_flatten.mp h
  exact (ch.2 c hc).2.2.1 x xc
theorem ChOf.free (bF : BefF row M N) (tr : TransR row) (ch : ChOf M N css) {F : List Nat} (nd : F.Nodup) (inN : ∀ x, x ∈ F → x ∈ N) (fr : ∀ a, a ∈ F → ∀ b, b ∈ F → b ∉ row a) : F.length ≤ css.length :=
  free_le nd fr (fun c hc => Lk.pair bF.edge tr (ch.2 c hc).1) fun x hx => ch.covers bF x (inN x hx)
/-- what is told of the kept ones -/
theorem KeepF.all (bF : BefF row M N) (up : N.Pairwise (· < ·)) (kF : KeepF row M N ks) (ch : ChOf M N css) : ks.Pairwise (· < ·) ∧ (∀ x, x ∈ ks → x ∈ N) ∧ (∀ a, a ∈ ks → ∀ b, b ∈ ks → b ∉ row a) ∧ css.length ≤ ks.length := by
  obtain ⟨srt, U, B, ndU, memU, ndB, hasB, shut, pk⟩ := kF
  have ndN : N.Nodup := up.imp fun {a b} z => Nat.ne_of_lt z
  have bef : ∀ {r l}, M r = some l → befN M r = l := fun {r l} e => by unfold befN; rw [e]; rfl
  have ndM : (B.map (befN M)).Nodup := by
    refine List.pairwise_map.mpr (List.Pairwise.imp_of_mem (fun {r s} hr hs h z => ?_) ndB)
    obtain ⟨l, e1⟩ := hasB r hr
    obtain ⟨m, e2⟩ := hasB s hs
    rw [bef e1, bef e2] at z
    rw [z] at e1
    exact h (bF.inj r s m e1 e2)
  have ndR : (U ++ B.map (befN M)).Nodup := by
    refine List.nodup_append.mpr ⟨ndU, ndM, fun x hx y hy z => ?_⟩
    obtain ⟨r, hr, rfl⟩ := List.mem_map.mp hy
    obtain ⟨l, e⟩ := hasB r hr
    rw [bef e] at z
    exact ((memU x).mp hx).2 r (by rw [z]; exact e)
  have ndK : ks.Nodup := pk.nodup_iff.mpr (ndR.filter _)
  refine ⟨?_, fun x hx => ?_, fun a ha b hb h => ?_, ?_⟩
  · exact (srt.and ndK).imp fun {a b} ⟨h1, h2⟩ => by omega
  · rcases List.mem_append.mp (List.mem_filter.mp (pk.mem_iff.mp hx)).1 with h | h
    · exact ((memU x).mp h).1
    · obtain ⟨r, hr, rfl⟩ := List.mem_map.mp h
      obtain ⟨l, e⟩ := hasB r hr
      rw [bef e]
      exact (bF.inN r l e).2
  · have h1 := (List.mem_filter.mp (pk.mem_iff.mp ha)).1
    have h2 := of_decide_eq_true (List.mem_filter.mp (pk.mem_iff.mp hb)).2
    exact h2 (shut a h1 b h)
  · have l1 := len_split (U ++ B.map (befN M)) fun x => decide (x ∈ B)
    have l2 := nodup_sub (N := B) (ndR.filter fun x => decide (x ∈ B)) fun x hx => of_decide_eq_true (List.mem_filter.mp hx).2
    have l3 := pk.length_eq
    have e3 : ((U ++ B.map (befN M)).filter fun x => decide (x ∉ B)) = (U ++ B.map (befN M)).filter fun x => !decide (x ∈ B) := List.filter_congr fun x _ => by
      by_cases c : x ∈ B
      · rw [decide_eq_true c, decide_eq_false fun z => z c]
        rfl
      · rw [decide_eq_false c, decide_eq_true c]
        rfl
    rw [e3] at l3
    rw [List.length_append, List.length_map] at l1
    -- as many begin a chain as end one
    have lc := congrArg List.length ch.1
    rw [List.length_map, List.length_map] at lc
    have s1 := len_split N fun x => decide (M x = none)
    have memF : ∀ x, x ∈ N.filter (fun x => decide (¬ ∃ r, r ∈ N ∧ M r = some x)) ↔ x ∈ U := fun x => by
      rw [List.mem_filter, decide_eq_true_iff, memU]
      exact ⟨fun ⟨h1, h2⟩ => ⟨h1, fun r e => h2 ⟨r, (bF.inN r x e).1, e⟩⟩, fun ⟨h1, h2⟩ => ⟨h1, fun ⟨r, _, e⟩ => h2 r e⟩⟩
    have lU : (N.filter (fun x => decide (¬ ∃ r, r ∈ N ∧ M r = some x))).length = U.length := ((List.perm_ext_iff_of_nodup (ndN.filter _) ndU).mpr memF).length_eq
    have s2 := len_split N fun x => decide (¬ ∃ r, r ∈ N ∧ M r = some x)
    have pm : ((N.filter fun x => !decide (M x = none)).map (befN M)).Perm (N.filter fun x => !decide (¬ ∃ r, r ∈ N ∧ M r = some x)) := by
      have some_of : ∀ {x}, x ∈ N.filter (fun x => !decide (M x = none)) → ∃ y, M x = some y := fun {x} hx => by
        have h := (List.mem_filter.mp hx).2
        cases e : M x with
        | none => rw [decide_eq_true e] at h; cases h
        | some y => exact ⟨y, rfl⟩
      refine (List.perm_ext_iff_of_nodup ?_ (ndN.filter _)).mpr fun y => ⟨fun h => ?_, fun h => ?_⟩
      · refine List.pairwise_map.mpr (List.Pairwise.imp_of_mem (fun {r s} hr hs h z => ?_) (ndN.filter _))
        obtain ⟨l, e1⟩ := some_of hr
        obtain ⟨m, e2⟩ := some_of hs
        rw [bef e1, bef e2] at z
        rw [z] at e1
        exact h (bF.inj r s m e1 e2)
      · obtain ⟨x, hx, rfl⟩ := List.mem_map.mp h
        obtain ⟨l, e⟩ := some_of hx
        rw [bef e]
        refine List.mem_filter.mpr ⟨(bF.inN x l e).2, ?_⟩
        rw [decide_eq_false fun z => z ⟨x, (bF.inN x l e).1, e⟩]
        rfl
      · obtain ⟨h1, h2⟩ := List.mem_filter.mp h
        by_cases c : ∃ r, r ∈ N ∧ M r = some y
        · obtain ⟨r, hr, e⟩ := c
          refine List.mem_map.mpr ⟨r, List.mem_filter.mpr ⟨hr, ?_⟩, bef e⟩
          rw [e]
          rfl
        · rw [decide_eq_true c] at h2
          cases h2
    have l4 := pm.length_eq
    rw [List.length_map] at l4
    omega
end
end HSP
namespace HSP
open PySem PySem.Spec PyProof.Rows L2
/-! ### tuples of None, numbers and short texts as data -/
def vD : V → PyData
  | .bl b => .bool b
  | .int i => .int i
  | .str x => .str x
  | _ => .none
/-- what may stand in such a tuple -/
def Plain : V → Prop
  | .non => True
  | .int i => i.natAbs < 10 ^ 30
  | .str x => PyData.strOk x = true ∧ (reprText x).length ≤ 31
  | _ => False
theorem Plain.dp {K : PySem.W.Frag} {H : Hp} {v : V} (h : Plain v) : Dp K H v (vD v) := by
  cases v with
  | non => exact .non
  | int i => exact .int i
  | str x => exact .str x
  | _ => exact h.elim
theorem Plain.len {v : V} (h : Plain v) : (vD v).shown.length ≤ 31 := by
  cases v with
  | non => simp only [vD, PyData.shown]; decide +kernel
  | int i => exact int_len h
  | str x => simp only [vD, PyData.shown]; exact h.2
  | _ => exact h.elim
theorem Plain.can {v : V} (h : Plain v) : PyData.canLay0 (vD v) = true := by
  cases v with
  | non => simp only [vD, PyData.canLay0]
  | int i => simp only [vD, PyData.canLay0]
  | str x => simp only [vD, PyData.canLay0]; exact h.1
  | _ => exact h.elim
theorem Plain.show_ {v : V} (h : Plain v) : (vD v).showable = true := by
  cases v with
  | non => simp only [vD, PyData.showable]
  | int i => simp only [vD, PyData.showable]; exact decide_eq_true (int_log h)
  | str x => simp only [vD, PyData.showable]
  | _ => exact h.elim
theorem vD_dict (v : V) : (vD v).hasDict = false := by
  cases v <;> simp only [vD, PyData.hasDict]
theorem vD_deep (v : V) : (vD v).depth = 0 := by
  cases v <;> simp only [vD, PyData.depth]
def Plains (xs : List V) : Prop := ∀ v, v ∈ xs → Plain v
theorem plains_dp {K : PySem.W.Frag} {H : Hp} : ∀ xs : List V, Plains xs → DpAll K H xs (xs.map vD)
  | [], _ => .nil
  | x :: r, h => .cons (h x List.mem_cons_self).dp (plains_dp r fun v hv => h v (List.mem_cons_of_mem _ hv))
theorem plains_can : ∀ xs : List V, Plains xs → PyData.canLayAll0 (xs.map vD) = true
  | [], _ => by simp [PyData.canLayAll0]
  | x :: r, h => by
    have ih := plains_can r fun v hv => h v (List.mem_cons_of_mem _ hv)
    have h1 := (h x List.mem_cons_self).can
    simp only [List.map_cons, PyData.canLayAll0, h1, ih, Bool.and_self]
theorem plains_show : ∀ xs : List V, Plains xs → PyData.showableAll (xs.map vD) = true
  | [], _ => by simp [PyData.showableAll]
  | x :: r, h => by
    have ih := plains_show r fun v hv => h v (List.mem_cons_of_mem _ hv)
    have h1 := (h x List.mem_cons_self).show_
    simp only [List.map_cons, PyData.showableAll, h1, ih, Bool.and_self]
theorem plains_dict : ∀ xs : List V, PyData.hasDictAll (xs.map vD) = false
  | [] => by simp [PyData.hasDictAll]
  | x :: r => by simp only [List.map_cons, PyData.hasDictAll, vD_dict, plains_dict r, Bool.or_self]
theorem plains_deep : ∀ xs : List V, PyData.depthAll (xs.map vD) ≤ 1
  | [] => by simp [PyData.depthAll]
  | x :: r => by
    have ih := plains_deep r
    have h1 := vD_deep x
    simp only [List.map_cons, PyData.depthAll]
    omega
/-- a tuple of such -/
def rowD (xs : List V) : PyData := .tuple (xs.map vD)
theorem shown_tuple_le (c : Nat) (ds : List PyData) (h : ∀ d, d ∈ ds → d.shown.length ≤ c) : (PyData.tuple ds).shown.length ≤ ds.length * (c + 2) + 3 := by
  have e : (PyData.tuple ds).shown = tupleText (PyData.shownAll ds) := by simp only [PyData.shown]
  rw [e]
  have h1 := tupleText_le (PyData.shownAll ds)
  have h2 := piled_le c ds h
  omega
theorem row_len {xs : List V} (h : Plains xs) (n : xs.length ≤ 5) : (rowD xs).shown.length ≤ 168 := by
  have := shown_tuple_le 31 (xs.map vD) fun d hd => by
    obtain ⟨v, hv, rfl⟩ := List.mem_map.mp hd
    exact (h v hv).len
  rw [List.length_map] at this
  show (PyData.tuple (xs.map vD)).shown.length ≤ 168
  omega
theorem row_can {xs : List V} (h : Plains xs) : PyData.canLay0 (rowD xs) = true := by
  unfold rowD
  simp only [PyData.canLay0]
  exact plains_can xs h
theorem row_show {xs : List V} (h : Plains xs) : (rowD xs).showable = true := by
  unfold rowD
  simp only [PyData.showable]
  exact plains_show xs h
theorem row_dict (xs : List V) : (rowD xs).hasDict = false := by
  unfold rowD
  simp only [PyData.hasDict]
  exact plains_dict xs
theorem row_deep (xs : List V) : (rowD xs).depth ≤ 2 := by
  have := plains_deep xs
  unfold rowD
  simp only [PyData.depth]
  omega
theorem row_dp {K : PySem.W.Frag} {H : Hp} {a : Addr} {xs : List V} (e : H a = some (.tup xs)) (h : Plains xs) : Dp K H (.ref a) (rowD xs) := .tup (.of e) (plains_dp xs h)
theorem row_fine {xs : List V} (h : Plains xs) (n : xs.length ≤ 5) : Fine (rowD xs) := by
  have h1 := row_len h n
  have h2 := row_deep xs
  have : sizeLine = 16777216 := rfl
  exact ⟨row_show h, row_dict xs, by omega, by omega⟩
theorem row_shaped {xs : List V} (h : Plains xs) : SeqAt.shaped (rowD xs) = true := by
  unfold SeqAt.shaped
  rw [Bool.and_eq_true]
  have := row_deep xs
  exact ⟨row_can h, decide_eq_true (by omega)⟩
theorem row_same {xs : List V} (h : Plains xs) : PyData.eqv (rowD xs) (rowD xs) = true := SeqAt.eqv_refl _ (row_can h)
/-- a list of such tuples -/
def rowsD (l : List (List V)) : PyData := .list (l.map rowD)
theorem rows_can : ∀ l : List (List V), (∀ xs, xs ∈ l → Plains xs) → PyData.canLayAll0 (l.map rowD) = true
  | [], _ => by simp [PyData.canLayAll0]
  | x :: r, h => by
    have ih := rows_can r fun v hv => h v (List.mem_cons_of_mem _ hv)
    have h1 := row_can (h x List.mem_cons_self)
    simp only [List.map_cons, PyData.canLayAll0, h1, ih, Bool.and_self]
theorem rows_show : ∀ l : List (List V), (∀ xs, xs ∈ l → Plains xs) → PyData.showableAll (l.map rowD) = true
  | [], _ => by simp [PyData.showableAll]
  | x :: r, h => by
    have ih := rows_show r fun v hv => h v (List.mem_cons_of_mem _ hv)
    have h1 := row_show (h x List.mem_cons_self)
    simp only [List.map_cons, PyData.showableAll, h1, ih, Bool.and_self]
theorem rows_dict : ∀ l : List (List V), PyData.hasDictAll (l.map rowD) = false
  | [] => by simp [PyData.hasDictAll]
  | x :: r => by simp only [List.map_cons, PyData.hasDictAll, row_dict, rows_dict r, Bool.or_self]
theorem rows_deep : ∀ l : List (List V), PyData.depthAll (l.map rowD) ≤ 3
  | [] => by simp [PyData.depthAll]
  | x :: r => by
    have ih := rows_deep r
    have h1 := row_deep x
    simp only [List.map_cons, PyData.depthAll]
    omega
theorem rows_dp {K : PySem.W.Frag} {H : Hp} {rs : List Addr} {l : List (List V)} (p : Paired (fun r xs => H r = some (.tup xs)) rs l) (h : ∀ xs, xs ∈ l → Plains xs) : DpAll K H (rs.map V.ref) (l.map rowD) := by
  induction p with
  | nil => exact .nil
  | cons e _ ih => exact .cons (row_dp e (h _ List.mem_cons_self)) (ih fun v hv => h v (List.mem_cons_of_mem _ hv))
theorem rowsD_dp {K : PySem.W.Frag} {H : Hp} {a : Addr} {rs : List Addr} {l : List (List V)} (e : H a = some (.lst (rs.map V.ref))) (p : Paired (fun r xs => H r = some (.tup xs)) rs l) (h : ∀ xs, xs ∈ l → Plains xs) : Dp K H (.ref a) (rowsD l) := .lst (.of e) (rows_dp p h)
theorem rows_fine {l : List (List V)} (h : ∀ xs, xs ∈ l → Plains xs) (n : ∀ xs, xs ∈ l → xs.length ≤ 5) (m : l.length ≤ 1000) : Fine (rowsD l) := by
  have h1 := shown_list_le 168 (l.map rowD) fun d hd => by
    obtain ⟨x, hx, rfl⟩ := List.mem_map.mp hd
    exact row_len (h x hx) (n x hx)
  rw [List.length_map] at h1
  have h2 := rows_deep l
  have : sizeLine = 16777216 := rfl
  refine ⟨?_, ?_, ?_, ?_⟩
  · unfold rowsD
    simp only [PyData.showable]
    exact rows_show l h
  · unfold rowsD
    simp only [PyData.hasDict]
    exact rows_dict l
  · unfold rowsD
    simp only [PyData.depth]
    omega
  · show (PyData.list (l.map rowD)).shown.length ≤ sizeLine
    omega
theorem rowsD_can {l : List (List V)} (h : ∀ xs, xs ∈ l → Plains xs) : PyData.canLay0 (rowsD l) = true := by
  unfold rowsD
  simp only [PyData.canLay0]
  exact rows_can l h
theorem rowsD_shaped {l : List (List V)} (h : ∀ xs, xs ∈ l → Plains xs) : SeqAt.shaped (rowsD l) = true := by
  unfold SeqAt.shaped
  rw [Bool.and_eq_true]
  refine ⟨rowsD_can h, decide_eq_true ?_⟩
  have := rows_deep l
  unfold rowsD
  simp only [PyData.depth]
  omega
theorem rowsD_same {l : List (List V)} (h : ∀ xs, xs ∈ l → Plains xs) : PyData.eqv (rowsD l) (rowsD l) = true := SeqAt.eqv_refl _ (rowsD_can h)
theorem plain_nat {i : Nat} (h : i < 1000000) : Plain (natV i) := by
  show ((i : Int)).natAbs < 10 ^ 30
  have e : (10 : Nat) ^ 30 = 1000000000000000000000000000000 := by decide +kernel
  rw [e]
  omega
theorem nats_ints (l : List Nat) : l.map natV = (l.map Int.ofNat).map V.int := by
  rw [List.map_map]
  rfl
theorem nats_tame {l : List Nat} (h : ∀ i, i ∈ l → i < 1000000) : Tame (l.map Int.ofNat) := fun z hz => by
  obtain ⟨i, hi, rfl⟩ := List.mem_map.mp hz
  have := h i hi
  have e : (10 : Nat) ^ 30 = 1000000000000000000000000000000 := by decide +kernel
  rw [e]
  show i < _
  omega
end HSP
namespace HSP
open PySem PySem.Spec PyProof.Rows L2
/-! ## x in (d1, d2, ..), data of any depth -/
section
variable {X : Cx}
def rInTD (K : PySem.W.Frag) : R2 := fun x y H Q => ∃ d ds, Dp K H x d ∧ Dp K H y (.tuple ds) ∧ SeqAt.shaped d = true ∧ SeqAt.shaped (.tuple ds) = true ∧ Q (.bl (ds.any fun z => PyData.eqv z d)) H
theorem op_inTD (hu : X.A.units + 65 < cLine) : OpR X (compareOp .In) (rInTD X.K) := by
  intro pins s σ H x y v u Q I rx ry h
  obtain ⟨d, ds, hd, he, sd, se, q⟩ := h
  obtain ⟨as, r1⟩ := Dp.reads I d x v hd rx
  obtain ⟨bs, r2⟩ := Dp.reads I (.tuple ds) y u he ry
  exact SeqAt.in_tuple_reads r2 r1 (SeqAt.canLay_of_shaped se) (SeqAt.canLay_of_shaped sd) (room_in_shaped sd hu) ⟨.bl _, H, I, rfl, q⟩
end
/-- (label, side) is a pair that kills -/
def kills (l : Str) (b : Bool) : Bool := if b = true then decide (l = ("high" : Str)) else decide (l = ("low" : Str))
def sideS (b : Bool) : Str := if b = true then "right" else "left"
def pairD (l : Str) (b : Bool) : PyData := .tuple [.str l, .str (sideS b)]
def killsD : PyData := .tuple [.tuple [.str "low", .str "left"], .tuple [.str "high", .str "right"]]
theorem kill_any (l : Str) (b : Bool) : ([PyData.tuple [.str "low", .str "left"], .tuple [.str "high", .str "right"]].any fun z => PyData.eqv z (pairD l b)) = kills l b := by
  unfold pairD
  simp only [List.any_cons, List.any_nil, PyData.eqv, PyData.eqvAll, Bool.or_false, Bool.and_true]
  cases b
  · have e1 : (("left" : Str) == sideS false) = true := by decide +kernel
    have e2 : (("right" : Str) == sideS false) = false := by decide +kernel
    rw [e1, e2]
    unfold kills
    rw [if_neg Bool.false_ne_true]
    by_cases c : l = ("low" : Str)
    · rw [c]; decide +kernel
    · rw [decide_eq_false c]
      have : (("low" : Str) == l) = false := beq_eq_false_iff_ne.mpr (Ne.symm c)
      rw [this]
      simp
  · have e1 : (("left" : Str) == sideS true) = false := by decide +kernel
    have e2 : (("right" : Str) == sideS true) = true := by decide +kernel
    rw [e1, e2]
    unfold kills
    rw [if_pos rfl]
    by_cases c : l = ("high" : Str)
    · rw [c]; decide +kernel
    · rw [decide_eq_false c]
      have : (("high" : Str) == l) = false := beq_eq_false_iff_ne.mpr (Ne.symm c)
      rw [this]
      simp
theorem pair_shaped {l : Str} (b : Bool) (h : PyData.strOk l = true) : SeqAt.shaped (pairD l b) = true := by
  unfold SeqAt.shaped pairD
  rw [Bool.and_eq_true]
  have hb : PyData.strOk (sideS b) = true := by cases b <;> decide +kernel
  refine ⟨by simp only [PyData.canLay0, PyData.canLayAll0, h, hb, Bool.and_self], decide_eq_true ?_⟩
  simp only [PyData.depth, PyData.depthAll]
  omega
theorem kills_shaped : SeqAt.shaped killsD = true := by decide +kernel
end HSP
namespace HSP
open PySem PySem.Spec PyProof.Rows L2
section
variable {P : Program} {w : World} {K : PySem.W.Frag} {mg : Str → Option Value} {base : Heap}
/-! ### _law_way -/
theorem sc_law_way : FnScope n_law_way p_law_way (defScope s_law_way) := ⟨rfl, rfl, rfl, by decide +kernel, rfl, by decide +kernel, by decide +kernel⟩
def spWay (n : Nat) : Sp := fun vs H Q _ => ∃ (v : V) (t : Tr) (i : Nat), vs = [v, natV i] ∧ TrAt H v t ∧ t.ht < n ∧ i < t.size ∧ t.size ≤ 300 ∧ ∀ (H' : Hp) (q : Addr), Same H H' → H q = none → PathAt H' q (pOf t 0 i) → Q (.ref q) H'
theorem ok_way {n : Nat} (B : Bl mg) (Z : Df P w K mg base "_law_size" n n_law_size (spSize n)) (a : At K mg "_law_way" s_law_way) : Df P w K mg base "_law_way" (n + 1) p_law_way (spWay n) := by
  refine Df.mk' a sc_law_way (fun vs H Q E h => ?_) (fun _ _ _ _ _ _ us hl => match us, hl with | [_, _], _ => rfl) (fun f cdv A outer s H vs Q E hr h => ?_)
  · obtain ⟨v, t, i, rfl, _⟩ := h
    rfl
  obtain ⟨v, t, i, rfl, ht, hd, hi, hz, q⟩ := h
  refine ⟨_, (pss_cons (ps_set (i := 2) sc_law_way.nd rfl (.inl rfl) (pe_lst pa_nil))
 (pss_cons (ps_set (i := 3) sc_law_way.nd rfl (.inl rfl) pe_int)
 (pss_cons (ps_while PassesOwn.never (pt_cmpR op_ne (pe_op op_add (pv 3) (pe_df Z hr (pa_cons (pe_ix ix_tup (pv 0) pe_int (fun _ _ => rfl)) pa_nil))) (pv 1) (nomark _)) (pss_cons (ps_set (i := 4) sc_law_way.nd rfl (.inl rfl) (pe_op op_add (pv 3) (pe_df Z hr (pa_cons (pe_ix ix_tup (pv 0) pe_int (fun _ _ => rfl)) pa_nil))))
 (pss_cons (ps_expr (pe_bm PySem.F.plainAttrs_list PySem.F.slot_list_append PySem.F.type_list_append mt_append (pv 2) (pa_cons (pe_tup (pa_cons (pv 4) (pa_cons (pe_ix ix_list (pe_lst (pa_cons pe_str (pa_cons pe_str pa_nil))) (pe_callTy call_int1 (by rfl) B.int (by decide +kernel) (pa_cons (pe_cmpR op_gt (pv 1) (pv 4) (nomark _)) pa_nil)) (fun _ _ => rfl)) pa_nil))) pa_nil)))
 (pss_cons (ps_set (i := 3) sc_law_way.nd rfl (.inl rfl) (pe_ix ix_list (pe_lst (pa_cons (pv 3) (pa_cons (pe_op op_add (pv 4) pe_int) pa_nil))) (pe_callTy call_int1 (by rfl) B.int (by decide +kernel) (pa_cons (pe_cmpR op_gt (pv 1) (pv 4) (nomark _)) pa_nil)) (fun _ _ => rfl)))
 (pss_one (ps_set (i := 0) sc_law_way.nd rfl (.inl rfl) (pe_ix ix_tup (pv 0) (pe_callTy call_int1 (by rfl) B.int (by decide +kernel) (pa_cons (pe_cmpR op_gt (pv 1) (pv 4) (nomark _)) pa_nil)) (fun _ _ => rfl))))))))
 (pss_one (ps_ret (pv 2)))))), ?_⟩
  have two : 2 ≤ sizeLine := by show 2 ≤ sizeLine; decide
  refine ⟨Nat.zero_le _, fun L hL => ?_⟩
  have s0 : Same H (upd H L (.lst [])) := Same.new hL
  refine ⟨fun m σ H1 => ∃ (x : V) (u : Tr) (f : Nat) (pre : List (Nat × Bool)) (y : Option V), σ = [some x, some (natV i), some (.ref L), some (.int (f : Int)), y] ∧ Same H H1 ∧ PathAt H1 L pre ∧ TrAt H x u ∧ u.ht < n ∧ f ≤ i ∧ i < f + u.size ∧ pre.length + u.size ≤ t.size ∧ pOf t 0 i = pre ++ pOf u f i ∧ m = u.size,
    ⟨_, v, t, 0, [], none, rfl, s0, ⟨[], upd_same, .nil⟩, ht, hd, Nat.zero_le _, by omega, by show 0 + _ ≤ _; omega, rfl, rfl⟩, fun m σ H1 hW => ?_⟩
  obtain ⟨x, u, f, pre, y, rfl, sm, pa, hx, hux, h1, h2, hl, hP, rfl⟩ := hW
  cases hx with
  | nil =>
    have : Tr.nil.size = 0 := rfl
    omega
  | @nod b x1 x2 t1 t2 eb g1 g2 =>
    have hsz : (Tr.nod t1 t2).size = t1.size + 1 + t2.size := rfl
    have hht : (Tr.nod t1 t2).ht = max t1.ht t2.ht + 1 := rfl
    rw [hsz] at h2 hl
    rw [hht] at hux
    rw [pOf_nod] at hP
    refine ⟨_, rfl, _, rfl, b, _, _, x1, rfl, rfl, .of (sm _ _ eb), atI_nat (j := 0) rfl, x1, t1, rfl, g1.same sm, by omega, _, _, rfl, rfl, ?_⟩
    refine ⟨_, rfl, rfl, _, rfl, ?_⟩
    by_cases c : i = f + t1.size
    · rw [if_pos c, List.append_nil] at hP
      have e : (!decide (V.int ((f : Int) + (t1.size : Int)) = natV i)) = false := by
        rw [decide_eq_true (show V.int ((f : Int) + (t1.size : Int)) = natV i from congrArg V.int (by omega))]
        rfl
      refine ite2 (fun z => absurd (z.symm.trans e) (by decide)) (fun _ => ?_)
      exact ⟨_, rfl, q _ L sm hL (by rw [hP]; exact pa)⟩
    · rw [if_neg c] at hP
      have e : (!decide (V.int ((f : Int) + (t1.size : Int)) = natV i)) = true := by
        rw [decide_eq_false (show ¬ V.int ((f : Int) + (t1.size : Int)) = natV i from fun z => c (by have := V.int.inj z; omega))]
        rfl
      refine ite2 (fun _ => ?_) (fun z => (z e).elim)
      refine ⟨fun σ' H' => ∃ m', m' < (Tr.nod t1 t2).size ∧ ∃ (x : V) (u : Tr) (f : Nat) (pre : List (Nat × Bool)) (y : Option V), σ' = [some x, some (natV i), some (.ref L), some (.int (f : Int)), y] ∧ Same H H' ∧ PathAt H' L pre ∧ TrAt H x u ∧ u.ht < n ∧ f ≤ i ∧ i < f + u.size ∧ pre.length + u.size ≤ t.size ∧ pOf t 0 i = pre ++ pOf u f i ∧ m' = u.size,
        fun σ' H' hN => hN, ?_⟩
      refine ⟨_, rfl, _, rfl, b, _, _, x1, rfl, rfl, .of (sm _ _ eb), atI_nat (j := 0) rfl, x1, t1, rfl, g1.same sm, by omega, _, _, rfl, rfl, ?_⟩
      obtain ⟨tups, eL, pT⟩ := pa
      by_cases d : i < f + t1.size
      · skip
        have hk : decide ((f : Int) + (t1.size : Int) < (i : Int)) = false := decide_eq_false (by omega)
        have hat : ∀ u1 u2 : V, atI [u1, u2] (if decide ((f : Int) + (t1.size : Int) < (i : Int)) = true then (1 : Int) else 0) = some u1 := fun u1 u2 => by rw [hk]; rfl
        refine ⟨_, rfl, .inl ⟨rfl, _, .of eL⟩, _, rfl, two, fun Y hY => ?_⟩
        have sY := Same.new (o := .lst [V.str "left", V.str "right"]) hY
        refine ⟨_, rfl, _, rfl, _, _, rfl, rfl, .inr ⟨decide ((f : Int) + (t1.size : Int) < (i : Int)), rfl, Y, _, _, _, rfl, rfl, .of upd_same, hat _ _, two, fun T hT => ?_⟩⟩
        have sT := Same.new (o := .tup [V.int ((f : Int) + (t1.size : Int)), sideV false]) hT
        have sYT := sY.trans sT
        refine ⟨L, _, _, rfl, rfl, sYT _ _ eL, ?_, ?_⟩
        · rw [List.length_map, Paired.length pT]
          exact small1000 (by omega)
        have sm3 : Same H (upd (upd (upd H1 Y (.lst [V.str "left", V.str "right"])) T (.tup [V.int ((f : Int) + (t1.size : Int)), sideV false])) L (.lst (tups.map V.ref ++ [V.ref T]))) := fun c o e => by
          rw [upd_ne (ne_of_none e hL)]
          exact sYT _ _ (sm _ _ e)
        have nTL : T ≠ L := (ne_of_none (sY _ _ eL) hT).symm
        have pa3 : PathAt (upd (upd (upd H1 Y (.lst [V.str "left", V.str "right"])) T (.tup [V.int ((f : Int) + (t1.size : Int)), sideV false])) L (.lst (tups.map V.ref ++ [V.ref T]))) L (pre ++ [(f + t1.size, false)]) := by
          refine ⟨tups ++ [T], by rw [upd_same, List.map_append]; rfl, Paired.app (Paired.mapP pT fun a z h => ?_) (.cons ?_ .nil)⟩
          · rw [upd_ne (tup_ne h eL)]
            exact sYT _ _ h
          · rw [upd_ne nTL, upd_same, show V.int ((f : Int) + (t1.size : Int)) = natV (f + t1.size) from congrArg V.int (by omega)]
        have eb3 := sm3 _ _ eb
        refine ⟨_, rfl, _, rfl, _, _, rfl, rfl, two, fun M hM => ?_⟩
        have sM := Same.new (o := .lst [V.int (f : Int), V.int ((f : Int) + (t1.size : Int) + 1)]) hM
        refine ⟨_, rfl, _, rfl, _, _, rfl, rfl, .inr ⟨decide ((f : Int) + (t1.size : Int) < (i : Int)), rfl, M, _, _, _, rfl, rfl, .of upd_same, hat _ _, ?_⟩⟩
        refine ⟨_, rfl, _, rfl, _, rfl, _, _, rfl, rfl, .inr ⟨decide ((f : Int) + (t1.size : Int) < (i : Int)), rfl, b, _, _, _, rfl, rfl, .of (sM _ _ eb3), hat _ _, ?_⟩⟩
        rw [if_pos d] at hP
        exact ⟨t1.size, by rw [hsz]; omega, x1, t1, f, pre ++ [(f + t1.size, false)], _, rfl, sm3.trans sM, pa3.same sM, g1, by omega, h1, d, by rw [List.length_append, List.length_singleton]; omega, by rw [hP, List.append_assoc]; rfl, rfl⟩
      · skip
        have hk : decide ((f : Int) + (t1.size : Int) < (i : Int)) = true := decide_eq_true (by omega)
        have hat : ∀ u1 u2 : V, atI [u1, u2] (if decide ((f : Int) + (t1.size : Int) < (i : Int)) = true then (1 : Int) else 0) = some u2 := fun u1 u2 => by rw [hk]; rfl
        refine ⟨_, rfl, .inl ⟨rfl, _, .of eL⟩, _, rfl, two, fun Y hY => ?_⟩
        have sY := Same.new (o := .lst [V.str "left", V.str "right"]) hY
        refine ⟨_, rfl, _, rfl, _, _, rfl, rfl, .inr ⟨decide ((f : Int) + (t1.size : Int) < (i : Int)), rfl, Y, _, _, _, rfl, rfl, .of upd_same, hat _ _, two, fun T hT => ?_⟩⟩
        have sT := Same.new (o := .tup [V.int ((f : Int) + (t1.size : Int)), sideV true]) hT
        have sYT := sY.trans sT
        refine ⟨L, _, _, rfl, rfl, sYT _ _ eL, ?_, ?_⟩
        · rw [List.length_map, Paired.length pT]
          exact small1000 (by omega)
        have sm3 : Same H (upd (upd (upd H1 Y (.lst [V.str "left", V.str "right"])) T (.tup [V.int ((f : Int) + (t1.size : Int)), sideV true])) L (.lst (tups.map V.ref ++ [V.ref T]))) := fun c o e => by
          rw [upd_ne (ne_of_none e hL)]
          exact sYT _ _ (sm _ _ e)
        have nTL : T ≠ L := (ne_of_none (sY _ _ eL) hT).symm
        have pa3 : PathAt (upd (upd (upd H1 Y (.lst [V.str "left", V.str "right"])) T (.tup [V.int ((f : Int) + (t1.size : Int)), sideV true])) L (.lst (tups.map V.ref ++ [V.ref T]))) L (pre ++ [(f + t1.size, true)]) := by
          refine ⟨tups ++ [T], by rw [upd_same, List.map_append]; rfl, Paired.app (Paired.mapP pT fun a z h => ?_) (.cons ?_ .nil)⟩
          · rw [upd_ne (tup_ne h eL)]
            exact sYT _ _ h
          · rw [upd_ne nTL, upd_same, show V.int ((f : Int) + (t1.size : Int)) = natV (f + t1.size) from congrArg V.int (by omega)]
        have eb3 := sm3 _ _ eb
        refine ⟨_, rfl, _, rfl, _, _, rfl, rfl, two, fun M hM => ?_⟩
        have sM := Same.new (o := .lst [V.int (f : Int), V.int ((f : Int) + (t1.size : Int) + 1)]) hM
        refine ⟨_, rfl, _, rfl, _, _, rfl, rfl, .inr ⟨decide ((f : Int) + (t1.size : Int) < (i : Int)), rfl, M, _, _, _, rfl, rfl, .of upd_same, hat _ _, ?_⟩⟩
        refine ⟨_, rfl, _, rfl, _, rfl, _, _, rfl, rfl, .inr ⟨decide ((f : Int) + (t1.size : Int) < (i : Int)), rfl, b, _, _, _, rfl, rfl, .of (sM _ _ eb3), hat _ _, ?_⟩⟩
        rw [if_neg d] at hP
        refine ⟨t2.size, by rw [hsz]; omega, x2, t2, f + t1.size + 1, pre ++ [(f + t1.size, true)], some (.int ((f : Int) + (t1.size : Int))), ?_, sm3.trans sM, pa3.same sM, g2, by omega, by omega, by omega, by rw [List.length_append, List.length_singleton]; omega, by rw [hP, List.append_assoc]; rfl, rfl⟩
        exact congrArg (fun q => [some x2, some (natV i), some (V.ref L), some (V.int q), some (V.int ((f : Int) + (t1.size : Int)))]) (by omega : (f : Int) + (t1.size : Int) + 1 = ((f + t1.size + 1 : Nat) : Int))
end
end HSP
namespace HSP
open PySem PySem.Spec PyProof.Rows L2
section
variable {P : Program} {w : World} {K : PySem.W.Frag} {mg : Str → Option Value} {base : Heap}
/-! ### _law_size -/
theorem sc_law_size : FnScope n_law_size n_law_size (defScope s_law_size) := ⟨rfl, rfl, rfl, by decide +kernel, rfl, by decide +kernel, by decide +kernel⟩
theorem ok_size (a : At K mg "_law_size" s_law_size) : ∀ n, Df P w K mg base "_law_size" n n_law_size (spSize n)
  | 0 => Df.none' a (fun vs H Q E h => by obtain ⟨v, t, _, _, h, _⟩ := h; exact absurd h (Nat.not_lt_zero _)) (fun _ _ _ _ _ _ us hl => match us, hl with | [_], _ => rfl) 0
  | n + 1 => by
    have S := ok_size a n
    refine Df.mk' a sc_law_size (fun vs H Q E h => ?_) (fun _ _ _ _ _ _ us hl => match us, hl with | [_], _ => rfl) (fun f cdv A outer s H vs Q E hr h => ?_)
    · obtain ⟨v, t, rfl, _⟩ := h
      rfl
    obtain ⟨v, t, rfl, ht, hd, q⟩ := h
    refine ⟨_, (pss_one (ps_ret (pe_ifExp (pt_cmpR op_isN (pv 0) pe_non (nomark _)) pe_int (pe_op op_add (pe_op op_add (pe_df S hr (pa_cons (pe_ix ix_tup (pv 0) pe_int (fun _ _ => rfl)) pa_nil)) pe_int) (pe_df S hr (pa_cons (pe_ix ix_tup (pv 0) pe_int (fun _ _ => rfl)) pa_nil)))))), ?_⟩
    refine ⟨v, rfl, rfl, _, rfl, ?_⟩
    cases ht with
    | nil => exact iteT q
    | @nod b x1 x2 l r e hl hr2 =>
      have hd' : max l.ht r.ht + 1 < n + 1 := hd
      refine iteF ?_
      refine ⟨_, rfl, b, _, _, x1, rfl, rfl, .of e, atI_nat (j := 0) rfl, x1, l, rfl, hl, by omega, ?_⟩
      refine ⟨_, _, rfl, rfl, _, rfl, b, _, _, x2, rfl, rfl, .of e, atI_nat (j := 1) rfl, x2, r, rfl, hr2, by omega, ?_⟩
      refine ⟨_, _, rfl, rfl, ?_⟩
      have e2 : ((l.size : Int) + 1 + (r.size : Int)) = (((Tr.nod l r).size : Nat) : Int) := by
        show _ = ((l.size + 1 + r.size : Nat) : Int)
        omega
      rw [← e2] at q
      exact q
/-! ### _law_tree -/
theorem sc_law_tree : FnScope n_law_tree ["draws", "room"] (defScope s_law_tree) := ⟨rfl, rfl, rfl, by decide +kernel, rfl, by decide +kernel, by decide +kernel⟩
def spDraw (n : Nat) : Sp := fun vs H Q _ => ∃ (p : Addr) (m k : Nat), vs = [.ref p, .int (m : Int)] ∧ m < n ∧ DrAt H p k ∧ k + 2 * m ≤ 100000 ∧ ∀ (H' : Hp) (v : V) (t : Tr), Keep p H H' → DrAt H' p (k + 2 * m) → TrAt H' v t → t.size = m → Q v H'
theorem ok_drawT (B : Bl mg) (N : Df P w K mg base "_law_next" 1 ["draws"] spNext) (a : At K mg "_law_tree" s_law_tree) : ∀ n, Df P w K mg base "_law_tree" (n + 1) ["draws", "room"] (spDraw n)
  | 0 => Df.none' a (fun vs H Q E h => by obtain ⟨p, m, k, _, h, _⟩ := h; exact absurd h (Nat.not_lt_zero _)) (fun _ _ _ _ _ _ us hl => match us, hl with | [_, _], _ => rfl) 1
  | n + 1 => by
    have D := ok_drawT B N a n
    refine Df.mk' a sc_law_tree (fun vs H Q E h => ?_) (fun _ _ _ _ _ _ us hl => match us, hl with | [_, _], _ => rfl) (fun f cdv A outer s H vs Q E hr h => ?_)
    · obtain ⟨p, m, k, rfl, _⟩ := h
      rfl
    obtain ⟨p, m, k, rfl, hm, hd, hk, q⟩ := h
    refine ⟨_, (pss_cons (ps_if (pt_cmpR op_eq (pv 1) pe_int (nomark _)) (pss_one (ps_ret pe_non)) pss_nil)
 (pss_cons (ps_set (i := 2) sc_law_tree.nd rfl (.inl rfl) (pe_ix ix_list (pe_lst (pa_cons (pe_op op_fdiv (pv 1) pe_int) (pa_cons (pe_op op_fdiv (pe_op op_sub (pv 1) pe_int) pe_int) (pa_cons (pe_op op_mod (pe_callTy call_int1 (by rfl) B.int (by decide +kernel) (pa_cons (pe_df N (hr.mono (by omega)) (pa_cons (pv 0) pa_nil)) pa_nil)) (pv 1)) (pa_cons pe_int (pa_cons (pe_op op_sub (pv 1) pe_int) pa_nil)))))) (pe_op op_mod (pe_callTy call_int1 (by rfl) B.int (by decide +kernel) (pa_cons (pe_df N (hr.mono (by omega)) (pa_cons (pv 0) pa_nil)) pa_nil)) pe_int) (fun _ _ => rfl)))
 (pss_one (ps_ret (pe_tup (pa_cons (pe_df D hr (pa_cons (pv 0) (pa_cons (pv 2) pa_nil))) (pa_cons (pe_df D hr (pa_cons (pv 0) (pa_cons (pe_op op_sub (pe_op op_sub (pv 1) (pv 2)) pe_int) pa_nil))) pa_nil))))))), ?_⟩
    refine ⟨_, rfl, rfl, _, rfl, ?_⟩
    refine ite2 (fun c => ?_) (fun c => ?_)
    · have m0 : (m : Int) = 0 := V.int.inj (of_decide_eq_true c)
      exact q H .non .nil (Keep.refl _ _) (hd.mono (by omega)) .nil (by show 0 = m; omega)
    have m1 : ¬ (m : Int) = 0 := fun z => c (decide_eq_true (congrArg V.int z))
    have mp : (0 : Int) < (m : Int) := by omega
    refine ⟨_, rfl, _, _, rfl, rfl, ⟨by decide, by decide⟩, _, rfl, _, _, rfl, rfl, _, _, rfl, rfl, ⟨by decide, by decide⟩, _, rfl, p, k, rfl, hd, by omega, fun H1 r1 kp1 d1 a1 a2 => .inl ⟨_, rfl, _, rfl, _, _, rfl, rfl, mp, _, rfl, _, _, rfl, rfl, (by show 5 ≤ sizeLine; decide), fun L hL => ?_⟩⟩
    refine ⟨_, rfl, p, k + 1, rfl, d1.same (Same.new hL), by omega, fun H2 r2 kp2 d2 a3 a4 => .inl ⟨_, rfl, _, _, rfl, rfl, (by show (0 : Int) < 5; decide), ?_⟩⟩
    have eL := kp2 L _ (d1.ne hL) upd_same
    obtain ⟨x, hx, j, rfl, hj⟩ := at_any (xs := [V.int ((m : Int) / 2), V.int (((m : Int) - 1) / 2), V.int (r1 % (m : Int)), V.int 0, V.int ((m : Int) - 1)]) (C := fun x => ∃ j : Nat, x = V.int (j : Int) ∧ j < m) (fun x hx => by
      have nat : ∀ z : Int, 0 ≤ z → z < (m : Int) → ∃ j : Nat, V.int z = V.int (j : Int) ∧ j < m := fun z z0 z1 => ⟨z.toNat, congrArg V.int (by omega), by omega⟩
      simp only [List.mem_cons, List.not_mem_nil, or_false] at hx
      rcases hx with rfl | rfl | rfl | rfl | rfl
      · exact nat _ (by omega) (by omega)
      · exact nat _ (by omega) (by omega)
      · exact nat _ (Int.emod_nonneg _ (by omega)) (Int.emod_lt_of_pos _ mp)
      · exact nat _ (by omega) (by omega)
      · exact nat _ (by omega) (by omega)) (i := r2 % 5) (Int.emod_nonneg _ (by decide)) (Int.emod_lt_of_pos _ (by decide))
    refine ⟨L, _, _, _, rfl, rfl, .of eL, hx, ?_⟩
    have kpA : Keep p H H2 := kp1.trans ((Keep.new hL).trans kp2)
    refine ⟨_, rfl, _, rfl, p, j, k + 1 + 1, rfl, by omega, d2, by omega, fun H3 v3 t3 kp3 d3 b3 s3 => ?_⟩
    refine ⟨_, rfl, _, rfl, _, rfl, _, _, rfl, rfl, _, _, rfl, rfl, p, m - 1 - j, k + 1 + 1 + 2 * j, congrArg (fun z => [V.ref p, V.int z]) (by omega : (m : Int) - (j : Int) - 1 = ((m - 1 - j : Nat) : Int)), by omega, d3, by omega, fun H4 v4 t4 kp4 d4 b4 s4 => ?_⟩
    refine ⟨(by show 2 ≤ sizeLine; decide), fun T hT => ?_⟩
    have s5 := Same.new (o := .tup [v3, v4]) hT
    refine q _ (.ref T) (.nod t3 t4) (kpA.trans (kp3.trans (kp4.trans (Keep.new hT)))) ((d4.mono (by omega)).same s5) (.nod upd_same ((d3.tree kp4 b3).same s5) (b4.same s5)) ?_
    show t3.size + 1 + t4.size = m
    omega
end
end HSP
namespace HSP
open PySem PySem.Spec PyProof.Rows L2
theorem DrAt.neOf {H : Hp} {p q : Addr} {k : Nat} {ns : List Int} (d : DrAt H p k) (e : H q = some (.lst (ns.map V.int))) : q ≠ p := fun z => by
  obtain ⟨n, j, b, e2, _⟩ := d
  rw [z, e2] at e
  have h := HO.lst.inj (Option.some.inj e)
  match ns, h with
  | [], h => exact absurd (congrArg List.length h) (by simp)
  | [_], h => exact absurd (congrArg List.length h) (by simp)
  | [_, _], h => exact absurd (congrArg List.length h) (by simp)
  | _ :: _ :: z :: _, h => exact absurd (congrArg (fun l => l[2]?) h) (by simp)
theorem DrAt.put {H : Hp} {p q : Addr} {k : Nat} {o : HO} (d : DrAt H p k) (n : q ≠ p) : DrAt (upd H q o) p k := by
  obtain ⟨z, j, b, e, l⟩ := d
  exact ⟨z, j, b, by rw [upd_ne n.symm]; exact e, l⟩
/-- a place that was not tracked at first may be written -/
theorem Keep.put {p q : Addr} {H H1 : Hp} {o : HO} (h : H q = none) (k : Keep p H H1) : Keep p H (upd H1 q o) := fun b u n e => by
  rw [upd_ne (ne_of_none e h)]
  exact k b u n e
/-- a value drawn is near 0 -/
def Near (ns : List Int) : Prop := ∀ v, v ∈ ns → -1000001 ≤ v ∧ v ≤ 1000001
theorem Near.nil : Near [] := fun _ h => by cases h
theorem Near.snoc {ns : List Int} {v : Int} (h : Near ns) (h1 : -1000001 ≤ v ∧ v ≤ 1000001) : Near (ns ++ [v]) := fun x hx => by
  rcases List.mem_append.mp hx with z | z
  · exact h x z
  · rw [List.mem_singleton.mp z]
    exact h1
theorem Near.set {ns : List Int} {v : Int} {i : Nat} (h : Near ns) (h1 : -1000001 ≤ v ∧ v ≤ 1000001) : Near (ns.set i v) := fun x hx => by
  rcases List.mem_or_eq_of_mem_set hx with z | z
  · exact h x z
  · rw [z]
    exact h1
theorem near_of {r sp : Int} (h0 : 0 ≤ sp) (h1 : sp ≤ 1000000) : -1000001 ≤ r % (sp + 1) - sp / 2 ∧ r % (sp + 1) - sp / 2 ≤ 1000001 := by
  have a1 := Int.emod_nonneg r (show sp + 1 ≠ 0 by omega)
  have a2 := Int.emod_lt_of_pos r (show (0 : Int) < sp + 1 by omega)
  omega
end HSP
namespace HSP
open PySem PySem.Spec PyProof.Rows L2
section
variable {P : Program} {w : World} {K : PySem.W.Frag} {mg : Str → Option Value} {base : Heap}
/-! ### _law_values -/
theorem sc_law_values : FnScope n_law_values ["draws", "many"] (defScope s_law_values) := ⟨rfl, rfl, rfl, by decide +kernel, rfl, by decide +kernel, by decide +kernel⟩
def spValues : Sp := fun vs H Q _ => ∃ (p : Addr) (m k : Nat), vs = [.ref p, .int (m : Int)] ∧ m ≤ 1000 ∧ DrAt H p k ∧ k + m + 10 ≤ 100000 ∧ ∀ (H' : Hp) (q : Addr) (ns : List Int), Keep p H H' → DrAt H' p (k + m + 10) → H q = none → H' q = some (.lst (ns.map V.int)) → ns.length = m → Near ns → Q (.ref q) H'
theorem ok_values (B : Bl mg) (N : Df P w K mg base "_law_next" 1 ["draws"] spNext) (a : At K mg "_law_values" s_law_values) : Df P w K mg base "_law_values" 2 ["draws", "many"] spValues := by
  refine Df.mk' a sc_law_values (fun vs H Q E h => ?_) (fun _ _ _ _ _ _ us hl => match us, hl with | [_, _], _ => rfl) (fun f cdv A outer s H vs Q E hr h => ?_)
  · obtain ⟨p, m, k, rfl, _⟩ := h
    rfl
  obtain ⟨p, m, k, rfl, hm, hd, hk, q⟩ := h
  refine ⟨_, (pss_cons (ps_set (i := 2) sc_law_values.nd rfl (.inl rfl) (pe_df N hr (pa_cons (pv 0) pa_nil)))
 (pss_cons (ps_set (i := 3) sc_law_values.nd rfl (.inr rfl) (pe_ix ix_list (pe_lst (pa_cons pe_int (pa_cons (pv 1) (pa_cons (pe_op op_add (pe_op op_mul pe_int (pv 1)) pe_int) (pa_cons (pe_op op_powW pe_int pe_int) pa_nil))))) (pe_op op_mod (pe_callTy call_int1 (by rfl) B.int (by decide +kernel) (pa_cons (pv 2) pa_nil)) pe_int) (fun _ _ => rfl)))
 (pss_cons (ps_setLc (i := 5) (own := [("k", 4)]) (g := (gName 4)) (tt := tYes) (by rfl) sc_law_values.nd rfl rfl (sw_true rfl rfl rfl (by decide +kernel)) (pi_range1 (by rfl) B.range (pa_cons (pv 1) pa_nil)) (blkOk_by (N := n_law_values) (sc := defScope s_law_values) (by decide +kernel)) (fun _ _ _ _ _ => (pg_name (i := 4) sc_law_values.nd rfl (.inl rfl))) (fun _ _ _ _ _ => pts_nil) (fun _ _ _ _ _ => (pe_op op_sub (pe_op op_mod (pe_callTy call_int1 (by rfl) B.int (by decide +kernel) (pa_cons (pe_df N hr (pa_cons (pv 0) pa_nil)) pa_nil)) (pe_op op_add (pv 3) pe_int)) (pe_op op_fdiv (pv 3) pe_int))))
 (pss_cons (ps_if (PW.pt (pw_and (pt_cmpR op_eq (pe_op op_mod (pe_callTy call_int1 (by rfl) B.int (by decide +kernel) (pa_cons (pe_op op_fdiv (pv 2) pe_int) pa_nil)) pe_int) pe_int (nomark _)) (pw_and1 (pt_cmpR op_gt (pv 1) pe_int (nomark _))))) (pss_cons (ps_set (i := 5) sc_law_values.nd rfl (.inl rfl) (pe_callB cr_sortedI (by rfl) B.sorted (by decide +kernel) (pa_cons (pv 5) pa_nil)))
 (pss_one (ps_for PassesOwn.never rfl (pi_range1 (by rfl) B.range (pa_cons (pe_op op_mod (pe_callTy call_int1 (by rfl) B.int (by decide +kernel) (pa_cons (pe_op op_fdiv (pv 2) pe_int) pa_nil)) pe_int) pa_nil)) (pg_name (i := 4) sc_law_values.nd rfl (.inl rfl)) (pss_cons (ps_set (i := 6) sc_law_values.nd rfl (.inl rfl) (pe_op op_mod (pe_callTy call_int1 (by rfl) B.int (by decide +kernel) (pa_cons (pe_df N hr (pa_cons (pv 0) pa_nil)) pa_nil)) (pv 1)))
 (pss_one (ps_asg (pe_op op_sub (pe_op op_mod (pe_callTy call_int1 (by rfl) B.int (by decide +kernel) (pa_cons (pe_df N hr (pa_cons (pv 0) pa_nil)) pa_nil)) (pe_op op_add (pv 3) pe_int)) (pe_op op_fdiv (pv 3) pe_int)) (pg_sub (pv 5) (pv 6) set_list))))))) pss_nil)
 (pss_one (ps_ret (pv 5))))))), ?_⟩
  refine ⟨_, rfl, p, k, rfl, hd, by omega, fun H1 r1 kp1 d1 a1 a2 => ?_⟩
  refine ⟨_, rfl, _, rfl, _, _, rfl, rfl, .inl ⟨by decide, by decide⟩, _, _, rfl, rfl, _, _, rfl, rfl, ⟨by decide, by decide +kernel⟩, (by show 4 ≤ sizeLine; decide), fun L hL => ?_⟩
  obtain ⟨x, hx, sp, rfl, hsp, hsp2⟩ := at_any (xs := [V.int 3, V.int (m : Int), V.int (4 * (m : Int) + 1), V.int ((10 : Int) ^ (6 : Int).toNat)]) (C := fun x => ∃ j : Int, x = V.int j ∧ 0 ≤ j ∧ j ≤ 1000000) (fun x hx => by
    simp only [List.mem_cons, List.not_mem_nil, or_false] at hx
    rcases hx with rfl | rfl | rfl | rfl
    · exact ⟨3, rfl, by decide, by decide⟩
    · exact ⟨_, rfl, by omega, by omega⟩
    · exact ⟨_, rfl, by omega, by omega⟩
    · exact ⟨_, rfl, by decide, by decide⟩) (i := r1 % 4) (Int.emod_nonneg _ (by decide)) (Int.emod_lt_of_pos _ (by decide))
  refine ⟨_, rfl, .inl ⟨_, rfl, _, _, rfl, rfl, (by show (0 : Int) < 4; decide), L, _, _, _, rfl, rfl, .of upd_same, hx, ?_⟩⟩
  have kp2 : Keep p H (upd H1 L (.lst [V.int 3, V.int (m : Int), V.int (4 * (m : Int) + 1), V.int ((10 : Int) ^ (6 : Int).toNat)])) := kp1.trans (Keep.new hL)
  have d2 := d1.same (Same.new (o := .lst [V.int 3, V.int (m : Int), V.int (4 * (m : Int) + 1), V.int ((10 : Int) ^ (6 : Int).toNat)]) hL)
  have free2 : ∀ b, (upd H1 L (.lst [V.int 3, V.int (m : Int), V.int (4 * (m : Int) + 1), V.int ((10 : Int) ^ (6 : Int).toNat)])) b = none → H b = none ∧ b ≠ p := fun b hb => by
    refine ⟨?_, d2.ne hb⟩
    cases e : H b with
    | none => rfl
    | some o => cases hb.symm.trans (kp2 b o (d2.ne hb) e)
  generalize upd H1 L (.lst [V.int 3, V.int (m : Int), V.int (4 * (m : Int) + 1), V.int ((10 : Int) ^ (6 : Int).toNat)]) = H2 at kp2 d2 free2 ⊢
  refine ⟨_, rfl, _, rfl, by omega, by omega, fun D hD => ?_⟩
  refine lc_range (lo := 0) (n := m) (fun i H' => ∃ ns : List Int, Keep p H H' ∧ DrAt H' p (k + 1 + i) ∧ H' D = some (.lst (ns.map V.int)) ∧ ns.length = i ∧ Near ns) ⟨[], kp2.trans (Keep.new hD), d2.same (Same.new hD), upd_same, rfl, .nil⟩ (fun i H3 hi h3 => ?_) (fun H3 h3 => ?_)
  · obtain ⟨ns, kp3, d3, e3, l3, w3⟩ := h3
    refine ⟨rfl, ?_⟩
    refine ⟨_, rfl, p, k + 1 + i, rfl, d3, by omega, fun H4 r2 kp4 d4 b1 b2 => .inl ⟨_, rfl, _, rfl, _, _, rfl, rfl, _, _, rfl, rfl, (by show 0 < sp + 1; omega), _, rfl, _, _, rfl, rfl, ⟨by decide, by decide⟩, _, _, rfl, rfl, _, kp4 D _ (d3.neOf e3) e3, ?_, ?_⟩⟩
    · rw [List.length_map]
      exact small1000 (by omega)
    · refine ⟨ns ++ [r2 % (sp + 1) - sp / 2], Keep.put (free2 D hD).1 (kp3.trans kp4), d4.put (d3.neOf e3), ?_, ?_, w3.snoc (near_of hsp hsp2)⟩
      · rw [upd_same, List.map_append]
        rfl
      · rw [List.length_append, List.length_singleton, l3]
  · obtain ⟨ns, kp3, d3, e3, l3, w3⟩ := h3
    have nD := d3.neOf e3
    refine ⟨_, rfl, _, _, rfl, rfl, ⟨by decide, by decide⟩, .inl ⟨_, rfl, _, _, rfl, rfl, (by show (0 : Int) < 3; decide), rfl, _, rfl, ?_⟩⟩
    have back : Q (.ref D) H3 := q H3 D ns kp3 (d3.mono (by omega)) (free2 D hD).1 e3 l3 w3
    refine ite2 (fun c1 => ?_) (fun c1 => iteF ⟨_, rfl, back⟩)
    refine ⟨_, rfl, _, _, rfl, rfl, _, rfl, ite2 (fun c2 => ?_) (fun c2 => ⟨_, rfl, back⟩)⟩
    have mp : (0 : Int) < (m : Int) := of_decide_eq_true c2
    refine ⟨_, rfl, D, ns, rfl, .of e3, fun ns2 D2 hperm _ hD2 => ?_⟩
    refine ⟨_, rfl, _, _, rfl, rfl, ⟨by decide, by decide⟩, .inl ⟨_, rfl, _, _, rfl, rfl, (by show (0 : Int) < 4; decide), ?_⟩⟩
    have u1 := Int.emod_nonneg (r1 / 12) (show (4 : Int) ≠ 0 by decide)
    have u2 := Int.emod_lt_of_pos (r1 / 12) (show (0 : Int) < 4 by decide)
    refine ⟨_, rfl, by omega, by omega, ?_⟩
    have hD2' : H D2 = none ∧ D2 ≠ p := by
      refine ⟨?_, d3.ne hD2⟩
      cases e : H D2 with
      | none => rfl
      | some o => cases hD2.symm.trans (kp3 D2 o (d3.ne hD2) e)
    refine for_range (lo := 0) (n := (r1 / 12 % 4).toNat) (fun i σ H' => ∃ (ns' : List Int) (y4 y6 : Option V), σ = [some (.ref p), some (.int (m : Int)), some (.int r1), some (.int sp), y4, some (.ref D2), y6] ∧ Keep p H H' ∧ DrAt H' p (k + 1 + m + 2 * i) ∧ H' D2 = some (.lst (ns'.map V.int)) ∧ ns'.length = m ∧ Near ns')
      ⟨ns2, _, _, rfl, Keep.put hD2'.1 kp3, d3.put hD2'.2, upd_same, by rw [hperm.length_eq, l3], fun x hx => w3 x (hperm.mem_iff.mp hx)⟩ (fun i σ H4 hi h4 => ?_) (fun σ H4 h4 => ?_)
    · obtain ⟨ns', y4, y6, rfl, kp4, d4, e4, l4, w4⟩ := h4
      refine ⟨_, rfl, p, k + 1 + m + 2 * i, rfl, d4, by omega, fun H5 r5 kp5 d5 b1 b2 => .inl ⟨_, rfl, _, rfl, _, _, rfl, rfl, mp, ?_⟩⟩
      refine ⟨_, rfl, p, k + 1 + m + 2 * i + 1, rfl, d5, by omega, fun H6 r6 kp6 d6 b3 b4 => .inl ⟨_, rfl, _, rfl, _, _, rfl, rfl, _, _, rfl, rfl, (by show 0 < sp + 1; omega), _, rfl, _, _, rfl, rfl, ⟨by decide, by decide⟩, _, _, rfl, rfl, ?_⟩⟩
      have n4 := d4.neOf e4
      have e6 := kp6 D2 _ n4 (kp5 D2 _ n4 e4)
      have v1 := Int.emod_nonneg r5 (show (m : Int) ≠ 0 by omega)
      have v2 := Int.emod_lt_of_pos r5 mp
      refine ⟨_, rfl, _, rfl, D2, _, _, (r5 % (m : Int)).toNat, rfl, rfl, e6, ?_, ?_⟩
      · rw [List.length_map, l4]
        exact ixN_in v1 v2
      · refine ⟨ns'.set (r5 % (m : Int)).toNat (r6 % (sp + 1) - sp / 2), _, _, rfl, Keep.put hD2'.1 ((kp4.trans kp5).trans kp6), d6.put n4, ?_, ?_, w4.set (near_of hsp hsp2)⟩
        · rw [upd_same, List.map_set]
        · rw [List.length_set, l4]
    · obtain ⟨ns', y4, y6, rfl, kp4, d4, e4, l4, w4⟩ := h4
      exact ⟨_, rfl, q H4 D2 ns' kp4 (d4.mono (by omega)) hD2'.1 e4 l4 w4⟩
end
end HSP
namespace HSP
open PySem PySem.Spec PyProof.Rows L2
/-! ## how long all paths are -/
theorem sum_nodup (g : Nat → Nat) : ∀ (n : Nat) {ws : List Nat}, ws.Nodup → (∀ x, x ∈ ws → x < n) → (ws.map g).sum ≤ ((List.range n).map g).sum
  | 0, [], _, _ => Nat.le_refl _
  | 0, a :: _, _, h => absurd (h a List.mem_cons_self) (Nat.not_lt_zero _)
  | n + 1, ws, nd, h => by
    have h1 := sum_nodup g n (nd.erase n) fun x hx => by
      obtain ⟨h2, h3⟩ := nd.mem_erase_iff.mp hx
      have := h x h3
      omega
    rw [List.range_succ, List.map_append, List.sum_append_nat]
    show _ ≤ _ + (g n + 0)
    by_cases c : n ∈ ws
    · have p := ((List.perm_cons_erase c).map g).sum_nat
      rw [p, List.map_cons, List.sum_cons]
      omega
    · rw [List.erase_of_not_mem c] at h1
      omega
def pathS (t : Tr) (f : Nat) : Nat := ((List.range t.size).map fun i => (pOf t f (f + i)).length).sum
theorem sum_succ (g : Nat → Nat) : ∀ l : List Nat, (l.map fun i => g i + 1).sum = (l.map g).sum + l.length
  | [] => rfl
  | a :: r => by
    rw [List.map_cons, List.sum_cons, sum_succ g r, List.map_cons, List.sum_cons, List.length_cons]
    omega
theorem pathS_le : ∀ (t : Tr) (f : Nat), 2 * pathS t f ≤ t.size * (t.size - 1)
  | .nil, _ => Nat.le_refl _
  | .nod l r, f => by
    have h1 := pathS_le l f
    have h2 := pathS_le r (f + l.size + 1)
    have e : pathS (.nod l r) f = pathS l f + l.size + (pathS r (f + l.size + 1) + r.size) := by
      show ((List.range (l.size + 1 + r.size)).map fun i => (pOf (.nod l r) f (f + i)).length).sum = _
      rw [List.range_add, List.range_succ, List.map_append, List.map_append, List.sum_append_nat, List.sum_append_nat, List.map_map]
      have a1 : ((List.range l.size).map fun i => (pOf (.nod l r) f (f + i)).length).sum = pathS l f + l.size := by
        have : ((List.range l.size).map fun i => (pOf (.nod l r) f (f + i)).length) = (List.range l.size).map fun i => (pOf l f (f + i)).length + 1 := List.map_congr_left fun i hi => by
          have hi := List.mem_range.mp hi
          rw [pOf_nod, if_neg (by omega), if_pos (by omega), List.length_cons]
        rw [this, sum_succ, List.length_range]
        rfl
      have a2 : ([l.size].map fun i => (pOf (.nod l r) f (f + i)).length).sum = 0 := by
        show (pOf (.nod l r) f (f + l.size)).length + 0 = 0
        rw [pOf_nod, if_pos rfl]
        rfl
      have a3 : ((List.range r.size).map ((fun i => (pOf (.nod l r) f (f + i)).length) ∘ fun j => l.size + 1 + j)).sum = pathS r (f + l.size + 1) + r.size := by
        have : ((List.range r.size).map ((fun i => (pOf (.nod l r) f (f + i)).length) ∘ fun j => l.size + 1 + j)) = (List.range r.size).map fun i => (pOf r (f + l.size + 1) (f + l.size + 1 + i)).length + 1 := List.map_congr_left fun i hi => by
          show (pOf (.nod l r) f (f + (l.size + 1 + i))).length = _
          rw [pOf_nod, if_neg (by omega), if_neg (by omega), List.length_cons, show f + (l.size + 1 + i) = f + l.size + 1 + i by omega]
        rw [this, sum_succ, List.length_range]
        rfl
      rw [a1, a2, a3]
      omega
    rw [e]
    show _ ≤ (l.size + 1 + r.size) * (l.size + 1 + r.size - 1)
    generalize l.size = a at *
    generalize r.size = b at *
    have z : ∀ x : Nat, x * (x - 1) + x = x * x := fun x => by
      cases x with
      | zero => rfl
      | succ x => rw [Nat.add_sub_cancel, Nat.mul_succ (x + 1) x]
    have za := z a
    have zb := z b
    have e2 : (a + 1 + b) * (a + 1 + b - 1) = a * a + a * b + a + (b * a + b * b + b) := by
      rw [show a + 1 + b - 1 = a + b by omega, show a + 1 + b = a + b + 1 by omega, Nat.succ_mul, Nat.add_mul, Nat.mul_add, Nat.mul_add]
      omega
    rw [e2]
    omega
theorem edgesW_sum (t : Tr) (ws : List Nat) : (edgesW t ws).length = (ws.map fun w => (pOf t 0 w).length).sum := by
  unfold edgesW
  induction ws with
  | nil => rfl
  | cons w r ih => rw [List.flatMap_cons, List.length_append, List.length_map, ih, List.map_cons, List.sum_cons]
theorem edgesW_few {t : Tr} {ws : List Nat} (hz : t.size ≤ 10) (nd : ws.Nodup) (lt : ∀ x, x ∈ ws → x < t.size) : (edgesW t ws).length ≤ 45 := by
  rw [edgesW_sum]
  have h1 := sum_nodup (fun w => (pOf t 0 w).length) t.size nd lt
  have h2 := pathS_le t 0
  have e : pathS t 0 = ((List.range t.size).map fun w => (pOf t 0 w).length).sum := by
    unfold pathS
    congr 1
    exact List.map_congr_left fun i _ => by rw [Nat.zero_add]
  have h3 : t.size * (t.size - 1) ≤ 10 * 9 := Nat.mul_le_mul hz (by omega)
  rw [e] at h2
  omega
section
variable {P : Program} {w : World} {K : PySem.W.Frag} {mg : Str → Option Value} {base : Heap}
/-! ### _law_some -/
theorem sc_law_some : FnScope n_law_some ["draws", "many"] (defScope s_law_some) := ⟨rfl, rfl, rfl, by decide +kernel, rfl, by decide +kernel, by decide +kernel⟩
def spSome : Sp := fun vs H Q _ => ∃ (p : Addr) (m k : Nat), vs = [.ref p, .int (m : Int)] ∧ m ≤ 1000 ∧ DrAt H p k ∧ k + m ≤ 100000 ∧ ∀ (H' : Hp) (q : Addr) (ws : List Nat), Keep p H H' → DrAt H' p (k + m) → H q = none → H' q = some (.lst (ws.map natV)) → ws.Pairwise (· < ·) → (∀ x, x ∈ ws → x < m) → Q (.ref q) H'
theorem ok_some (B : Bl mg) (N : Df P w K mg base "_law_next" 1 ["draws"] spNext) (a : At K mg "_law_some" s_law_some) : Df P w K mg base "_law_some" 2 ["draws", "many"] spSome := by
  refine Df.mk' a sc_law_some (fun vs H Q E h => ?_) (fun _ _ _ _ _ _ us hl => match us, hl with | [_, _], _ => rfl) (fun f cdv A outer s H vs Q E hr h => ?_)
  · obtain ⟨p, m, k, rfl, _⟩ := h
    rfl
  obtain ⟨p, m, k, rfl, hm, hd, hk, q⟩ := h
  refine ⟨_, (pss_one (ps_ret (pe_lc (own := [("node", 2)]) (g := (gName 2)) (by rfl) sc_law_some.nd (pi_range1 (by rfl) B.range (pa_cons (pv 1) pa_nil)) (blkOk_by (N := n_law_some) (sc := defScope s_law_some) (by decide +kernel)) (fun _ _ _ _ _ => (pg_name (i := 2) sc_law_some.nd rfl (.inl rfl))) (fun _ _ _ _ _ => (pts_one (pt_cmpR op_eq (pe_op op_mod (pe_callTy call_int1 (by rfl) B.int (by decide +kernel) (pa_cons (pe_df N hr (pa_cons (pv 0) pa_nil)) pa_nil)) pe_int) pe_int (nomark _)))) (fun _ _ _ _ _ => (pv 2))))), ?_⟩
  refine ⟨_, rfl, _, rfl, by omega, by omega, fun D hD => ?_⟩
  refine lc_range (lo := 0) (n := m) (fun i H' => ∃ ws : List Nat, Keep p H H' ∧ DrAt H' p (k + i) ∧ H' D = some (.lst (ws.map natV)) ∧ ws.length ≤ i ∧ ws.Pairwise (· < ·) ∧ ∀ x, x ∈ ws → x < i) ⟨[], Keep.new hD, hd.same (Same.new hD), upd_same, Nat.le_refl _, .nil, fun _ h => nomatch h⟩ (fun i H3 hi h3 => ?_) (fun H3 h3 => ?_)
  · obtain ⟨ws, kp3, d3, e3, l3, w3, b3⟩ := h3
    refine ⟨rfl, ?_⟩
    refine ⟨_, rfl, p, k + i, rfl, d3, by omega, fun H4 r2 kp4 d4 b1 b2 => .inl ⟨_, rfl, _, _, rfl, rfl, (by show (0 : Int) < 3; decide), rfl, _, rfl, ?_⟩⟩
    have e3' : H3 D = some (.lst ((ws.map Int.ofNat).map V.int)) := by
      rw [e3, List.map_map]
      rfl
    have e4 := kp4 D _ (d3.neOf e3') e3
    refine ite2 (fun c => ?_) (fun c => ⟨ws, kp3.trans kp4, d4, e4, by omega, w3, fun x hx => by have := b3 x hx; omega⟩)
    refine ⟨_, rfl, _, e4, ?_, ws ++ [i], Keep.put hD (kp3.trans kp4), d4.put (d3.neOf e3'), ?_, ?_, ?_, fun x hx => ?_⟩
    · rw [List.length_map]
      exact small1000 (by omega)
    · rw [upd_same, List.map_append]
      show _ = some (HO.lst (ws.map natV ++ [V.int (i : Int)]))
      rw [show (0 : Int) + (i : Int) = (i : Int) by omega]
    · rw [List.length_append, List.length_singleton]
      omega
    · exact List.pairwise_append.mpr ⟨w3, List.pairwise_singleton _ _, fun a ha b hb => by rw [List.mem_singleton.mp hb]; exact b3 a ha⟩
    · rcases List.mem_append.mp hx with hx | hx
      · have := b3 x hx
        omega
      · rw [List.mem_singleton.mp hx]
        omega
  · obtain ⟨ws, kp3, d3, e3, l3, w3, b3⟩ := h3
    exact q H3 D ws kp3 d3 hD e3 w3 b3
/-! ### _law_near -/
/-- a pair as a tuple of ints, and back -/
def encP (z : Addr × (Nat × Nat)) : Addr × List Int := (z.1, [(z.2.1 : Int), (z.2.2 : Int)])
def decP (q : Addr × List Int) : Nat × Nat := ((q.2.getD 0 0).toNat, (q.2.getD 1 0).toNat)
theorem decP_enc (z : Addr × (Nat × Nat)) : decP (encP z) = z.2 := rfl
theorem zip_fst {p : Addr → Nat × Nat → Prop} : ∀ {ads : List Addr} {es : List (Nat × Nat)}, Paired p ads es → ads.map V.ref = (ads.zip es).map fun z => V.ref z.1
  | _, _, .nil => rfl
  | _, _, .cons _ t => by
    rw [List.zip_cons_cons, List.map_cons, List.map_cons, zip_fst t]
theorem zip_at {p : Addr → Nat × Nat → Prop} : ∀ {ads : List Addr} {es : List (Nat × Nat)}, Paired p ads es → ∀ {z}, z ∈ ads.zip es → p z.1 z.2
  | _, _, .nil, _, h => nomatch h
  | _, _, .cons a t, z, h => by
    rw [List.zip_cons_cons] at h
    rcases List.mem_cons.mp h with rfl | h
    · exact a
    · exact zip_at t h
theorem zip_snd {p : Addr → Nat × Nat → Prop} : ∀ {ads : List Addr} {es : List (Nat × Nat)}, Paired p ads es → ∀ {e}, e ∈ es → ∃ a, (a, e) ∈ ads.zip es
  | _, _, .nil, _, h => nomatch h
  | _, _, .cons (a := a) _ t, e, h => by
    rw [List.zip_cons_cons]
    rcases List.mem_cons.mp h with rfl | h
    · exact ⟨a, List.mem_cons_self⟩
    · obtain ⟨b, hb⟩ := zip_snd t h
      exact ⟨b, List.mem_cons_of_mem _ hb⟩
/-- pairs of nodes stand at L, sorted, each once -/
def PairsAt (H : Hp) (L : Addr) (es : List (Nat × Nat)) : Prop := ∃ ads : List Addr, H L = some (.lst (ads.map V.ref)) ∧ Paired (fun a (e : Nat × Nat) => H a = some (.tup [natV e.1, natV e.2])) ads es
def spNear (n : Nat) : Sp := fun vs H Q _ => ∃ (v : V) (t : Tr) (W : Addr) (ws : List Nat), vs = [v, .ref W] ∧ TrAt H v t ∧ t.ht < n ∧ t.size ≤ 10 ∧ H W = some (.lst (ws.map natV)) ∧ ws.Nodup ∧ (∀ x, x ∈ ws → x < t.size) ∧
  ∀ (H' : Hp) (L : Addr) (es : List (Nat × Nat)), Same H H' → H L = none → PairsAt H' L es → es.Nodup → es.length < 64 → (∀ e, e ∈ es ↔ e ∈ edgesW t ws) → Q (.ref L) H'
end
end HSP
namespace HSP
open PySem PySem.Spec PyProof.Rows L2
theorem few_belowW : ∀ (n : Nat) {l : List Nat}, l.Nodup → (∀ x, x ∈ l → x < n) → l.length ≤ n
  | 0, [], _, _ => Nat.le_refl _
  | 0, a :: _, _, h => absurd (h a List.mem_cons_self) (Nat.not_lt_zero _)
  | n + 1, l, nd, h => by
    have h1 := few_belowW n (nd.erase n) fun x hx => by
      obtain ⟨h2, h3⟩ := nd.mem_erase_iff.mp hx
      have := h x h3
      omega
    rw [List.length_erase] at h1
    split at h1 <;> omega
theorem paired_map {α β γ : Type} {f : β → γ} {p : α → γ → Prop} : ∀ {as : List α} {bs : List β}, Paired (fun a b => p a (f b)) as bs → Paired p as (bs.map f)
  | _, _, .nil => .nil
  | _, _, .cons a t => .cons a (paired_map t)
section
variable {P : Program} {w : World} {K : PySem.W.Frag} {mg : Str → Option Value} {base : Heap}
/-! ### _law_nodes_of -/
theorem sc_law_nodes_of : FnScope n_law_nodes_of p_law_nodes_of (defScope s_law_nodes_of) := ⟨rfl, rfl, rfl, by decide +kernel, rfl, by decide +kernel, by decide +kernel⟩
def spNodes (n : Nat) : Sp := fun vs H Q _ => ∃ (v : V) (t : Tr) (W : Addr) (ws : List Nat), vs = [v, .ref W] ∧ TrAt H v t ∧ t.ht < n ∧ t.size ≤ 20 ∧ H W = some (.lst (ws.map natV)) ∧ ws.Nodup ∧ (∀ x, x ∈ ws → x < t.size) ∧
  ∀ (H' : Hp) (L : Addr) (N : List Nat), Same H H' → H L = none → H' L = some (.lst (N.map natV)) → NodesW t ws N → Q (.ref L) H'
theorem ok_nodes {n : Nat} (B : Bl mg) (Wy : Df P w K mg base "_law_way" (n + 1) p_law_way (spWay n)) (a : At K mg "_law_nodes_of" s_law_nodes_of) : Df P w K mg base "_law_nodes_of" (n + 2) p_law_nodes_of (spNodes n) := by
  refine Df.mk' a sc_law_nodes_of (fun vs H Q E h => ?_) (fun _ _ _ _ _ _ us hl => match us, hl with | [_, _], _ => rfl) (fun f cdv A outer s H vs Q E hr h => ?_)
  · obtain ⟨_, _, _, _, rfl, _⟩ := h
    rfl
  obtain ⟨v, t, W, ws, rfl, ht, hh, hz, eW, nd, lt, q⟩ := h
  refine ⟨_, (pss_cons (ps_setLc (i := 2) (own := [("node", 3)]) (g := (gName 3)) (tt := tYes) (by rfl) sc_law_nodes_of.nd rfl rfl (sw_true rfl rfl rfl (by decide +kernel)) (pi_list (pv 1)) (blkOk_by (N := n_law_nodes_of) (sc := defScope s_law_nodes_of) (by decide +kernel)) (fun _ _ _ _ _ => (pg_name (i := 3) sc_law_nodes_of.nd rfl (.inl rfl))) (fun _ _ _ _ _ => pts_nil) (fun _ _ _ _ _ => (by exact (pe_lc (own := [("ancestor", 4), ("side", 5)]) (g := (gTup K 2 (gCons (gName 4) (gCons (gName 5) gNil)))) (tt := tYes) (by rfl) sc_law_nodes_of.nd (show PI _ _ _ (iList K _) from pi_list (pe_df Wy hr (pa_cons (pv 0) (pa_cons (pv 3) pa_nil)))) (blkOk_by (N := n_law_nodes_of) (sc := ({ kind := .function, names := [(".0", .local), ("node", .local), ("_law_way", .globalImplicit), ("tree", .cell)], isGenerator := false, isCoroutine := false } : Scope)) (by decide +kernel)) (fun _ _ _ _ _ => (pg_tup rfl (pgs_cons (pg_name (i := 4) sc_law_nodes_of.nd rfl (.inl rfl)) (pgs_cons (pg_name (i := 5) sc_law_nodes_of.nd rfl (.inl rfl)) pgs_nil)))) (fun _ _ _ _ _ => pts_nil) (fun _ _ _ _ _ => (pv 4))))))
 (pss_one (ps_ret (pe_callB (show CallR _ _ (rSortedSetB w) from cr_sortedSetB rfl) (by rfl) B.sorted (by decide +kernel) (pa_cons (pe_callTy (show CallR _ _ (rSetInts w) from cr_setInts rfl) (by rfl) B.set (by decide +kernel) (pa_cons (pe_op op_cat (pe_callTy call_list_of (by rfl) B.list (by decide +kernel) (pa_cons (pv 1) pa_nil)) (pe_callB (cr_sumL rfl) (by rfl) B.sum (by decide +kernel) (pa_cons (pv 2) (pa_cons (pe_lst pa_nil) pa_nil)))) pa_nil)) pa_nil))))), ?_⟩
  have zero : 0 ≤ sizeLine := Nat.zero_le _
  have lw : ws.length ≤ t.size := few_belowW t.size nd lt
  refine ⟨_, rfl, W, rfl, ⟨_, .of eW⟩, fun D0 hD0 => ?_⟩
  refine lc_it (walk_list (K := K) (a := W) (xs := ws.map natV)) (fun i H' => Same H H' ∧ ∃ rows : List Addr, H' D0 = some (.lst (rows.map V.ref)) ∧ Paired (fun r w => H' r = some (.lst (((pOf t 0 w).map fun z => ((z.1 : Nat) : Int)).map V.int)) ∧ r ≠ D0) rows (ws.take i)) ⟨Same.new hD0, [], upd_same, .nil⟩ (fun i H' _ h' => .of (h'.1 _ _ eW)) (fun i x H3 H4 hi h3 hy => ?_) (fun H3 h3 => ?_)
  · obtain ⟨s3, rows, e3, p3⟩ := h3
    obtain ⟨rfl, hx⟩ := hy
    rw [List.getElem?_map] at hx
    obtain ⟨c, hc, rfl⟩ := Option.map_eq_some_iff.mp hx
    have cs : c < t.size := lt c (List.mem_of_getElem? hc)
    have l3 := Paired.length p3
    rw [List.length_take] at l3
    refine ⟨rfl, ?_⟩
    refine yes_lcA ?_
    refine ⟨_, rfl, _, rfl, v, t, c, rfl, ht.same s3, hh, cs, by omega, fun H5 R s5 nR pa => ?_⟩
    obtain ⟨tups, er, pr⟩ := pa
    have lpr := Paired.length pr
    have lp := pOf_len t 0 c
    refine ⟨R, rfl, ⟨_, .of er⟩, fun D hD => ?_⟩
    refine lc_it (walk_list (K := K) (a := R) (xs := tups.map V.ref)) (fun j H' => Same H5 H' ∧ H' D = some (.lst ((((pOf t 0 c).take j).map fun z => ((z.1 : Nat) : Int)).map V.int))) ⟨Same.new hD, upd_same⟩ (fun j H' _ h' => .of (h'.1 _ _ er)) (fun j x H6 H7 hj h6 hy => ?_) (fun H6 h6 => ?_)
    · obtain ⟨s6, e6⟩ := h6
      obtain ⟨rfl, hx2⟩ := hy
      rw [List.getElem?_map] at hx2
      obtain ⟨T, hT, rfl⟩ := Option.map_eq_some_iff.mp hx2
      obtain ⟨z, hz2, eT⟩ := Paired.getL pr hT
      refine ⟨T, _, rfl, .of (s6 _ _ eT), rfl, _, _, rfl, _, [], rfl, rfl, ?_⟩
      refine ⟨rfl, yes_lcA ?_⟩
      refine ⟨_, rfl, _, e6, ?_, fun b o eb => ?_, ?_⟩
      · rw [List.length_map, List.length_map, List.length_take]
        exact small1000 (by omega)
      · rw [upd_ne (ne_of_none eb hD)]
        exact s6 _ _ eb
      · rw [upd_same, List.take_add_one, hz2, List.map_append, List.map_append]
        rfl
    · obtain ⟨s6, e6⟩ := h6
      rw [List.length_map, lpr, List.take_length] at e6
      have s36 := s5.trans s6
      have nDD : D ≠ D0 := fun y => by rw [y, s5 _ _ e3] at hD; cases hD
      refine ⟨_, s36 _ _ e3, ?_, fun b o eb => ?_, rows ++ [D], ?_, ?_⟩
      · rw [List.length_map]
        exact small1000 (by omega)
      · rw [upd_ne (ne_of_none eb hD0)]
        exact s36 _ _ (s3 _ _ eb)
      · rw [upd_same, List.map_append]
        rfl
      · rw [List.take_add_one, hc]
        refine Paired.app (Paired.mapP p3 fun a l h => ⟨?_, h.2⟩) (.cons ⟨?_, nDD⟩ .nil)
        · rw [upd_ne h.2]
          exact s36 _ _ h.1
        · rw [upd_ne nDD]
          exact e6
  · obtain ⟨s3, rows, e3, p3⟩ := h3
    rw [List.length_map, List.take_length] at p3
    have la := ancW_len t ws
    have few : ws.length * t.size ≤ 20 * 20 := Nat.mul_le_mul (by omega) hz
    refine ⟨_, rfl, W, _, rfl, .inl (.of (s3 _ _ eW)), fun C0 hC0 => ?_⟩
    have s4 := Same.new (o := .lst (ws.map natV)) hC0
    have fp : (ws.map fun w => (pOf t 0 w).map fun z => ((z.1 : Nat) : Int)).flatten = (ancW t ws).map Int.ofNat := by
      unfold ancW
      rw [List.flatMap_def, List.map_flatten, List.map_map]
      congr 1
      refine List.map_congr_left fun w _ => ?_
      show _ = ((pOf t 0 w).map (·.1)).map Int.ofNat
      rw [List.map_map]
      rfl
    have pp : Paired (fun r (ns : List Int) => H3 r = some (.lst (ns.map V.int))) rows (ws.map fun w => (pOf t 0 w).map fun z => ((z.1 : Nat) : Int)) := paired_map (Paired.mapP p3 fun _ _ h => h.1)
    refine ⟨_, rfl, zero, fun E0 hE0 => ?_⟩
    have sE := Same.new (o := .lst []) hE0
    have s5 := s4.trans sE
    have l1 := Paired.length p3
    refine ⟨D0, E0, rows, _, [], rfl, s5 _ _ e3, upd_same, Paired.mapP pp fun _ _ h => s5 _ _ h, ?_, fun H6 p s6 e6 => ?_⟩
    · rw [fp, List.length_map, List.length_nil]
      exact Nat.le_of_lt (small1000 (n := 0 + (ancW t ws).length) (by omega))
    rw [List.nil_append, fp] at e6
    have eC6 := s6 _ _ (sE _ _ (upd_same (H := H3) (a := C0) (o := .lst (ws.map natV))))
    refine ⟨C0, p, _, _, rfl, rfl, eC6, e6, ?_, fun U hU => ?_⟩
    · rw [List.length_map, List.length_map, List.length_map]
      exact Nat.le_of_lt (small1000 (n := ws.length + (ancW t ws).length) (by omega))
    have eU : (upd H6 U (.lst (ws.map natV ++ ((ancW t ws).map Int.ofNat).map V.int))) U = some (.lst (((ws ++ ancW t ws).map Int.ofNat).map V.int)) := by
      rw [upd_same, List.map_append, List.map_append, List.map_map (l := ws)]
      rfl
    have sU := Same.new (o := .lst (ws.map natV ++ ((ancW t ws).map Int.ofNat).map V.int)) hU
    have s07 := s3.trans (s5.trans (s6.trans sU))
    generalize upd H6 U (.lst (ws.map natV ++ ((ancW t ws).map Int.ofNat).map V.int)) = H7 at eU s07 ⊢
    refine ⟨U, _, rfl, eU, ?_, fun S cn hS hcn => ?_⟩
    · rw [List.length_map, List.length_append]
      omega
    rw [List.length_map, List.length_append] at hcn
    refine ⟨S, _, _, rfl, upd_same, by omega, fun ns L hns mem hlen hL => ?_⟩
    have sS := Same.new (o := SetO w S (fun j => decide (j ∈ (ws ++ ancW t ws).map Int.ofNat)) cn) hS
    have sL := Same.new (o := .lst (ns.map V.int)) hL
    obtain ⟨N, rfl, hN⟩ : ∃ N : List Nat, ns = N.map Int.ofNat ∧ NodesW t ws N := nodes_of hns mem
    refine q _ L N (s07.trans (sS.trans sL)) (s07.free (sS.free hL)) ?_ hN
    rw [upd_same, List.map_map]
    rfl
end
end HSP
set_option maxHeartbeats 4000000
namespace HSP
open PySem PySem.Spec PyProof.Rows L2
/-! ## dict(xs): a list of pairs of a tuple and a value -/
def mergeT (kvs more : List (List Key × V)) : List (List Key × V) := more.foldl (fun acc kv => putK acc kv.1 kv.2) kvs
theorem mergeT_len : ∀ (more kvs : List (List Key × V)), (mergeT kvs more).length ≤ kvs.length + more.length
  | [], kvs => Nat.le_refl _
  | q :: r, kvs => by
    have h1 := mergeT_len r (putK kvs q.1 q.2)
    have h2 := length_putK kvs q.1 q.2
    show (mergeT (putK kvs q.1 q.2) r).length ≤ _
    rw [List.length_cons]
    omega
/-- one pair: where it stands, where its key stands, the key, the value -/
structure PrT where
  at_ : Addr
  key : Addr
  k : List Key
  v : V
def PrAt (K : PySem.W.Frag) (H : Hp) (p : PrT) : Prop := SqT K H p.at_ [V.ref p.key, p.v] ∧ H p.key = some (.tup (p.k.map kV))
section
variable {X : Cx}
theorem prs_of {pins : List (Addr × Obj)} {σ : L2.St} {H : Hp} {s : Shared} (I : Inv X pins σ H s) : ∀ {ps : List PrT}, (∀ p, p ∈ ps → PrAt X.K H p) →
    ∃ us : List Value, us.length = ps.length ∧ ∀ (j : Nat) (p : PrT), ps[j]? = some p → ∃ u, us[j]? = some u ∧ RelV p.v u ∧ IsTup s.heap p.at_ #[Value.ref p.key, u]
  | [], _ => ⟨[], rfl, fun j p e => by cases e⟩
  | p :: r, h => by
    obtain ⟨us, l, g⟩ := prs_of I (ps := r) fun q hq => h q (List.mem_cons_of_mem _ hq)
    obtain ⟨hp, _⟩ := h p List.mem_cons_self
    obtain ⟨its, rv, ht, _⟩ := I.tuple hp
    obtain ⟨u, y, ei, ru, ry⟩ := vals2 rv
    subst ei
    obtain rfl : u = Value.ref p.key := ru
    refine ⟨y :: us, by rw [List.length_cons, List.length_cons, l], fun j q e => ?_⟩
    cases j with
    | zero =>
      obtain rfl : p = q := Option.some.inj e
      exact ⟨y, rfl, ry, ht⟩
    | succ j => exact g j q e
theorem kt_merge {H : Hp} : ∀ {ps : List PrT} {us : List Value} {kvs : List (List Key × V)} {xs : List (List Key × Addr × Value)}, (∀ p, p ∈ ps → H p.key = some (.tup (p.k.map kV))) → us.length = ps.length → (∀ (j : Nat) (p : PrT), ps[j]? = some p → ∃ u, us[j]? = some u ∧ RelV p.v u) → KT H kvs xs →
    KT H (mergeT kvs (ps.map fun p => (p.k, p.v))) (storedAllH xs ((ps.zip us).map fun z => (z.1.k, z.1.key, z.2)))
  | [], us, kvs, xs, _, _, _, r => r
  | p :: ps, [], _, _, _, l, _, _ => by cases l
  | p :: ps, u :: us, kvs, xs, hk, l, hu, r => by
    obtain ⟨u', e, ru⟩ := hu 0 p rfl
    obtain rfl : u = u' := Option.some.inj e
    exact kt_merge (ps := ps) (us := us) (fun q hq => hk q (List.mem_cons_of_mem _ hq)) (by rw [List.length_cons, List.length_cons] at l; omega) (fun j q e => hu (j + 1) q e) (r.put p.k (hk p List.mem_cons_self) ru)
def rDictT (K : PySem.W.Frag) : List V → Hp → VK → Prop := fun xs H Q => ∃ (a : Addr) (ps : List PrT), xs = [.ref a] ∧ SqL K H a (ps.map fun p => V.ref p.at_) ∧ (∀ p, p ∈ ps → PrAt K H p) ∧
  ∀ D, H D = none → Q (.ref D) (upd H D (.dT (mergeT [] (ps.map fun p => (p.k, p.v)))))
theorem cr_dictT (hcalm : X.calm = true) (hu : X.A.units + 64 < cLine) : CallR X (.type "dict") (rDictT X.K) := by
  intro pins s σ H xs us Q I r q
  obtain ⟨a, ps, ex, hq, hp, q⟩ := q
  subst ex
  rw [Vals.ref1 r]
  obtain ⟨its, rv, pl, hz⟩ := I.list hq
  rw [List.length_map] at hz
  have ei : its = ps.map fun p => Value.ref p.at_ := by
    have := refs_at (ps := ps.map (·.at_)) (us := its) (by rw [List.map_map]; exact rv)
    rw [this, List.map_map]
    rfl
  subst ei
  obtain ⟨vs, lv, hv⟩ := prs_of I hp
  obtain ⟨o, n, ho, hc, hd, hdat⟩ := pl
  have lz : (ps.zip vs).length = ps.length := by rw [List.length_zip, lv, Nat.min_self]
  have at_z : ∀ {j : Nat} {p : PrT} {u : Value}, (ps.zip vs)[j]? = some (p, u) → ps[j]? = some p ∧ vs[j]? = some u := fun {j p u} e => List.getElem?_zip_eq_some.mp e
  have hitems : PairItems s.heap (ps.map fun p => Value.ref p.at_).toArray (fun j => (ps[j]?.map (·.at_)).getD 0) ((ps.zip vs).map fun z => (Value.ref z.1.key, z.2)) := by
    refine ⟨by simp [lz], fun j k v e => ?_⟩
    rw [List.getElem?_map] at e
    obtain ⟨⟨p, u⟩, e1, e2⟩ := Option.map_eq_some_iff.mp e
    cases e2
    obtain ⟨e3, e4⟩ := at_z e1
    obtain ⟨u', e5, _, t⟩ := hv j p e3
    rw [e4] at e5
    cases e5
    refine ⟨by simp [e3], .inl ?_⟩
    have e6 : (fun j => (ps[j]?.map (·.at_)).getD 0) j = p.at_ := by
      show (ps[j]?.map (·.at_)).getD 0 = p.at_
      rw [e3]
      rfl
    rw [e6]
    exact t
  have hz2 : ((ps.zip vs).map fun z => (Value.ref z.1.key, z.2)).length ≤ sizeLine := by
    rw [List.length_map, lz]
    exact hz
  refine call_dict_pairsH (knd := tupleKind (mixKind X.prog X.w)) (ps := (ps.zip vs).map fun z => (z.1.k, z.1.key, z.2)) (PairArg.list a _ _ _) (I.ok.hd hcalm) ?_ ⟨⟨o, n, ho, hc, hd, hdat⟩, hitems⟩ ⟨?_, fun i key v rel => ?_⟩ (fun h' hk x hx => ?_) hz2 fun h' tk hd' k => ?_
  · show X.A.units + 2 < cLine
    omega
  · rw [List.length_map, List.length_map]
  · have rel : ((ps.zip vs).map fun z => (Value.ref z.1.key, z.2))[i]? = some (key, v) := rel
    rw [List.getElem?_map] at rel
    obtain ⟨⟨p, u⟩, e1, e2⟩ := Option.map_eq_some_iff.mp rel
    cases e2
    exact ⟨p.k, p.key, by rw [List.getElem?_map, e1]; rfl, rfl⟩
  · obtain ⟨⟨p, u⟩, hz, rfl⟩ := List.mem_map.mp hx
    have hp2 := hp p (List.of_mem_zip hz).1
    have ko := key_of I.hok hp2.2
    obtain ⟨ob, arr, m, h1, h2⟩ := ko
    have lt := Heap.lt_size h1
    exact ⟨ob, arr, m, hk _ _ (Nat.ne_of_lt lt) (by intro z; cases z) h1, h2⟩
  · have hm : (s.heap.objs.size == sysModules) = false := beq_eq_false_iff_ne.mpr (Nat.ne_of_gt I.big)
    have nn := I.hok.fresh (Nat.le_refl s.heap.objs.size)
    have hlen : (mergeT [] (ps.map fun p => (p.k, p.v))).length ≤ sizeLine := by
      have := mergeT_len (ps.map fun p => (p.k, p.v)) []
      rw [List.length_map, List.length_nil] at this
      omega
    obtain ⟨q', es, ep, hq', h2, h3, h4, _, h5⟩ := hd'
    have rel := kt_merge (H := H) (ps := ps) (us := vs) (kvs := []) (xs := []) (fun p hp2 => (hp p hp2).2) lv (fun j p e => let ⟨u, e1, e2, _⟩ := hv j p e; ⟨u, e1, e2⟩) .nil
    exact ⟨.ref s.heap.objs.size, upd H s.heap.objs.size (.dT _), I.laid (t' := tk) (fun b o e => k b o (by intro z; cases z) e) (Nat.le_refl _) (show ObjOk X.prog X.w _ _ _ (.dT _) from ⟨hlen, hm, _, rel.keeps fun c ys ec => by rw [upd_ne (ne_of_none ec nn)]; exact ec, q', es, ep, hq', h2, h3, h4, h5⟩), rfl, q _ nn⟩
end
end HSP
namespace HSP
open PySem PySem.Spec PyProof.Rows L2
/-! ### _law_far -/
def kyT (a b : Nat) : List Key := [Sum.inl (a : Int), Sum.inl (b : Int)]
theorem small1000' {n : Nat} (h : n ≤ 5000) : n < sizeLine := by
  show n < 16777216
  omega
theorem kyT_inj {a b c d : Nat} (h : kyT a b = kyT c d) : a = c ∧ b = d := by
  injection h with h1 h2
  injection h2 with h2 _
  have h1 := Sum.inl.inj h1
  have h2 := Sum.inl.inj h2
  omega
/-- all keys are pairs of nodes -/
def NatT (kvs : List (List Key × V)) : Prop := ∀ k, valV kvs k ≠ none → ∃ a b : Nat, k = kyT a b
theorem NatT.put {kvs : List (List Key × V)} (h : NatT kvs) (a b : Nat) (v : V) : NatT (putK kvs (kyT a b) v) := fun k hk => by
  rw [valV_put] at hk
  by_cases c : k = kyT a b
  · exact ⟨a, b, c⟩
  · rw [if_neg c] at hk
    exact h k hk
def TblT (kvs : List (List Key × V)) (F : Nat → Nat → Nat) : Prop := (∀ a b, valV kvs (kyT a b) = if F a b = 0 then none else some (natV (F a b))) ∧ NatT kvs
theorem TblT.some {kvs : List (List Key × V)} {F : Nat → Nat → Nat} (h : TblT kvs F) (a b : Nat) : (valV kvs (kyT a b)).isSome = decide (F a b ≠ 0) := by
  rw [h.1]
  by_cases c : F a b = 0
  · rw [if_pos c, decide_eq_false fun z => z c]
    rfl
  · rw [if_neg c, decide_eq_true c]
    rfl
theorem TblT.getD {kvs : List (List Key × V)} {F : Nat → Nat → Nat} (h : TblT kvs F) (a b : Nat) : (valV kvs (kyT a b)).getD (V.int 0) = natV (F a b) := by
  rw [h.1]
  by_cases c : F a b = 0
  · rw [if_pos c, c]
    rfl
  · rw [if_neg c]
    rfl
theorem TblT.put {kvs : List (List Key × V)} {F : Nat → Nat → Nat} (h : TblT kvs F) {m a b : Nat} (h1 : F a m ≠ 0) (h2 : F m b ≠ 0) : TblT (putK kvs (kyT a b) (V.int (if ((F a m : Int) + (F m b : Int)) > (F a b : Int) then ((F a m : Int) + (F m b : Int)) else (F a b : Int)))) (putF F m a b) := ⟨fun x y => by
  have e1 : V.int (if ((F a m : Int) + (F m b : Int)) > (F a b : Int) then ((F a m : Int) + (F m b : Int)) else (F a b : Int)) = natV (max (F a b) (F a m + F m b)) := by
    show V.int _ = V.int _
    congr 1
    split <;> omega
  rw [e1, valV_put]
  by_cases c : kyT x y = kyT a b
  · obtain ⟨rfl, rfl⟩ := kyT_inj c
    have e2 : putF F m x y x y = max (F x y) (F x m + F m y) := by
      unfold putF
      rw [if_pos ⟨rfl, rfl, h1, h2⟩]
    rw [if_pos rfl, e2, if_neg (by omega)]
  · rw [if_neg c, h.1]
    have e2 : putF F m a b x y = F x y := by
      unfold putF
      rw [if_neg]
      rintro ⟨rfl, rfl, _⟩
      exact c rfl
    rw [e2], h.2.put a b _⟩
theorem putF_not {F : Nat → Nat → Nat} {m a b : Nat} (h : ¬ (F a m ≠ 0 ∧ F m b ≠ 0)) : putF F m a b = F := by
  funext x y
  unfold putF
  rw [if_neg]
  rintro ⟨rfl, rfl, z⟩
  exact h z
def oneT (es : List (Nat × Nat)) (a b : Nat) : Nat := if (a, b) ∈ es then 1 else 0
theorem tbl_start (es : List (Nat × Nat)) : TblT (mergeT [] (es.map fun e => (kyT e.1 e.2, V.int 1))) (oneT es) := ⟨fun a b => by
  have all : ∀ (es : List (Nat × Nat)) (kvs : List (List Key × V)), valV (mergeT kvs (es.map fun e => (kyT e.1 e.2, V.int 1))) (kyT a b) = if (a, b) ∈ es then some (V.int 1) else valV kvs (kyT a b) := fun es => by
    induction es with
    | nil => exact fun kvs => by rw [if_neg (by intro z; cases z)]; rfl
    | cons e r ih =>
      intro kvs
      show valV (mergeT (putK kvs (kyT e.1 e.2) (V.int 1)) (r.map fun e => (kyT e.1 e.2, V.int 1))) _ = _
      rw [ih, valV_put]
      by_cases c : (a, b) ∈ r
      · rw [if_pos c, if_pos (List.mem_cons_of_mem _ c)]
      · rw [if_neg c]
        by_cases d : kyT a b = kyT e.1 e.2
        · obtain ⟨h1, h2⟩ := kyT_inj d
          rw [if_pos d, if_pos (by rw [show (a, b) = e from Prod.ext h1 h2]; exact List.mem_cons_self)]
        · rw [if_neg d, if_neg]
          intro z
          rcases List.mem_cons.mp z with z | z
          · exact d (by rw [← z])
          · exact c z
  rw [all]
  unfold oneT
  by_cases c : (a, b) ∈ es
  · rw [if_pos c, if_pos c, if_neg (by decide)]
    rfl
  · rw [if_neg c, if_neg c, if_pos rfl]
    rfl, by
  have all : ∀ (es : List (Nat × Nat)) (kvs : List (List Key × V)), NatT kvs → NatT (mergeT kvs (es.map fun e => (kyT e.1 e.2, V.int 1))) := fun es => by
    induction es with
    | nil => exact fun kvs h => h
    | cons e r ih => exact fun kvs h => ih _ (h.put e.1 e.2 _)
  exact all es [] fun k hk => absurd rfl hk⟩
theorem zip_l {α β : Type} {p : α → β → Prop} : ∀ {as : List α} {bs : List β}, Paired p as bs → (as.zip bs).map Prod.fst = as
  | _, _, .nil => rfl
  | _, _, .cons _ t => by rw [List.zip_cons_cons, List.map_cons, zip_l t]
theorem zip_r {α β : Type} {p : α → β → Prop} : ∀ {as : List α} {bs : List β}, Paired p as bs → (as.zip bs).map Prod.snd = bs
  | _, _, .nil => rfl
  | _, _, .cons _ t => by rw [List.zip_cons_cons, List.map_cons, zip_r t]
theorem zip_in {α β : Type} {p : α → β → Prop} : ∀ {as : List α} {bs : List β}, Paired p as bs → ∀ {z}, z ∈ as.zip bs → p z.1 z.2
  | _, _, .nil, _, h => nomatch h
  | _, _, .cons a t, z, h => by
    rw [List.zip_cons_cons] at h
    rcases List.mem_cons.mp h with rfl | h
    · exact a
    · exact zip_in t h
def prT (z : Addr × (Addr × (Nat × Nat))) : PrT := ⟨z.1, z.2.1, kyT z.2.2.1 z.2.2.2, V.int 1⟩
/-- the table F stands at L behind H0 -/
def StT (H0 H : Hp) (L : Addr) (F : Nat → Nat → Nat) (c : Nat) : Prop := Same H0 H ∧ ∃ kvs, H L = some (.dT kvs) ∧ TblT kvs F ∧ kvs.length ≤ c
def FarT (H : Hp) (L : Addr) (D : Nat → Nat → Nat) : Prop := ∃ kvs, H L = some (.dT kvs) ∧ TblT kvs D
section
variable {P : Program} {w : World} {K : PySem.W.Frag} {mg : Str → Option Value} {base : Heap}
def spFarT (n : Nat) : Sp := fun vs H Q _ => ∃ (v : V) (t : Tr) (W : Addr) (ws : List Nat), vs = [v, .ref W] ∧ TrAt H v t ∧ t.ht < n ∧ t.size ≤ 10 ∧ H W = some (.lst (ws.map natV)) ∧ ws.Nodup ∧ (∀ x, x ∈ ws → x < t.size) ∧
  ∀ (H' : Hp) (L : Addr) (D : Nat → Nat → Nat), Same H H' → H L = none → FarT H' L D → AllL (EdW t ws) D → Q (.ref L) H'
end
end HSP
namespace HSP
open PySem PySem.Spec PyProof.Rows L2
/-! ### _law_keeps -/
def OkP (D : Nat → Nat → Nat) (v : Nat → Int) (a b : Nat) : Prop := ¬ (D a b ≠ 0 ∧ v b < v a + (D a b : Int))
theorem freeOf_iff {D : Nat → Nat → Nat} {v : Nat → Int} {n : Nat} {ks : List Nat} (lt : ∀ x, x ∈ ks → x < n) : freeOf D v n ks = true ↔ ∀ a, a ∈ ks → ∀ b, b ∈ ks → OkP D v a b := by
  unfold freeOf
  rw [Bool.not_eq_true', ← Bool.not_eq_true, List.any_eq_true]
  constructor
  · intro h a ha b hb z
    exact h ⟨a, ha, List.any_eq_true.mpr ⟨b, hb, decide_eq_true (confOf_mem.mpr ⟨lt b hb, z.1, z.2⟩)⟩⟩
  · rintro h ⟨a, ha, h2⟩
    obtain ⟨b, hb, h3⟩ := List.any_eq_true.mp h2
    have := confOf_mem.mp (of_decide_eq_true h3)
    exact h a ha b hb this.2
section
variable {P : Program} {w : World} {K : PySem.W.Frag} {mg : Str → Option Value} {base : Heap}
def spKeeps : Sp := fun vs H Q _ => ∃ (L va Kp : Addr) (D : Nat → Nat → Nat) (ns : List Int) (ks : List Nat), vs = [.ref L, .ref va, .ref Kp] ∧ FarT H L D ∧ H va = some (.lst (ns.map V.int)) ∧ H Kp = some (.lst (ks.map natV)) ∧ (∀ x, x ∈ ks → x < ns.length) ∧ ∀ H', Same H H' → Q (.bl (freeOf D (valAt ns) ns.length ks)) H'
end
end HSP
namespace HSP
open PySem PySem.Spec PyProof.Rows L2
/-! ## xs == [], xs != [], whatever xs holds -/
section
variable {X : Cx}
def rNeN (K : PySem.W.Frag) : R2 := fun x y H Q => ∃ (a b : Addr) (xs : List V), x = .ref a ∧ y = .ref b ∧ SqL K H a xs ∧ SqL K H b [] ∧ Q (.bl (!xs.isEmpty)) H
def rEqN (K : PySem.W.Frag) : R2 := fun x y H Q => ∃ (a b : Addr) (xs : List V), x = .ref a ∧ y = .ref b ∧ SqL K H a xs ∧ SqL K H b [] ∧ Q (.bl xs.isEmpty) H
theorem op_neN (hu : X.A.units < cLine) : OpR X (compareOp .NotEq) (rNeN X.K) := by
  intro pins s σ H x y v u Q I rx ry h
  obtain ⟨a, b, xs, rfl, rfl, hx, hy, q⟩ := h
  cases rx
  cases ry
  obtain ⟨i1, r1, p1, _⟩ := I.list hx
  obtain ⟨i2, r2, p2, _⟩ := I.list hy
  cases r2
  cases r1 with
  | nil => exact PySem.SeqAt.RcNeAt.lists (e := fun _ => true) p1.isList p2.isList rfl hu (fun j h => absurd h (by simp)) X.prog X.w _ _ ⟨.bl false, H, I, rfl, q⟩
  | cons _ _ => exact PySem.SeqAt.RcNeAt.lists_lengths p1.isList p2.isList (by simp) hu X.prog X.w _ _ ⟨.bl true, H, I, rfl, q⟩
theorem op_eqN (hu : X.A.units < cLine) : OpR X (compareOp .Eq) (rEqN X.K) := by
  intro pins s σ H x y v u Q I rx ry h
  obtain ⟨a, b, xs, rfl, rfl, hx, hy, q⟩ := h
  cases rx
  cases ry
  obtain ⟨i1, r1, p1, _⟩ := I.list hx
  obtain ⟨i2, r2, p2, _⟩ := I.list hy
  cases r2
  cases r1 with
  | nil => exact PySem.SeqAt.RcAt.lists (e := fun _ => true) p1.isList p2.isList rfl hu (fun j h => absurd h (by simp)) X.prog X.w _ _ ⟨.bl true, H, I, rfl, q⟩
  | cons _ _ => exact PySem.SeqAt.RcAt.lists_lengths p1.isList p2.isList (by simp) hu X.prog X.w _ _ ⟨.bl false, H, I, rfl, q⟩
end
end HSP
namespace HSP
open PySem PySem.Spec PyProof.Rows L2
/-! ### _law_filled -/
/-- how great a filled value may be -/
def BndV (D : Nat → Nat → Nat) (v : Nat → Int) (ks : List Nat) (least : Int) (x j : Nat) (y : Int) : Prop := (∃ k, k ∈ ks ∧ (k = x ∧ y ≤ v k ∨ D k x ≠ 0 ∧ y ≤ v k + (D k x : Int))) ∨ y ≤ least + (j : Int)
theorem bnd_step {E : Nat → Nat → Prop} {D : Nat → Nat → Nat} (aD : AllL E D) {v : Nat → Int} {ks : List Nat} {least : Int} {o x i j : Nat} {y : Int} (h : BndV D v ks least o i y) (d : D o x ≠ 0) (lt : i < j) : BndV D v ks least x j (y + 1) := by
  rcases h with ⟨k, hk, h⟩ | h
  · refine .inl ⟨k, hk, .inr ?_⟩
    rcases h with ⟨rfl, h⟩ | ⟨d1, h⟩
    · exact ⟨d, by omega⟩
    · have := aD.add d1 d
      exact ⟨by omega, by omega⟩
  · exact .inr (by omega)
theorem bnd_fail {E : Nat → Nat → Prop} {D : Nat → Nat → Nat} (aD : AllL E D) {v : Nat → Int} {ks : List Nat} {least : Int} {o x i n : Nat} {y : Int} (h : BndV D v ks least o i y) (d : D o x ≠ 0) (lt : i < n) (gr : v x < y + 1) (le : least + (n : Int) ≤ v x) : ∃ k, k ∈ ks ∧ D k x ≠ 0 ∧ v x < v k + (D k x : Int) := by
  rcases h with ⟨k, hk, h⟩ | h
  · refine ⟨k, hk, ?_⟩
    rcases h with ⟨rfl, h⟩ | ⟨d1, h⟩
    · exact ⟨d, by omega⟩
    · have := aD.add d1 d
      exact ⟨by omega, by omega⟩
  · omega
theorem ite_cg {α : Type} {p q : Prop} [Decidable p] [Decidable q] {a b : α} (h : p ↔ q) : (if p then a else b) = if q then a else b := by
  by_cases c : p
  · rw [if_pos c, if_pos (h.mp c)]
  · rw [if_neg c, if_neg fun z => c (h.mpr z)]
/-- what told holds -/
def TldK (kvs : List (Key × V)) (w : Nat → Int) (S : Nat → Prop) [DecidablePred S] : Prop := ∀ x : Nat, valV kvs (Sum.inl (x : Int)) = if S x then some (V.int (w x)) else none
theorem tld_start (v : Nat → Int) (ks : List Nat) : TldK (mergeK [] (ks.map fun k : Nat => (Sum.inl (k : Int), V.int (v k)))) v fun x => x ∈ ks := fun x => by
  have all : ∀ (ks : List Nat) (kvs : List (Key × V)), valV (mergeK kvs (ks.map fun k : Nat => (Sum.inl (k : Int), V.int (v k)))) (Sum.inl (x : Int)) = if x ∈ ks then some (V.int (v x)) else valV kvs (Sum.inl (x : Int)) := fun ks => by
    induction ks with
    | nil => exact fun kvs => by rw [if_neg (by intro z; cases z)]; rfl
    | cons e r ih =>
      intro kvs
      show valV (mergeK (putK kvs (Sum.inl (e : Int)) (V.int (v e))) (r.map fun k : Nat => (Sum.inl (k : Int), V.int (v k)))) _ = _
      rw [ih, valV_put]
      by_cases c : x ∈ r
      · rw [if_pos c, if_pos (List.mem_cons_of_mem _ c)]
      · rw [if_neg c]
        by_cases d : x = e
        · subst d
          rw [if_pos rfl, if_pos List.mem_cons_self]
        · rw [if_neg (fun z => d (by have := Sum.inl.inj z; omega)), if_neg]
          intro z
          rcases List.mem_cons.mp z with z | z
          · exact d z
          · exact c z
  rw [all]
  rfl
section
variable {P : Program} {w : World} {K : PySem.W.Frag} {mg : Str → Option Value} {base : Heap}
def spFilled : Sp := fun vs H Q _ => ∃ (E : Nat → Nat → Prop) (L va Kp Nl : Addr) (D : Nat → Nat → Nat) (ns : List Int) (ks N : List Nat), vs = [.ref L, .ref va, .ref Kp, .ref Nl] ∧ FarT H L D ∧ AllL E D ∧ Up E ∧ H va = some (.lst (ns.map V.int)) ∧ H Kp = some (.lst (ks.map natV)) ∧ H Nl = some (.lst (N.map natV)) ∧ (∀ x, x ∈ ks → x ∈ N) ∧ (∀ x, x ∈ N → x < ns.length) ∧ N.Pairwise (· < ·) ∧ (∀ a b, E a b → a ∈ N ∧ b ∈ N) ∧ N.length ≤ 10 ∧ ks.length ≤ 10 ∧ ∀ H', Same H H' → Q (.bl (freeOf D (valAt ns) ns.length ks)) H'
end
end HSP
namespace HSP
open PySem PySem.Spec PyProof.Rows L2
section
variable {X : Cx}
/-- min(.., default=a number) -/
def rMinI : List V → List V → Hp → VK → Prop := fun vs zs H Q => ∃ (a : Addr) (ns : List Int) (d : Int), vs = [V.ref a] ∧ zs = [V.int d] ∧ H a = some (.lst (ns.map V.int)) ∧ ∀ m, (ns = [] ∧ m = d) ∨ (m ∈ ns ∧ ∀ y, y ∈ ns → m ≤ y) → Q (.int m) H
theorem crk_minI (hc : X.calm = true) (hu : X.A.units + 64 < cLine) : CallRK X (.builtin "min") ["default"] rMinI := by
  intro pins s σ H xs zs us ws Q I r rz h
  obtain ⟨a, ns, d, rfl, rfl, ha, q1⟩ := h
  rw [Vals.ref1 r]
  obtain ⟨z, its, n, rv, e⟩ : ObjOk X.prog X.w H s.heap a (.lst (ns.map V.int)) := I.hok a _ ha
  cases rz with
  | cons r1 t1 =>
    cases t1
    obtain ⟨td, rfl⟩ := (show ∃ t, _ = Value.int d t from r1)
    refine PySem.W.min_list_datum_default (I.ok.hd hc) (show s.heap.IsList a its.toArray from ⟨_, e, rfl, n, rfl⟩) (PySem.W.HoldAll.of_ints (ints_of_vals rv)) (by show X.A.units + 1 + 0 < cLine; omega) (fun e0 h' tk kp => ?_) (fun y ys i v h' tk ey _ hv kp => ?_)
    · exact ⟨.int d, H, I.kept kp, ⟨td, rfl⟩, q1 d (.inl ⟨e0, rfl⟩)⟩
    · obtain ⟨t, rfl⟩ := holds_is hv
      obtain ⟨m1, m2⟩ := minOf_spec ys y
      exact ⟨.int _, H, I.kept kp, ⟨t, rfl⟩, q1 _ (.inr ⟨by rw [ey]; exact m1, by rw [ey]; exact m2⟩)⟩
end
end HSP
set_option maxHeartbeats 1000000
namespace HSP
open PySem PySem.Spec PyProof.Rows L2
/-! ## repaired -/
theorem BndV.mono {D : Nat → Nat → Nat} {v : Nat → Int} {ks : List Nat} {least : Int} {x i j : Nat} {y : Int} (h : BndV D v ks least x i y) (l : i ≤ j) : BndV D v ks least x j y := h.imp id fun h => by omega
theorem BndV.max {D : Nat → Nat → Nat} {v : Nat → Int} {ks : List Nat} {least : Int} {x i : Nat} {y z : Int} (h : BndV D v ks least x i y) (g : BndV D v ks least x i z) : BndV D v ks least x i (if z > y then z else y) := by
  split
  · exact g
  · exact h
/-- the rows of new values while the nodes of P are done -/
structure RepI (E : Nat → Nat → Prop) (D : Nat → Nat → Nat) (v : Nat → Int) (ks : List Nat) (low : Int) (N P : List Nat) (r F : Nat → Int) (i : Nat) : Prop where
  out : ∀ x, x ∉ P → r x = v x
  kept : ∀ x, x ∈ P → x ∈ ks → r x = v x
  up : ∀ a b, a ∈ P → b ∈ P → E a b → r a + 1 ≤ r b
  fl : ∀ a y, a ∈ P → y ∈ N → E a y → r a + 1 ≤ F y
  bF : ∀ y, y ∈ N → BndV D v ks low y i (F y)
  bR : ∀ a, a ∈ P → ∃ j, j < i ∧ BndV D v ks low a j (r a)
theorem valAt_setW {ms : List Int} {s j : Nat} {x : Int} : valAt (ms.set s x) j = if j = s ∧ s < ms.length then x else valAt ms j := by
  unfold valAt
  rw [List.getD_eq_getElem?_getD, List.getD_eq_getElem?_getD, List.getElem?_set]
  by_cases c : j = s
  · subst c
    rw [if_pos rfl]
    by_cases d : j < ms.length
    · rw [if_pos d, if_pos ⟨rfl, d⟩]
      rfl
    · rw [if_neg d, if_neg fun z => d z.2, List.getElem?_eq_none (by omega)]
  · rw [if_neg fun z => c z.symm, if_neg fun z => c z.1]
/-- the dict of the floors -/
def flk (N : List Nat) (F : Nat → Int) : List (Key × V) := N.map fun y : Nat => ((Sum.inl (y : Int) : Key), V.int (F y))
theorem flk_get (F : Nat → Int) : ∀ (N : List Nat) (x : Nat), valV (flk N F) (Sum.inl (x : Int)) = if x ∈ N then some (V.int (F x)) else none
  | [], _ => rfl
  | y :: l, x => by
    show valV (((Sum.inl (y : Int) : Key), V.int (F y)) :: flk l F) _ = _
    by_cases c : y = x
    · rw [c, valV_pos rfl, if_pos List.mem_cons_self]
    · rw [valV_neg (fun e => c (by have := Sum.inl.inj e; omega)), flk_get F l x]
      by_cases d : x ∈ l
      · rw [if_pos d, if_pos (List.mem_cons_of_mem _ d)]
      · rw [if_neg d, if_neg fun z => (List.mem_cons.mp z).elim (fun e => c e.symm) d]
theorem flk_put {N : List Nat} {F : Nat → Int} {x : Nat} (hx : x ∈ N) (z : Int) : putK (flk N F) (Sum.inl (x : Int)) (V.int z) = flk N fun y => if y = x then z else F y := by
  unfold putK
  have a : ((flk N F).any fun kv => decide (kv.1 = Sum.inl (x : Int))) = true := by
    rw [valV_any, flk_get, if_pos hx]
    rfl
  rw [if_pos a]
  unfold flk
  rw [List.map_map]
  refine List.map_congr_left fun y _ => ?_
  show (if (Sum.inl (y : Int) : Key) = Sum.inl (x : Int) then ((Sum.inl (y : Int) : Key), V.int z) else (Sum.inl (y : Int), V.int (F y))) = (Sum.inl (y : Int), V.int (if y = x then z else F y))
  by_cases e : y = x
  · rw [if_pos (by rw [e]), if_pos e]
  · rw [if_neg (fun z => e (by have := Sum.inl.inj z; omega)), if_neg e]
theorem flk_new {N : List Nat} {x : Nat} {low : Int} (hx : x ∉ N) : putK (flk N fun _ => low) (Sum.inl (x : Int)) (V.int low) = flk (N ++ [x]) fun _ => low := by
  rw [putK_new _ (by rw [flk_get, if_neg hx])]
  unfold flk
  rw [List.map_append]
  rfl
def spRepaired : Sp := fun vs H Q _ => ∃ (v : V) (t : Tr) (a W : Addr) (ns : List Int) (ws : List Nat), vs = [v, .ref a, .ref W] ∧ TrAt H v t ∧ t.size ≤ 30 ∧ H a = some (.lst (ns.map V.int)) ∧ ns.length = t.size ∧ H W = some (.lst (ws.map natV)) ∧ ws.Nodup ∧ (∀ x, x ∈ ws → x < t.size) ∧
  ∀ (H' : Hp) (Rw : Addr) (r : List Int) (css : List (List Nat)) (ks N : List Nat) (D : Nat → Nat → Nat) (M : Bef), Same H H' → H Rw = none → H' Rw = some (.lst (r.map V.int)) → r.length = t.size → NodesW t ws N → AllL (EdW t ws) D → BefF (confOf D (valAt ns) t.size) M N → KeepF (confOf D (valAt ns) t.size) M N ks → ChOf M N css →
    (∀ x, x ∉ N → valAt r x = valAt ns x) → (∀ x, x ∈ ks → valAt r x = valAt ns x) → (∀ x y, EdW t ws x y → valAt r x + 1 ≤ valAt r y) → Q (.ref Rw) H'
section
variable {P : Program} {w : World} {K : PySem.W.Frag} {mg : Str → Option Value} {base : Heap}
theorem sc_repaired : FnScope n_repaired ["tree", "values", "wished"] (defScope s_repaired) := ⟨rfl, rfl, rfl, by decide +kernel, rfl, by decide +kernel, by decide +kernel⟩
theorem okB_repaired (B : Bl mg) (Re : DfB P w K mg base "repair" 33 ["tree", "values", "wished"] ["wished", "values", "tree"] spRepair) (Gr : Df P w K mg base "greater_nodes" 4 ["tree", "wished"] spGreater) (a : At K mg "repaired" s_repaired) : DfB P w K mg base "repaired" 34 ["tree", "values", "wished"] ["wished", "values", "tree"] spRepaired := by
  refine DfB.mk' a sc_repaired (fun vs H Q E h => ?_) (fun _ _ _ _ _ _ us hl => match us, hl with | [_, _, _], _ => rfl) (fun _ _ _ _ _ _ us hl => match us, hl with | [_, _, _], _ => rfl) (fun f cdv A outer s H vs Q E hr h => ?_)
  · obtain ⟨_, _, _, _, _, _, rfl, _⟩ := h
    rfl
  obtain ⟨v, t, av, W, ns, ws, rfl, ht, hz, ea, la, eW, nd, lt, q⟩ := h
  have lw : ws.length ≤ t.size := few_below t.size nd lt
  refine ⟨_, (pss_cons (ps_asg (pe_df Re.df hr (pa_cons (pv 0) (pa_cons (pv 1) (pa_cons (pv 2) pa_nil)))) (pg_tup rfl (pgs_cons (pg_name (i := 3) sc_repaired.nd rfl (.inl rfl)) (pgs_cons (pg_name (i := 4) sc_repaired.nd rfl (.inl rfl)) pgs_nil))))
 (pss_cons (ps_set (i := 5) sc_repaired.nd rfl (.inl rfl) (pe_df Gr (hr.mono (by decide)) (pa_cons (pv 0) (pa_cons (pv 2) pa_nil))))
 (pss_cons (ps_set (i := 6) sc_repaired.nd rfl (.inr rfl) (pe_op op_sub (pe_callBK (show CallRK _ _ _ rMinI from crk_minI rfl hr.units) (by rfl) B.min (by decide +kernel) (pa_cons (pe_lc (own := [("node", 11)]) (g := (gName 11)) (tt := tYes) (by rfl) sc_repaired.nd (pi_list (pv 3)) (blkOk_by (N := n_repaired) (sc := defScope s_repaired) (by decide +kernel)) (fun _ _ _ _ _ => (pg_name (i := 11) sc_repaired.nd rfl (.inl rfl))) (fun _ _ _ _ _ => pts_nil) (fun _ _ _ _ _ => (pe_ix (show IxR _ (rIxL K) from ix_list) (pv 1) (pv 11) (fun _ _ => rfl)))) pa_nil) (pk_cons pe_int pk_nil)) (pe_callB call_lenD (by rfl) B.len PySem.boot_len (pa_cons (pv 5) pa_nil))))
 (pss_cons (ps_setDc (i := 7) (own := [("node", 11)]) (g := (gName 11)) (tt := tYes) rfl rfl (sw_dict rfl rfl rfl (by decide +kernel)) rfl sc_repaired.nd (pi_keys (pe_lockD (pv 5))) (blkOk_by (N := n_repaired) (sc := defScope s_repaired) (by decide +kernel)) (fun _ _ _ _ _ => (pg_name (i := 11) sc_repaired.nd rfl (.inl rfl))) (fun _ _ _ _ _ => pts_nil) (fun _ _ _ _ _ => (pv 11)) (fun _ _ _ _ _ => (pv 6)))
 (pss_cons (ps_set (i := 8) sc_repaired.nd rfl (.inl rfl) (pe_callTy call_list_of (by rfl) B.list (by decide +kernel) (pa_cons (pv 1) pa_nil)))
 (pss_cons (ps_for PassesOwn.never rfl (pi_list (pe_callB (call_sortedDI rfl) (by rfl) B.sorted (by decide +kernel) (pa_cons (pv 5) pa_nil))) (pg_name (i := 9) sc_repaired.nd rfl (.inl rfl)) (C8.pss_cut (ps_if (pt_cmpR (show OpR _ (compareOp .NotIn) (rIn K true) from op_notIn_seq) (pv 9) (pv 3) (by rfl)) (pss_one (ps_asg (pe_dget (hu_of hr) (pv 7) (pv 9) (fun _ _ => rfl)) (pg_sub (pv 8) (pv 9) set_list))) pss_nil)
 (pss_one (ps_for PassesOwn.never rfl (pi_list (pe_dget (hu_of hr) (pv 5) (pv 9) (fun _ _ => rfl))) (pg_name (i := 10) sc_repaired.nd rfl (.inl rfl)) (pss_one (ps_dput (hu_of hr) (pv 7) (pv 10) (pe_callB (call_max2 rfl) (by rfl) B.max (by decide +kernel) (pa_cons (pe_dget (hu_of hr) (pv 7) (pv 10) (fun _ _ => rfl)) (pa_cons (pe_op op_add (pe_ix ix_list (pv 8) (pv 9) (fun _ _ => rfl)) pe_int) pa_nil))) (by rfl)))))))
 (pss_one (ps_ret (pv 8))))))))), ?_⟩
  refine ⟨_, rfl, _, rfl, _, rfl, v, t, av, W, ns, ws, rfl, ht, hz, ea, la, eW, nd, lt, fun H1 T Kp C as css ks N D M s1 hN aD bF eT eK kF eC pC ch nda fresh nKC fK fC fT => ?_⟩
  refine ⟨T, _, rfl, .of eT, rfl, _, _, rfl, _, [], rfl, rfl, ?_⟩
  refine ⟨_, rfl, _, rfl, v, t, W, ws, rfl, ht.same s1, hz, s1 _ _ eW, lw, lt, fun H2 G N2 s2 nG hN2 gG => ?_⟩
  obtain rfl := hN2.uniq hN
  obtain ⟨prs, eG, kG, ndA, lG⟩ := gG
  have N30 : N2.length ≤ 30 := Nat.le_trans (nodes_few hN lt) hz
  have ndN : N2.Nodup := hN.1.imp fun {a b} z => Nat.ne_of_lt z
  have ltN : ∀ x, x ∈ N2 → x < t.size := fun x hx => (List.mem_append.mp ((hN.2 x).mp hx)).elim (lt x) anc_in
  have lp : prs.length = N2.length := by rw [← kG, List.length_map]
  obtain ⟨upK, inK, freeK, _⟩ := kF.all bF hN.1 ch
  have lK : ks.length ≤ 30 := by
    have := nodup_sub (upK.imp fun {a b} z => Nat.ne_of_lt z) inK
    omega
  have eK2 := s2 _ _ eK
  have s02 := s1.trans s2
  have fG : H G = none := s1.free nG
  have nKG : Kp ≠ G := ne_of_none eK nG
  -- the least kept value
  refine ⟨_, rfl, Kp, rfl, ⟨_, .of eK2⟩, fun L1 hL1 => ?_⟩
  refine lc_it (walk_list (K := K) (a := Kp) (xs := ks.map natV)) (fun i H' => Same H2 H' ∧ H' L1 = some (.lst (((ks.take i).map (valAt ns)).map V.int))) ⟨Same.new hL1, upd_same⟩ (fun i H' _ h' => .of (h'.1 _ _ eK2)) (fun i x H3 H4 hi h3 hy => ?_) (fun H3 h3 => ?_)
  · obtain ⟨s3, e3⟩ := h3
    obtain ⟨rfl, hx⟩ := hy
    rw [List.getElem?_map] at hx
    obtain ⟨c, hc, rfl⟩ := Option.map_eq_some_iff.mp hx
    have ck := ltN c (inK c (List.mem_of_getElem? hc))
    refine ⟨rfl, ?_⟩
    refine ⟨_, rfl, _, rfl, av, _, _, _, rfl, rfl, .of (s3 _ _ (s02 _ _ ea)), atI_nat (valAt_get (by omega)), _, e3, ?_, fun b u eb => ?_, ?_⟩
    · rw [List.length_map, List.length_map, List.length_take]
      exact small1000 (by omega)
    · rw [upd_ne (ne_of_none eb hL1)]
      exact s3 _ _ eb
    · rw [upd_same, List.take_add_one, hc, List.map_append, List.map_append]
      rfl
  obtain ⟨s3, e3⟩ := h3
  rw [List.length_map, List.take_length] at e3
  have eG3 := s3 _ _ eG
  refine ⟨L1, _, 0, rfl, rfl, e3, fun m hm => ?_⟩
  have mle : ∀ x, x ∈ ks → m ≤ valAt ns x := fun x hx => by
    rcases hm with ⟨h, _⟩ | ⟨_, h⟩
    · rw [List.map_eq_nil_iff.mp h] at hx
      cases hx
    · exact h _ (List.mem_map.mpr ⟨x, hx, rfl⟩)
  refine ⟨_, rfl, G, kvN prs, rfl, eG3, _, _, rfl, rfl, ?_⟩
  have lkv : (kvN prs).length = N2.length := by
    unfold kvN
    rw [List.length_map, lp]
  rw [lkv]
  have lowk : ∀ x, x ∈ ks → (m - (N2.length : Int)) + (N2.length : Int) ≤ valAt ns x := fun x hx => by
    have := mle x hx
    omega
  obtain ⟨low, elow⟩ : ∃ low : Int, m - ((N2.length : Nat) : Int) = low := ⟨_, rfl⟩
  rw [show (fun i j => V.int (i - j)) m ((N2.length : Nat) : Int) = V.int low from congrArg V.int elow]
  rw [elow] at lowk
  clear hm mle elow
  -- the floors
  refine ⟨_, rfl, G, kvN prs, rfl, eG3, fun o => ⟨G, o, rfl, .inl ⟨kvN prs, upd_same, fun Fl hFl => ?_⟩⟩⟩
  have s03 : Same H (upd H3 G (.frz o (.dK (kvN prs)))) := fun b u eb => by
    rw [upd_ne (ne_of_none eb fG)]
    exact s3 _ _ (s02 _ _ eb)
  have eG4 : (upd H3 G (.frz o (.dK (kvN prs)))) G = some (.frz o (.dK (kvN prs))) := upd_same
  have eK4 : (upd H3 G (.frz o (.dK (kvN prs)))) Kp = some (.lst (ks.map natV)) := by
    rw [upd_ne nKG]
    exact s3 _ _ eK2
  have lG4 : ∀ q, q ∈ prs → (upd H3 G (.frz o (.dK (kvN prs)))) q.2 = some (.lst ((grE (edgesW t ws) q.1).map natV)) := fun q hq => by
    have e := s3 _ _ (lG q hq)
    rw [upd_ne fun z => by rw [z, eG3] at e; cases e]
    exact e
  generalize upd H3 G (.frz o (.dK (kvN prs))) = H4 at s03 eG4 eK4 lG4 hFl ⊢
  clear s3 e3 eG3 eK2 eG lG eK s2 s02 hL1
  refine dc_it (g := gName 11) (tt := tYes) (tk := tVar 11) (tv := tVar 6) (vs := [11]) (σ := [some v, some (.ref av), some (.ref W), some (.ref Kp), some (.ref C), some (.ref G), some (.int low), none, none, none, none, none]) (walk_keys (d := G) (o := o) (kvs := kvN prs)) (fun i H' => Same H4 H' ∧ H' Fl = some (.dK (flk (N2.take i) fun _ => low))) ⟨Same.new hFl, upd_same⟩ (fun i H' _ h' => h'.1 _ _ eG4) (fun i x H5 H6 hi h5 hy => ?_) (fun H5 h5 => ?_)
  · obtain ⟨s5, e5⟩ := h5
    obtain ⟨rfl, kk, vv, hk, rfl⟩ := hy
    rw [lkv] at hi
    obtain ⟨⟨c, cv⟩, hb⟩ : ∃ z, prs[i]? = some z := ⟨_, List.getElem?_eq_getElem (by omega)⟩
    have hkv : (kvN prs)[i]? = some (Sum.inl (c : Int), V.ref cv) := by
      unfold kvN
      rw [List.getElem?_map, hb]
      rfl
    rw [hkv] at hk
    obtain rfl : Sum.inl (c : Int) = kk := (Prod.mk.inj (Option.some.inj hk)).1
    have hN1 : N2[i]? = some c := by rw [← kG, List.getElem?_map, hb]; rfl
    have cout : c ∉ N2.take i := take_new ndN hN1
    refine ⟨rfl, yes_lcA ?_⟩
    refine ⟨_, rfl, _, rfl, _, Sum.inl (c : Int), rfl, e5, ?_, fun b u eb => ?_, ?_⟩
    · unfold flk
      rw [List.length_map, List.length_take]
      exact small1000 (by omega)
    · rw [upd_ne (ne_of_none eb hFl)]
      exact s5 _ _ eb
    · rw [upd_same, List.take_add_one, hN1]
      exact congrArg (fun z => some (HO.dK z)) (flk_new cout)
  obtain ⟨s5, eF5⟩ := h5
  rw [lkv, List.take_length] at eF5
  have s05 := s03.trans s5
  have fFl : H Fl = none := s03.free hFl
  refine ⟨_, rfl, av, _, rfl, .inl (.of (s05 _ _ ea)), fun Rw hRw => ?_⟩
  have sR := Same.new (o := .lst (ns.map V.int)) hRw
  have eR6 : (upd H5 Rw (.lst (ns.map V.int))) Rw = some (.lst (ns.map V.int)) := upd_same
  have fRw : H Rw = none := s05.free hRw
  have nFR : Fl ≠ Rw := ne_of_none eF5 hRw
  have eF6 := sR _ _ eF5
  have s06 := s05.trans sR
  have eG6 := sR _ _ (s5 _ _ eG4)
  have eK6 := sR _ _ (s5 _ _ eK4)
  have lG6 := fun q hq => sR _ _ (s5 _ _ (lG4 q hq))
  have nKR : Kp ∉ [Fl, Rw] := no2 (fun z => by rw [z] at eK4; rw [eK4] at hFl; cases hFl) (fun z => by have := s5 _ _ eK4; rw [z, hRw] at this; cases this)
  have nGR : G ∉ [Fl, Rw] := no2 (fun z => by rw [z] at eG4; rw [eG4] at hFl; cases hFl) (fun z => by have := s5 _ _ eG4; rw [z, hRw] at this; cases this)
  have nLR : ∀ q, q ∈ prs → q.2 ∉ [Fl, Rw] := fun q hq => no2 (fun z => by have := lG4 q hq; rw [z, hFl] at this; cases this) (fun z => by have := s5 _ _ (lG4 q hq); rw [z, hRw] at this; cases this)
  generalize upd H5 Rw (.lst (ns.map V.int)) = H6 at eR6 eF6 s06 eG6 eK6 lG6 ⊢
  clear eG4 eK4 lG4 eF5 s5 s05 s03 sR
  refine ⟨_, rfl, G, kvN prs, prs.map (fun q => (q.1 : Int)), rfl, .inr ⟨o, eG6⟩, kvN_keys prs, ?_, fun ys S perm up2 hS => ?_⟩
  · rw [List.length_map]
    omega
  obtain rfl := sorted_rows (List.Perm.refl N2) hN.1 (by rw [← kG, List.map_map]; exact perm) up2
  have sS := Same.new (o := .lst ((N2.map Int.ofNat).map V.int)) hS
  have eS : (upd H6 S (.lst ((N2.map Int.ofNat).map V.int))) S = some (.lst (N2.map natV)) := by
    rw [upd_same, List.map_map]
    rfl
  have nSR : S ∉ [Fl, Rw] := no2 (fun z => by rw [z, eF6] at hS; cases hS) (fun z => by rw [z, eR6] at hS; cases hS)
  have eR7 := sS _ _ eR6
  have eF7 := sS _ _ eF6
  have eG7 := sS _ _ eG6
  have eK7 := sS _ _ eK6
  have lG7 := fun q hq => sS _ _ (lG6 q hq)
  have s07 := s06.trans sS
  generalize upd H6 S (.lst ((N2.map Int.ofNat).map V.int)) = H7 at eS eR7 eF7 eG7 eK7 lG7 s07 ⊢
  clear eR6 eF6 eG6 eK6 lG6 s06 sS
  have start : RepI (EdW t ws) D (valAt ns) ks low N2 (N2.take 0) (valAt ns) (fun _ => low) 0 := ⟨fun _ _ => rfl, fun _ h => (nomatch h), fun _ _ h => (nomatch h), fun _ _ h => (nomatch h), fun y _ => .inr (by omega), fun _ h => nomatch h⟩
  refine ⟨S, rfl, ⟨_, .of eS⟩, ?_⟩
  refine for_it (walk_list (K := K) (a := S) (xs := N2.map natV)) (fun i σ H' => (∃ y9 y10 : Option V, σ = [some v, some (.ref av), some (.ref W), some (.ref Kp), some (.ref C), some (.ref G), some (.int low), some (.ref Fl), some (.ref Rw), y9, y10, none]) ∧ Stay [Fl, Rw] H7 H' ∧ ∃ (rl : List Int) (F : Nat → Int), H' Fl = some (.dK (flk N2 F)) ∧ H' Rw = some (.lst (rl.map V.int)) ∧ rl.length = t.size ∧ RepI (EdW t ws) D (valAt ns) ks low N2 (N2.take i) (valAt rl) F i) ⟨⟨_, _, rfl⟩, .refl _ _, ns, _, eF7, eR7, la, start⟩ (fun i σ H' _ h' => .of (h'.2.1 _ _ nSR eS)) (fun i x σ H8 H9 hi h8 hy => ?_) (fun σ H8 h8 => ?_)
  · obtain ⟨⟨y9, y10, rfl⟩, s8, rl, F, eF8, eR8, lrl, inv⟩ := h8
    obtain ⟨rfl, hx⟩ := hy
    rw [List.getElem?_map] at hx
    obtain ⟨c, hc, rfl⟩ := Option.map_eq_some_iff.mp hx
    clear hx
    have cN := List.mem_of_getElem? hc
    have cs := ltN c cN
    have iN : i < N2.length := (List.getElem?_eq_some_iff.mp hc).1
    have et : N2.take (i + 1) = N2.take i ++ [c] := by rw [List.take_add_one, hc]; rfl
    have cout : c ∉ N2.take i := take_new ndN hc
    have eK8 := s8 _ _ nKR eK7
    refine ⟨fun σ H' => (∃ y10 : Option V, σ = [some v, some (.ref av), some (.ref W), some (.ref Kp), some (.ref C), some (.ref G), some (.int low), some (.ref Fl), some (.ref Rw), some (natV c), y10, none]) ∧ Stay [Fl, Rw] H7 H' ∧ H' Fl = some (.dK (flk N2 F)) ∧ ∃ rl' : List Int, H' Rw = some (.lst (rl'.map V.int)) ∧ rl'.length = t.size ∧ (∀ x, x ≠ c → valAt rl' x = valAt rl x) ∧ (c ∈ ks → valAt rl' c = valAt ns c) ∧ (c ∉ ks → valAt rl' c = F c), ?_, fun σ H10 h10 => ?_⟩
    · refine ⟨_, rfl, _, rfl, Kp, _, rfl, .inl (.of eK8), rfl, flat_nats _, _, rfl, ?_⟩
      rw [show (if true = true then !inV (natV c) (ks.map natV) else inV (natV c) (ks.map natV)) = !decide (c ∈ ks) from congrArg (!·) (inV_nat c _)]
      by_cases ck : c ∈ ks
      · rw [decide_eq_true ck]
        exact iteF ⟨⟨_, rfl⟩, s8, eF8, rl, eR8, lrl, fun _ _ => rfl, fun _ => inv.out c cout, fun h => absurd ck h⟩
      · rw [decide_eq_false ck]
        refine iteT ?_
        refine ⟨_, rfl, _, rfl, Fl, _, rfl, .inl ⟨flk N2 F, Sum.inl (c : Int), .inl eF8, rfl, by rw [flk_get, if_pos cN]⟩, _, rfl, _, rfl, Rw, _, (c : Int), c, rfl, rfl, eR8, ?_, ?_⟩
        · unfold ixN
          rw [List.length_map, if_pos (Int.natCast_nonneg c), if_pos (by omega)]
          rfl
        · refine ⟨⟨_, rfl⟩, s8.put in2r, ?_, rl.set c (F c), ?_, by rw [List.length_set]; exact lrl, fun x hx => by rw [valAt_setW, if_neg fun z => hx z.1], fun h => absurd h ck, fun _ => by rw [valAt_setW, if_pos ⟨rfl, by omega⟩]⟩
          · rw [upd_ne nFR]
            exact eF8
          · rw [upd_same, List.map_set]
    clear eR8 eF8 s8 eK8
    obtain ⟨⟨y10, rfl⟩, s8, eF8, rl', eR8, lrl', same, kept, flo⟩ := h10
    obtain ⟨ad, had, vad⟩ := kvN_get (prs := prs) (x := c) (by rw [kG]; exact cN)
    have ead := s8 _ _ (nLR _ had) (lG7 _ had)
    have eG8 := s8 _ _ nGR eG7
    refine ⟨_, rfl, _, rfl, G, _, rfl, .inl ⟨kvN prs, Sum.inl (c : Int), .inr ⟨o, eG8⟩, rfl, vad.symm⟩, ?_⟩
    refine ⟨ad, rfl, ⟨_, .of ead⟩, ?_⟩
    have lessC : ∀ x, x ∈ N2.take i → x < c := fun x hx => by
      obtain ⟨j, hj, ej⟩ := List.getElem_of_mem hx
      rw [List.length_take] at hj
      rw [List.getElem_take] at ej
      have hi2 := List.getElem?_eq_some_iff.mp hc
      obtain ⟨h1, h2⟩ := hi2
      have := (List.pairwise_iff_getElem.mp hN.1) j i (by omega) h1 (by omega)
      rw [ej, h2] at this
      exact this
    have upE := edge_up lt
    have dE : ∀ {x y}, EdW t ws x y → D x y ≠ 0 := fun {x y} e => by
      have := (aD x).2 y 1 (.one e)
      omega
    have bC : BndV D (valAt ns) ks low c i (valAt rl' c) := by
      by_cases ck : c ∈ ks
      · rw [kept ck]
        exact .inl ⟨c, ck, .inl ⟨rfl, Int.le_refl _⟩⟩
      · rw [flo ck]
        exact inv.bF c cN
    have toC : ∀ x, x ∈ N2.take i → EdW t ws x c → valAt rl x + 1 ≤ valAt rl' c := fun x hx e => by
      by_cases ck : c ∈ ks
      · rw [kept ck]
        obtain ⟨j, hj, b⟩ := inv.bR x hx
        by_cases g : valAt rl x + 1 ≤ valAt ns c
        · exact g
        · obtain ⟨k, hk, d, l⟩ := bnd_fail aD b (dE e) (show j < N2.length by omega) (by omega) (lowk c ck)
          exact absurd (confOf_mem.mpr ⟨cs, d, l⟩) (freeK k hk c ck)
      · rw [flo ck]
        exact inv.fl x c hx cN e
    refine for_it (walk_list (K := K) (a := ad) (xs := (grE (edgesW t ws) c).map natV)) (fun j σ H' => (∃ y10 : Option V, σ = [some v, some (.ref av), some (.ref W), some (.ref Kp), some (.ref C), some (.ref G), some (.int low), some (.ref Fl), some (.ref Rw), some (natV c), y10, none]) ∧ Stay [Fl, Rw] H7 H' ∧ H' Rw = some (.lst (rl'.map V.int)) ∧ ∃ G2 : Nat → Int, H' Fl = some (.dK (flk N2 G2)) ∧ (∀ y, F y ≤ G2 y) ∧ (∀ y, y ∈ (grE (edgesW t ws) c).take j → valAt rl' c + 1 ≤ G2 y) ∧ ∀ y, y ∈ N2 → BndV D (valAt ns) ks low y (i + 1) (G2 y)) ⟨⟨_, rfl⟩, s8, eR8, F, eF8, fun _ => Int.le_refl _, fun _ h => (nomatch h), fun y hy => (inv.bF y hy).mono (by omega)⟩ (fun j σ H' _ h' => .of (h'.2.1 _ _ (nLR _ had) (lG7 _ had))) (fun j x σ H11 H12 hj h11 hy => ?_) (fun σ H11 h11 => ?_)
    · obtain ⟨⟨y10, rfl⟩, s11, eR11, G2, eF11, ge, done, bG⟩ := h11
      obtain ⟨rfl, hx⟩ := hy
      rw [List.getElem?_map] at hx
      obtain ⟨y, hy, rfl⟩ := Option.map_eq_some_iff.mp hx
      have ecy : EdW t ws c y := grE_mem.mp (List.mem_of_getElem? hy)
      have yN : y ∈ N2 := (hN.2 y).mpr (edge_in ecy).2
      refine ⟨_, rfl, _, rfl, Fl, _, rfl, .inl ⟨flk N2 G2, Sum.inl (y : Int), .inl eF11, rfl, by rw [flk_get, if_pos yN]⟩, ?_⟩
      refine ⟨_, rfl, _, rfl, Rw, _, _, _, rfl, rfl, .of eR11, atI_nat (valAt_get (by omega)), _, _, rfl, rfl, _, _, rfl, ?_⟩
      refine ⟨_, rfl, _, rfl, Fl, _, rfl, DPut.k (k := Sum.inl (y : Int)) eF11 ?_, ?_⟩
      · unfold flk
        rw [List.length_map]
        exact small1000 (by omega)
      rw [flk_put yN]
      refine ⟨⟨_, rfl⟩, s11.put in2l, ?_, _, upd_same, fun z => ?_, fun z hz => ?_, fun z hz => ?_⟩
      · rw [upd_ne nFR.symm]
        exact eR11
      · show F z ≤ if z = y then _ else G2 z
        by_cases e : z = y
        · rw [if_pos e, e]
          have := ge y
          split <;> omega
        · rw [if_neg e]
          exact ge z
      · show _ ≤ if z = y then _ else G2 z
        rw [List.take_add_one, hy] at hz
        by_cases e : z = y
        · rw [if_pos e]
          split <;> omega
        · rw [if_neg e]
          rcases List.mem_append.mp hz with hz | hz
          · exact done z hz
          · exact absurd (List.mem_singleton.mp hz) e
      · show BndV D (valAt ns) ks low z (i + 1) (if z = y then _ else G2 z)
        by_cases e : z = y
        · rw [if_pos e, e]
          exact (bG y yN).max (bnd_step aD bC (dE ecy) (Nat.lt_succ_self i))
        · rw [if_neg e]
          exact bG z hz
    · obtain ⟨⟨y10, rfl⟩, s11, eR11, G2, eF11, ge, done, bG⟩ := h11
      rw [List.length_map, List.take_length] at done
      refine ⟨⟨_, _, rfl⟩, s11, rl', G2, eF11, eR11, lrl', ?_⟩
      have old : ∀ x, x ∈ N2.take i → valAt rl' x = valAt rl x := fun x hx => same x fun z => cout (by rw [← z]; exact hx)
      refine ⟨fun x hx => ?_, fun x hx hk => ?_, fun x y hx hy e => ?_, fun x y hx hy e => ?_, bG, fun x hx => ?_⟩
      · rw [et, List.mem_append, List.mem_singleton] at hx
        rw [same x fun z => hx (.inr z)]
        exact inv.out x fun z => hx (.inl z)
      · rw [et, List.mem_append, List.mem_singleton] at hx
        rcases hx with hx | rfl
        · rw [old x hx]
          exact inv.kept x hx hk
        · exact kept hk
      · rw [et, List.mem_append, List.mem_singleton] at hx hy
        rcases hx with hx | rfl
        · rw [old x hx]
          rcases hy with hy | rfl
          · rw [old y hy]
            exact inv.up x y hx hy e
          · exact toC x hx e
        · have l1 := upE _ _ e
          rcases hy with hy | rfl
          · have := lessC y hy
            omega
          · omega
      · rw [et, List.mem_append, List.mem_singleton] at hx
        rcases hx with hx | rfl
        · rw [old x hx]
          exact Int.le_trans (inv.fl x y hx hy e) (ge y)
        · exact done y (grE_mem.mpr e)
      · rw [et, List.mem_append, List.mem_singleton] at hx
        rcases hx with hx | rfl
        · rw [old x hx]
          obtain ⟨j, hj, b⟩ := inv.bR x hx
          exact ⟨j, by omega, b⟩
        · exact ⟨i, Nat.lt_succ_self i, bC⟩
  · obtain ⟨⟨y9, y10, rfl⟩, s8, rl, F, eF8, eR8, lrl, inv⟩ := h8
    rw [List.length_map, List.take_length] at inv
    refine ⟨_, rfl, q H8 Rw rl css ks N2 D M (Stay.same s07 (fun x hx => ?_) s8) fRw eR8 lrl hN aD bF kF ch inv.out (fun x hx => inv.kept x (inK x hx) hx) fun x y e => inv.up x y ?_ ?_ e⟩
    · rcases List.mem_cons.mp hx with rfl | hx
      · exact fFl
      · rw [List.mem_singleton.mp hx]
        exact fRw
    · exact (hN.2 x).mpr (edge_in e).1
    · exact (hN.2 y).mpr (edge_in e).2
end
end HSP
namespace HSP
open PySem PySem.Spec PyProof.Rows L2
section
variable {P : Program} {w : World} {K : PySem.W.Frag} {mg : Str → Option Value} {base : Heap}
/-! ### found_of, found -/
theorem sc_foundOf : FnScope n_found_of ["tree", "values"] (defScope s_found_of) := ⟨rfl, rfl, rfl, by decide +kernel, rfl, by decide +kernel, by decide +kernel⟩
def spFound : Sp := fun vs H Q _ => ∃ (v : V) (t : Tr) (a : Addr) (ns : List Int), vs = [v, .ref a] ∧ TrAt H v t ∧ t.size ≤ 300 ∧ H a = some (.lst (ns.map V.int)) ∧ ns.length = t.size ∧ ∀ (H' : Hp) (q : Addr), Same H H' → H q = none → H' q = some (.lst ((foundOf (valAt ns) t t.size).map natV)) → Q (.ref q) H'
theorem ok_foundOf (B : Bl mg) (L : Df P w K mg base "labels_of" 4 ["tree", "values"] spLabels) (a : At K mg "found_of" s_found_of) : Df P w K mg base "found_of" 5 ["tree", "values"] spFound := by
  refine Df.mk' a sc_foundOf (fun vs H Q E h => ?_) (fun _ _ _ _ _ _ us hl => match us, hl with | [_, _], _ => rfl) (fun f cdv A outer s H vs Q E hr h => ?_)
  · obtain ⟨v, t, a, ns, rfl, _⟩ := h
    rfl
  obtain ⟨v, t, a, ns, rfl, ht, hz, ha, hn, q⟩ := h
  refine ⟨_, (pss_one (ps_ret (pe_lc (own := [("node", 2), ("label", 3)]) (g := (gTup K 2 (gCons (gName 2) (gCons (gName 3) gNil)))) (by rfl) sc_foundOf.nd (pi_enum (by rfl) B.enumerate (pa_cons (pe_df L hr (pa_cons (pv 0) (pa_cons (pv 1) pa_nil))) pa_nil)) (blkOk_by (N := n_found_of) (sc := defScope s_found_of) (by decide +kernel)) (fun _ _ _ _ _ => (pg_tup rfl (pgs_cons (pg_name (i := 2) sc_foundOf.nd rfl (.inl rfl)) (pgs_cons (pg_name (i := 3) sc_foundOf.nd rfl (.inl rfl)) pgs_nil)))) (fun _ _ _ _ _ => (pts_one (pt_cmpR op_eq (pv 3) pe_str (nomark _)))) (fun _ _ _ _ _ => (pv 2))))), ?_⟩
  refine ⟨v, rfl, _, rfl, v, t, a, ns, rfl, ht, hz, ha, hn, fun H1 q0 s1 _ e1 => ⟨q0, _, rfl, .of e1, fun D hD => ?_⟩⟩
  refine lc_it (walk_enum (K := K) (a := q0) (xs := labsV (valAt ns) t t.size)) (fun i H' => Same H1 H' ∧ H' D = some (.lst ((foundOf (valAt ns) t i).map natV))) ⟨Same.new hD, upd_same⟩ (fun i H3 _ h3 => .of (h3.1 _ _ e1)) (fun i x H3 H4 hi h3 hy => ?_) (fun H3 h3 => ?_)
  · obtain ⟨s3, e3⟩ := h3
    obtain ⟨T, x1, x2, rfl, nT, rfl, g1, g2⟩ := hy
    rw [labsV_len] at hi
    have w2 : (labsV (valAt ns) t t.size)[i]? = some (V.str (labAt (valAt ns) t i).str) := by
      unfold labsV
      rw [List.getElem?_map, List.getElem?_range hi]
      rfl
    cases (show some (V.int ((i : Nat) : Int)) = some x1 from g1)
    cases w2.symm.trans g2
    have sT := Same.new (o := .tup [V.int ((i : Nat) : Int), V.str (labAt (valAt ns) t i).str]) nT
    refine ⟨T, _, rfl, .of upd_same, rfl, _, _, rfl, _, [], rfl, rfl, rfl, ?_⟩
    rw [foundOf_more]
    have go : ∀ l : Lb, l ≠ .found → ¬ (V.str l.str = V.str "found") := fun l hl => by
      cases l
      · decide +kernel
      · exact absurd rfl hl
      · decide +kernel
      · decide +kernel
    by_cases c : labAt (valAt ns) t i = .found
    · rw [c] at sT ⊢
      refine ⟨_, rfl, rfl, _, rfl, ite_yes rfl ?_⟩
      refine ⟨_, rfl, _, sT _ _ e3, ?_, fun b o e => ?_, ?_⟩
      · rw [List.length_map]
        have := foundOf_len (valAt ns) t i
        exact small1000 (by omega)
      · rw [upd_ne (ne_of_none e hD)]
        exact sT _ _ (s3 _ _ e)
      · rw [upd_same, List.map_append]
        rfl
    · refine ⟨_, rfl, rfl, _, rfl, ite_no (go _ c) ⟨fun b o e => sT _ _ (s3 _ _ e), ?_⟩⟩
      rw [beq_eq_false_iff_ne.mpr c, if_neg Bool.false_ne_true, List.append_nil]
      exact sT _ _ e3
  · obtain ⟨s3, e3⟩ := h3
    rw [labsV_len] at e3
    exact q H3 D (s1.trans s3) (s1.free hD) e3
end
end HSP
namespace HSP
open PySem PySem.Spec PyProof.Rows L2
/-! ## the new values: all wished are found, and what differs -/
theorem low_lt {g : Nat → Int} {x : Int} : ∀ {p : List (Nat × Bool)}, (∀ z, z ∈ p → z.2 = true → g z.1 < x) → ∀ l, lowOf g p = some l → l < x
  | [], _, l, h => nomatch h
  | (n, false) :: r, h, l, e => low_lt (p := r) (fun z hz => h z (List.mem_cons_of_mem _ hz)) l e
  | (n, true) :: r, h, l, e => by
    have ih := low_lt (p := r) fun z hz => h z (List.mem_cons_of_mem _ hz)
    have hn : g n < x := h (n, true) List.mem_cons_self rfl
    have el : lowOf g ((n, true) :: r) = match lowOf g r with | none => some (g n) | some m => some (max (g n) m) := rfl
    rw [el] at e
    cases c : lowOf g r with
    | none =>
      rw [c] at e
      have := Option.some.inj e
      omega
    | some m =>
      rw [c] at e
      have h1 := ih m c
      have := Option.some.inj e
      omega
theorem high_gt {g : Nat → Int} {x : Int} : ∀ {p : List (Nat × Bool)}, (∀ z, z ∈ p → z.2 = false → x < g z.1) → ∀ l, highOf g p = some l → x < l
  | [], _, l, h => nomatch h
  | (n, true) :: r, h, l, e => high_gt (p := r) (fun z hz => h z (List.mem_cons_of_mem _ hz)) l e
  | (n, false) :: r, h, l, e => by
    have ih := high_gt (p := r) fun z hz => h z (List.mem_cons_of_mem _ hz)
    have hn : x < g n := h (n, false) List.mem_cons_self rfl
    have el : highOf g ((n, false) :: r) = match highOf g r with | none => some (g n) | some m => some (min (g n) m) := rfl
    rw [el] at e
    cases c : highOf g r with
    | none =>
      rw [c] at e
      have := Option.some.inj e
      omega
    | some m =>
      rw [c] at e
      have h1 := ih m c
      have := Option.some.inj e
      omega
theorem lab_found {g : Nat → Int} {x : Int} {p : List (Nat × Bool)} (hl : ∀ z, z ∈ p → z.2 = true → g z.1 < x) (hh : ∀ z, z ∈ p → z.2 = false → x < g z.1) : lbOf (bndOf g p) x = .found := by
  have h1 := low_lt hl
  have h2 := high_gt hh
  unfold bndOf
  cases cl : lowOf g p with
  | none =>
    cases ch : highOf g p with
    | none => rfl
    | some b =>
      have := h2 b ch
      show (if x ≥ b then Lb.high else .found) = .found
      rw [if_neg (by omega)]
  | some a =>
    have la := h1 a cl
    cases ch : highOf g p with
    | none =>
      show (if x ≤ a then Lb.low else .found) = .found
      rw [if_neg (by omega)]
    | some b =>
      have lb := h2 b ch
      show lbOf (if a ≥ b then none else some (some a, some b)) x = .found
      rw [if_neg (by omega)]
      show (if x ≤ a then Lb.low else if x ≥ b then .high else .found) = .found
      rw [if_neg (by omega), if_neg (by omega)]
theorem wished_found {t : Tr} {ws : List Nat} {g : Nat → Int} (up : ∀ a b, EdW t ws a b → g a + 1 ≤ g b) {w : Nat} (hw : w ∈ ws) : labAt g t w = .found := by
  have ed : ∀ z, z ∈ pOf t 0 w → EdW t ws (if z.2 = true then z.1 else w) (if z.2 = true then w else z.1) := fun z hz => by
    refine List.mem_flatMap.mpr ⟨w, hw, List.mem_map.mpr ⟨z, hz, ?_⟩⟩
    cases z.2 <;> rfl
  refine lab_found (fun z hz h => ?_) (fun z hz h => ?_)
  · have := up _ _ (ed z hz)
    rw [if_pos h, if_pos h] at this
    omega
  · have := up _ _ (ed z hz)
    rw [if_neg (by rw [h]; exact Bool.false_ne_true), if_neg (by rw [h]; exact Bool.false_ne_true)] at this
    omega
section
variable {t : Tr} {ws N ks : List Nat} {D : Nat → Nat → Nat} {M : Bef} {css : List (List Nat)} {v r : Nat → Int}
/-- as many are kept as there are chains, and no more could be -/
theorem most_kept (aD : AllL (EdW t ws) D) (hN : NodesW t ws N) (bF : BefF (confOf D v t.size) M N) (kF : KeepF (confOf D v t.size) M N ks) (ch : ChOf M N css) : ks.length = css.length ∧ ∀ F : List Nat, F.Nodup → (∀ x, x ∈ F → x ∈ N) → (∀ a, a ∈ F → ∀ b, b ∈ F → b ∉ confOf D v t.size a) → F.length ≤ ks.length := by
  obtain ⟨upK, inK, freeK, ge⟩ := kF.all bF hN.1 ch
  have le := ch.free bF (conf_trans aD) (upK.imp fun {a b} z => Nat.ne_of_lt z) inK freeK
  exact ⟨by omega, fun F nd inF fr => by have := ch.free bF (conf_trans aD) nd inF fr; omega⟩
theorem changed_len (lt : ∀ x, x ∈ ws → x < t.size) (aD : AllL (EdW t ws) D) (hN : NodesW t ws N) (bF : BefF (confOf D v t.size) M N) (kF : KeepF (confOf D v t.size) M N ks) (ch : ChOf M N css) (out : ∀ x, x ∉ N → r x = v x) (kept : ∀ x, x ∈ ks → r x = v x) (up : ∀ a b, EdW t ws a b → r a + 1 ≤ r b) :
    ((List.range t.size).filter fun x => !decide (r x = v x)).length + ks.length = N.length := by
  obtain ⟨upK, inK, freeK, ge⟩ := kF.all bF hN.1 ch
  have ndK : ks.Nodup := upK.imp fun {a b} z => Nat.ne_of_lt z
  have ndN : N.Nodup := hN.1.imp fun {a b} z => Nat.ne_of_lt z
  have ltN : ∀ x, x ∈ N → x < t.size := fun x hx => (List.mem_append.mp ((hN.2 x).mp hx)).elim (lt x) anc_in
  have differ : ∀ x, x ∈ N → x ∉ ks → r x ≠ v x := fun x hx nk e => by
    have kw := keeps_of_fill (v := v) (w := r) (kept := x :: ks) aD up fun a ha => by
      rcases List.mem_cons.mp ha with rfl | ha
      · exact e
      · exact kept a ha
    have := (most_kept aD hN bF kF ch).2 (x :: ks) (List.nodup_cons.mpr ⟨nk, ndK⟩) (fun y hy => by
      rcases List.mem_cons.mp hy with rfl | hy
      · exact hx
      · exact inK y hy) fun a ha b hb h => by
        obtain ⟨_, d, l⟩ := confOf_mem.mp h
        have := kw a ha b hb d
        omega
    rw [List.length_cons] at this
    omega
  have p1 : ((List.range t.size).filter fun x => !decide (r x = v x)).Perm (N.filter fun x => !decide (x ∈ ks)) := by
    refine (List.perm_ext_iff_of_nodup (List.nodup_range.filter _) (ndN.filter _)).mpr fun x => ?_
    rw [List.mem_filter, List.mem_filter]
    constructor
    · rintro ⟨_, h⟩
      have ne : r x ≠ v x := fun z => by rw [decide_eq_true z] at h; cases h
      have hx : x ∈ N := Classical.byContradiction fun z => ne (out x z)
      refine ⟨hx, ?_⟩
      rw [decide_eq_false fun z => ne (kept x z)]
      rfl
    · rintro ⟨hx, h⟩
      have nk : x ∉ ks := fun z => by rw [decide_eq_true z] at h; cases h
      refine ⟨List.mem_range.mpr (ltN x hx), ?_⟩
      rw [decide_eq_false (differ x hx nk)]
      rfl
  have p2 : (N.filter fun x => decide (x ∈ ks)).Perm ks := by
    refine (List.perm_ext_iff_of_nodup (ndN.filter _) ndK).mpr fun x => ?_
    rw [List.mem_filter, decide_eq_true_iff]
    exact ⟨fun h => h.2, fun h => ⟨inK x h, h⟩⟩
  have l := len_split N fun x => decide (x ∈ ks)
  rw [p1.length_eq, ← p2.length_eq]
  omega
end
/-! ## where all are wished -/
theorem next_path : ∀ (t : Tr) (f i : Nat), f ≤ i → i + 1 < f + t.size → (i, true) ∈ pOf t f (i + 1) ∨ (i + 1, false) ∈ pOf t f i
  | .nil, f, i, h1, h2 => by
    have : Tr.nil.size = 0 := rfl
    omega
  | .nod l r, f, i, h1, h2 => by
    have hs : (Tr.nod l r).size = l.size + 1 + r.size := rfl
    have e : ∀ j, pOf (.nod l r) f j = if j = f + l.size then [] else if j < f + l.size then (f + l.size, false) :: pOf l f j else (f + l.size, true) :: pOf r (f + l.size + 1) j := fun _ => rfl
    rw [e, e]
    by_cases c : i = f + l.size
    · refine .inl ?_
      rw [if_neg (by omega), if_neg (by omega), ← c]
      exact List.mem_cons_self
    · by_cases d : i + 1 = f + l.size
      · refine .inr ?_
        rw [if_neg c, if_pos (by omega), ← d]
        exact List.mem_cons_self
      · by_cases g : i < f + l.size
        · rw [if_neg d, if_pos (by omega), if_neg c, if_pos g]
          exact (next_path l f i h1 (by omega)).imp (List.mem_cons_of_mem _) (List.mem_cons_of_mem _)
        · rw [if_neg d, if_neg (by omega), if_neg c, if_neg g]
          exact (next_path r (f + l.size + 1) i (by omega) (by omega)).imp (List.mem_cons_of_mem _) (List.mem_cons_of_mem _)
theorem next_edge {t : Tr} {ws : List Nat} (all : ∀ x, x < t.size → x ∈ ws) {i : Nat} (h : i + 1 < t.size) : EdW t ws i (i + 1) := by
  rcases next_path t 0 i (Nat.zero_le _) (by omega) with p | p
  · exact List.mem_flatMap.mpr ⟨i + 1, all _ h, List.mem_map.mpr ⟨_, p, rfl⟩⟩
  · exact List.mem_flatMap.mpr ⟨i, all _ (by omega), List.mem_map.mpr ⟨_, p, rfl⟩⟩
theorem all_dist {t : Tr} {ws : List Nat} {D : Nat → Nat → Nat} (lt : ∀ x, x ∈ ws → x < t.size) (all : ∀ x, x < t.size → x ∈ ws) (aD : AllL (EdW t ws) D) {a b : Nat} (h1 : a < b) (h2 : b < t.size) : D a b = b - a := by
  have way : ∀ k, a + k + 1 < t.size → Pth (EdW t ws) a (a + k + 1) (k + 1) := fun k => by
    induction k with
    | zero => exact fun h => .one (next_edge all h)
    | succ k ih => exact fun h => (ih (by omega)).app (.one (next_edge (i := a + k + 1) all h))
  have w := way (b - a - 1) (by omega)
  rw [show a + (b - a - 1) + 1 = b by omega, show b - a - 1 + 1 = b - a by omega] at w
  have l1 := (aD a).2 b _ w
  have l2 := ((aD a).1 b (by omega)).lt (edge_up lt)
  omega
/-- rising places whose numbers never fall -/
def ChainU (u : Nat → Int) (c : List Nat) : Prop := c.Pairwise fun a b => a < b ∧ u a ≤ u b
/-- so long is the longest that ends at j -/
def LongAt (u : Nat → Int) (j L : Nat) : Prop := (∃ c, ChainU u (c ++ [j]) ∧ c.length + 1 = L) ∧ ∀ c, ChainU u (c ++ [j]) → c.length + 1 ≤ L
theorem long_next {u : Nat → Int} {j m : Nat} {Ls : Nat → Nat} (h : ∀ k, k < j → LongAt u k (Ls k)) (m1 : m = 0 ∨ ∃ k, k < j ∧ u k ≤ u j ∧ Ls k = m) (m2 : ∀ k, k < j → u k ≤ u j → Ls k ≤ m) : LongAt u j (1 + m) := by
  refine ⟨?_, fun c hc => ?_⟩
  · rcases m1 with rfl | ⟨k, hk, huk, rfl⟩
    · exact ⟨[], List.pairwise_singleton _ _, rfl⟩
    · obtain ⟨⟨c, hc, l⟩, _⟩ := h k hk
      refine ⟨c ++ [k], ?_, by rw [List.length_append]; show c.length + 1 + 1 = _; omega⟩
      refine List.pairwise_append.mpr ⟨hc, List.pairwise_singleton _ _, fun a ha b hb => ?_⟩
      rw [List.mem_singleton.mp hb]
      rcases List.mem_append.mp ha with ha | ha
      · have := (List.pairwise_append.mp hc).2.2 a ha k (List.mem_singleton.mpr rfl)
        exact ⟨by omega, by omega⟩
      · rw [List.mem_singleton.mp ha]
        exact ⟨hk, huk⟩
  · rcases List.eq_nil_or_concat c with rfl | ⟨d, k, rfl⟩
    · show 0 + 1 ≤ 1 + m
      omega
    · rw [List.concat_eq_append] at hc ⊢
      have := (List.pairwise_append.mp hc).2.2 k (List.mem_append_right _ (List.mem_singleton.mpr rfl)) j (List.mem_singleton.mpr rfl)
      have h1 := (h k this.1).2 d (List.pairwise_append.mp hc).1
      have h2 := m2 k this.1 this.2
      rw [List.length_append, List.length_singleton]
      omega
/-- the longest of all -/
def LongN (u : Nat → Int) (n M : Nat) : Prop := (∃ c, ChainU u c ∧ (∀ x, x ∈ c → x < n) ∧ c.length = M) ∧ ∀ c, ChainU u c → (∀ x, x ∈ c → x < n) → c.length ≤ M
theorem long_all {u : Nat → Int} {n M : Nat} {Ls : Nat → Nat} (h : ∀ k, k < n → LongAt u k (Ls k)) (m1 : M = 0 ∨ ∃ k, k < n ∧ Ls k = M) (m2 : ∀ k, k < n → Ls k ≤ M) : LongN u n M := by
  refine ⟨?_, fun c hc lt => ?_⟩
  · rcases m1 with rfl | ⟨k, hk, rfl⟩
    · exact ⟨[], .nil, fun _ h => (nomatch h), rfl⟩
    · obtain ⟨⟨c, hc, l⟩, _⟩ := h k hk
      refine ⟨c ++ [k], hc, fun x hx => ?_, by rw [List.length_append]; exact l⟩
      rcases List.mem_append.mp hx with hx | hx
      · have := (List.pairwise_append.mp hc).2.2 x hx k (List.mem_singleton.mpr rfl)
        omega
      · rw [List.mem_singleton.mp hx]
        exact hk
  · rcases List.eq_nil_or_concat c with rfl | ⟨d, k, rfl⟩
    · exact Nat.zero_le _
    · rw [List.concat_eq_append] at hc lt ⊢
      have hk := lt k (List.mem_append_right _ (List.mem_singleton.mpr rfl))
      have h1 := (h k hk).2 d hc
      have h2 := m2 k hk
      rw [List.length_append, List.length_singleton]
      omega
theorem kept_long {t : Tr} {ws N ks : List Nat} {D : Nat → Nat → Nat} {M : Bef} {css : List (List Nat)} {v : Nat → Int} {L : Nat} (lt : ∀ x, x ∈ ws → x < t.size) (all : ∀ x, x < t.size → x ∈ ws) (aD : AllL (EdW t ws) D) (hN : NodesW t ws N) (bF : BefF (confOf D v t.size) M N) (kF : KeepF (confOf D v t.size) M N ks) (ch : ChOf M N css)
    (hL : LongN (fun i => v i - (i : Int)) t.size L) : ks.length = L := by
  obtain ⟨upK, inK, freeK, _⟩ := kF.all bF hN.1 ch
  have ltN : ∀ x, x ∈ N → x < t.size := fun x hx => (List.mem_append.mp ((hN.2 x).mp hx)).elim (lt x) anc_in
  have l1 := hL.2 ks (List.Pairwise.imp_of_mem (fun {a b} ha hb h => ⟨h, by
    have dab := all_dist lt all aD h (ltN b (inK b hb))
    have : b ∉ confOf D v t.size a := freeK a ha b hb
    have : ¬ (v b < v a + (D a b : Int)) := fun z => this (confOf_mem.mpr ⟨ltN b (inK b hb), by omega, z⟩)
    show v a - (a : Int) ≤ v b - (b : Int)
    omega⟩) upK) fun x hx => ltN x (inK x hx)
  obtain ⟨⟨c, hc, ltc, lc⟩, _⟩ := hL
  have l2 := (most_kept aD hN bF kF ch).2 c (hc.imp fun {a b} h => Nat.ne_of_lt h.1) (fun x hx => (hN.2 x).mpr (List.mem_append_left _ (all x (ltc x hx)))) fun a ha b hb h => by
    obtain ⟨_, d, l⟩ := confOf_mem.mp h
    have ab := aD.lt (edge_up lt) d
    have dab := all_dist lt all aD ab (ltc b hb)
    obtain ⟨i, hi, ei⟩ := List.getElem_of_mem ha
    obtain ⟨j, hj, ej⟩ := List.getElem_of_mem hb
    have ij : i < j := by
      rcases Nat.lt_trichotomy i j with z | z | z
      · exact z
      · subst z
        omega
      · have := (List.pairwise_iff_getElem.mp hc) j i hj hi z
        rw [ei, ej] at this
        omega
    have := (List.pairwise_iff_getElem.mp hc) i j hi hj ij
    rw [ei, ej] at this
    have g : v a - (a : Int) ≤ v b - (b : Int) := this.2
    omega
  omega
end HSP
namespace HSP
open PySem PySem.Spec PyProof.Rows L2
theorem paired_mem {α β : Type} {p q : α → β → Prop} : ∀ {as : List α} {bs : List β}, Paired p as bs → (∀ a b, b ∈ bs → p a b → q a b) → Paired q as bs
  | _, _, .nil, _ => .nil
  | _, _, .cons h t, f => .cons (f _ _ List.mem_cons_self h) (paired_mem t fun a b hb => f a b (List.mem_cons_of_mem _ hb))
section
variable {P : Program} {w : World} {K : PySem.W.Frag} {mg : Str → Option Value} {base : Heap}
theorem sc_law_longest : FnScope n_law_longest ["values"] (defScope s_law_longest) := ⟨rfl, rfl, rfl, by decide +kernel, rfl, by decide +kernel, by decide +kernel⟩
def spLongest : Sp := fun vs H Q _ => ∃ (a : Addr) (ns : List Int), vs = [.ref a] ∧ H a = some (.lst (ns.map V.int)) ∧ ns.length ≤ 100 ∧ ∀ (H' : Hp) (L : Nat), Same H H' → LongN (fun i => valAt ns i - (i : Int)) ns.length L → Q (natV L) H'
theorem ok_longest (B : Bl mg) (a : At K mg "_law_longest" s_law_longest) : Df P w K mg base "_law_longest" 1 ["values"] spLongest := by
  refine Df.mk' a sc_law_longest (fun vs H Q E h => ?_) (fun _ _ _ _ _ _ us hl => match us, hl with | [_], _ => rfl) (fun f cdv A outer s H vs Q E hr h => ?_)
  · obtain ⟨_, _, rfl, _⟩ := h
    rfl
  obtain ⟨a, ns, rfl, ea, h100, q⟩ := h
  have e0 : ∀ l : List Nat, (l.map Int.ofNat).map V.int = l.map natV := fun l => by
    rw [List.map_map]
    rfl
  have two : 2 ≤ sizeLine := by show 2 ≤ 16777216; decide
  have one : 1 ≤ sizeLine := by show 1 ≤ 16777216; decide
  refine ⟨_, (pss_cons (ps_set (i := 1) sc_law_longest.nd rfl (.inl rfl) (pe_lst pa_nil))
 (pss_cons (ps_for PassesOwn.never rfl (pi_enum (by rfl) B.enumerate (pa_cons (pv 0) pa_nil)) (pg_tup rfl (pgs_cons (pg_name (i := 2) sc_law_longest.nd rfl (.inr rfl)) (pgs_cons (pg_name (i := 3) sc_law_longest.nd rfl (.inr rfl)) pgs_nil))) (pss_cons (ps_setLc (i := 4) (own := [("length", 5), ("last", 6)]) (g := (gTup K 2 (gCons (gName 5) (gCons (gName 6) gNil)))) (by rfl) sc_law_longest.nd rfl rfl (sw_true rfl rfl rfl (by decide +kernel)) (pi_list (pv 1)) (blkOk_by (N := n_law_longest) (sc := defScope s_law_longest) (by decide +kernel)) (fun _ _ _ _ _ => (pg_tup rfl (pgs_cons (pg_name (i := 5) sc_law_longest.nd rfl (.inl rfl)) (pgs_cons (pg_name (i := 6) sc_law_longest.nd rfl (.inl rfl)) pgs_nil)))) (fun _ _ _ _ _ => (pts_one (pt_cmpR op_ge (pe_op op_sub (pv 3) (pv 2)) (pv 6) (nomark _)))) (fun _ _ _ _ _ => (pv 5)))
 (pss_one (ps_expr (pe_bm PySem.F.plainAttrs_list PySem.F.slot_list_append PySem.F.type_list_append mt_append (pv 1) (pa_cons (pe_tup (pa_cons (pe_op op_add pe_int (pe_callB (cr_max rfl) (by rfl) B.max (by decide +kernel) (pa_cons (pe_op op_cat (pv 4) (pe_lst (pa_cons pe_int pa_nil))) pa_nil))) (pa_cons (pe_op op_sub (pv 3) (pv 2)) pa_nil))) pa_nil))))))
 (pss_one (ps_ret (pe_callB (cr_max rfl) (by rfl) B.max (by decide +kernel) (pa_cons (pe_op op_cat (pe_lc (own := [("length", 5), ("last", 6)]) (g := (gTup K 2 (gCons (gName 5) (gCons (gName 6) gNil)))) (tt := tYes) (by rfl) sc_law_longest.nd (pi_list (pv 1)) (blkOk_by (N := n_law_longest) (sc := defScope s_law_longest) (by decide +kernel)) (fun _ _ _ _ _ => (pg_tup rfl (pgs_cons (pg_name (i := 5) sc_law_longest.nd rfl (.inl rfl)) (pgs_cons (pg_name (i := 6) sc_law_longest.nd rfl (.inl rfl)) pgs_nil)))) (fun _ _ _ _ _ => pts_nil) (fun _ _ _ _ _ => (pv 5))) (pe_lst (pa_cons pe_int pa_nil))) pa_nil)))))), ?_⟩
  refine ⟨Nat.zero_le _, fun Bs hBs => ?_⟩
  have sB := Same.new (o := .lst []) hBs
  generalize eu : (fun i : Nat => valAt ns i - (i : Int)) = u at q
  have u_at : ∀ i, u i = valAt ns i - (i : Int) := fun i => by rw [← eu]
  refine ⟨_, rfl, a, _, rfl, .of (sB _ _ ea), for_it (walk_enum (K := K) (a := a) (xs := ns.map V.int)) (fun i σ H' => (∃ y2 y3 y4 : Option V, σ = [some (.ref a), some (.ref Bs), y2, y3, y4, none, none]) ∧ Same H H' ∧ ∃ (ts : List Addr) (Ls : Nat → Nat), H' Bs = some (.lst (ts.map V.ref)) ∧ Paired (fun t (j : Nat) => H' t = some (.tup [natV (Ls j), V.int (u j)])) ts (List.range i) ∧ ∀ j, j < i → LongAt u j (Ls j)) ⟨⟨_, _, _, rfl⟩, sB, [], fun _ => 0, upd_same, .nil, fun j h => absurd h (Nat.not_lt_zero j)⟩ (fun i σ H' _ h' => .of (h'.2.1 _ _ ea)) (fun i x σ H3 H4 hi h3 hy => ?_) (fun σ H3 h3 => ?_)⟩
  · obtain ⟨⟨y2, y3, y4, rfl⟩, s3, ts, Ls, eB3, pT, long⟩ := h3
    obtain ⟨T, x1, x2, rfl, nT, rfl, g1, g2⟩ := hy
    obtain rfl : V.int ((i : Nat) : Int) = x1 := Option.some.inj g1
    have g2 : (ns.map V.int)[i]? = some x2 := g2
    rw [List.length_map] at hi
    rw [valAt_get hi] at g2
    obtain rfl := Option.some.inj g2
    have sT := Same.new (o := .tup [V.int ((i : Nat) : Int), V.int (valAt ns i)]) nT
    have lT := Paired.length pT
    rw [List.length_range] at lT
    refine ⟨T, _, rfl, .of upd_same, rfl, _, _, rfl, _, [], rfl, rfl, ?_⟩
    have eB4 := sT _ _ eB3
    have s4 := s3.trans sT
    have pT4 := Paired.mapP pT fun _ _ h => sT _ _ h
    generalize upd H3 T (.tup [V.int ((i : Nat) : Int), V.int (valAt ns i)]) = H4 at eB4 s4 pT4 ⊢
    refine ⟨_, rfl, Bs, rfl, ⟨_, .of eB4⟩, fun C hC => ?_⟩
    refine lc_it (walk_list (K := K) (a := Bs) (xs := ts.map V.ref)) (fun k H' => Same H4 H' ∧ H' C = some (.lst ((((List.range k).filter fun j => decide (u j ≤ u i)).map Ls).map natV))) ⟨Same.new hC, upd_same⟩ (fun k H' _ h' => .of (h'.1 _ _ eB4)) (fun k x H5 H6 hk h5 hy => ?_) (fun H5 h5 => ?_)
    · obtain ⟨s5, e5⟩ := h5
      obtain ⟨rfl, hx⟩ := hy
      rw [List.getElem?_map] at hx
      obtain ⟨t1, ht1, rfl⟩ := Option.map_eq_some_iff.mp hx
      obtain ⟨j, hj, et⟩ := Paired.getL pT4 ht1
      have kl : k < i := by
        have := (List.getElem?_eq_some_iff.mp ht1).1
        omega
      rw [List.getElem?_range kl] at hj
      obtain rfl : k = j := Option.some.inj hj
      refine ⟨t1, _, rfl, .of (s5 _ _ et), rfl, _, _, rfl, _, [], rfl, rfl, ?_⟩
      refine ⟨rfl, ?_⟩
      have et : (List.range (k + 1)).filter (fun j => decide (u j ≤ u i)) = (List.range k).filter (fun j => decide (u j ≤ u i)) ++ [k].filter fun j => decide (u j ≤ u i) := by
        rw [List.range_succ, List.filter_append]
      have few := List.length_filter_le (fun j => decide (u j ≤ u i)) (List.range k)
      rw [List.length_range] at few
      refine ⟨_, rfl, _, rfl, _, _, rfl, rfl, _, rfl, _, _, rfl, rfl, _, rfl, ?_⟩
      rw [show decide (u k ≤ valAt ns i - (i : Int)) = decide (u k ≤ u i) by rw [u_at i]]
      refine ite2 (fun c => ?_) (fun c => ?_)
      · have c := of_decide_eq_true c
        refine ⟨_, rfl, _, e5, ?_, fun b o eb => ?_, ?_⟩
        · rw [List.length_map, List.length_map]
          exact small1000 (by omega)
        · rw [upd_ne (ne_of_none eb hC)]
          exact s5 _ _ eb
        · rw [upd_same, et, List.filter_cons_of_pos (by rw [decide_eq_true c]), List.filter_nil, List.map_append, List.map_append]
          rfl
      · have c : ¬ u k ≤ u i := fun z => c (decide_eq_true z)
        refine ⟨s5, ?_⟩
        rw [et, List.filter_cons_of_neg (by rw [decide_eq_false c]; exact Bool.false_ne_true), List.filter_nil, List.append_nil]
        exact e5
    · obtain ⟨s5, e5⟩ := h5
      rw [List.length_map, lT] at e5
      have few := List.length_filter_le (fun j => decide (u j ≤ u i)) (List.range i)
      rw [List.length_range] at few
      refine ⟨_, rfl, .inl ⟨rfl, _, .of (s5 _ _ eB4)⟩, _, rfl, one, fun Z hZ => ?_⟩
      have sZ := Same.new (o := .lst [V.int 0]) hZ
      refine ⟨C, Z, _, _, rfl, rfl, sZ _ _ e5, upd_same, ?_, fun X hX => ?_⟩
      · rw [List.length_map, List.length_map]
        exact Nat.le_of_lt (small1000 (by show _ + 1 ≤ 1000; omega))
      have sX := sZ.trans (Same.new (o := .lst ((((List.range i).filter fun j => decide (u j ≤ u i)).map Ls).map natV ++ [V.int 0])) hX)
      have eX : (upd (upd H5 Z (.lst [V.int 0])) X (.lst ((((List.range i).filter fun j => decide (u j ≤ u i)).map Ls).map natV ++ [V.int 0]))) X = some (.lst (((((List.range i).filter fun j => decide (u j ≤ u i)).map Ls ++ [0]).map Int.ofNat).map V.int)) := by
        rw [upd_same, e0, List.map_append]
        rfl
      have s6 := s5.trans sX
      generalize upd (upd H5 Z (.lst [V.int 0])) X (.lst ((((List.range i).filter fun j => decide (u j ≤ u i)).map Ls).map natV ++ [V.int 0])) = H6 at s6 eX ⊢
      have eB6 := s6 _ _ eB4
      refine ⟨X, _, rfl, .of eX, ?_, fun m hm hle => ?_⟩
      · rw [List.length_map, List.length_append]
        exact Nat.succ_pos _
      obtain ⟨m0, hm0, rfl⟩ := List.mem_map.mp hm
      have ln : LongAt u i (1 + m0) := by
        refine long_next long ?_ fun k hk huk => ?_
        · rcases List.mem_append.mp hm0 with h | h
          · obtain ⟨k, hk, rfl⟩ := List.mem_map.mp h
            obtain ⟨h1, h2⟩ := List.mem_filter.mp hk
            exact .inr ⟨k, List.mem_range.mp h1, of_decide_eq_true h2, rfl⟩
          · exact .inl (List.mem_singleton.mp h)
        · have := hle (Int.ofNat (Ls k)) (List.mem_map.mpr ⟨Ls k, List.mem_append_left _ (List.mem_map.mpr ⟨k, List.mem_filter.mpr ⟨List.mem_range.mpr hk, decide_eq_true huk⟩, rfl⟩), rfl⟩)
          exact Int.ofNat_le.mp this
      refine ⟨_, _, rfl, rfl, _, rfl, _, rfl, _, _, rfl, rfl, two, fun T2 hT2 => ?_⟩
      have sT2 := Same.new (o := .tup [V.int (1 + Int.ofNat m0), V.int (valAt ns i - (i : Int))]) hT2
      have nT2 : T2 ≠ Bs := (ne_of_none eB6 hT2).symm
      refine ⟨Bs, _, _, rfl, rfl, sT2 _ _ eB6, ?_, ?_⟩
      · rw [List.length_map]
        exact small1000 (by omega)
      refine ⟨⟨_, _, _, rfl⟩, fun b o eb => ?_, ts ++ [T2], fun j => if j = i then 1 + m0 else Ls j, ?_, ?_, fun j hj => ?_⟩
      · rw [upd_ne (ne_of_none eb hBs)]
        exact sT2 _ _ (s6 _ _ (s4 _ _ eb))
      · rw [upd_same, List.map_append]
        rfl
      · rw [List.range_succ]
        have pO : Paired (fun t (j : Nat) => j < i ∧ H4 t = some (.tup [natV (Ls j), V.int (u j)])) ts (List.range i) := by
          refine paired_mem pT4 fun a j hj h => ⟨List.mem_range.mp hj, h⟩
        refine Paired.app (Paired.mapP pO fun a j h => ?_) (.cons ?_ .nil)
        · have hj : ¬ j = i := by have := h.1; omega
          rw [upd_ne (tup_ne h.2 eB4)]
          show _ = some (HO.tup [natV (if j = i then 1 + m0 else Ls j), V.int (u j)])
          rw [if_neg hj]
          exact sT2 _ _ (s6 _ _ h.2)
        · rw [upd_ne nT2, upd_same]
          show _ = some (HO.tup [natV (if i = i then 1 + m0 else Ls i), V.int (u i)])
          rw [if_pos rfl, u_at i]
          exact congrArg (fun z => some (HO.tup [V.int z, V.int (valAt ns i - (i : Int))])) (by show 1 + ((m0 : Nat) : Int) = ((1 + m0 : Nat) : Int); omega)
      · show LongAt u j (if j = i then 1 + m0 else Ls j)
        by_cases e : j = i
        · rw [if_pos e, e]
          exact ln
        · rw [if_neg e]
          exact long j (by omega)
  · obtain ⟨⟨y2, y3, y4, rfl⟩, s3, ts, Ls, eB3, pT, long⟩ := h3
    rw [List.length_map] at pT long
    have lT := Paired.length pT
    rw [List.length_range] at lT
    refine ⟨_, rfl, Bs, rfl, ⟨_, .of eB3⟩, fun C hC => ?_⟩
    refine lc_it (walk_list (K := K) (a := Bs) (xs := ts.map V.ref)) (fun k H' => Same H3 H' ∧ H' C = some (.lst (((List.range k).map Ls).map natV))) ⟨Same.new hC, upd_same⟩ (fun k H' _ h' => .of (h'.1 _ _ eB3)) (fun k x H5 H6 hk h5 hy => ?_) (fun H5 h5 => ?_)
    · obtain ⟨s5, e5⟩ := h5
      obtain ⟨rfl, hx⟩ := hy
      rw [List.getElem?_map] at hx
      obtain ⟨t1, ht1, rfl⟩ := Option.map_eq_some_iff.mp hx
      obtain ⟨j, hj, et⟩ := Paired.getL pT ht1
      have kl : k < ns.length := by
        have := (List.getElem?_eq_some_iff.mp ht1).1
        omega
      rw [List.getElem?_range kl] at hj
      obtain rfl : k = j := Option.some.inj hj
      refine ⟨t1, _, rfl, .of (s5 _ _ et), rfl, _, _, rfl, _, [], rfl, rfl, ?_⟩
      refine ⟨rfl, yes_lcA ?_⟩
      refine ⟨_, rfl, _, e5, ?_, fun b o eb => ?_, ?_⟩
      · rw [List.length_map, List.length_map, List.length_range]
        exact small1000 (by omega)
      · rw [upd_ne (ne_of_none eb hC)]
        exact s5 _ _ eb
      · rw [upd_same, List.range_succ, List.map_append, List.map_append]
        rfl
    · obtain ⟨s5, e5⟩ := h5
      rw [List.length_map, lT] at e5
      refine ⟨one, fun Z hZ => ?_⟩
      have sZ := Same.new (o := .lst [V.int 0]) hZ
      refine ⟨C, Z, _, _, rfl, rfl, sZ _ _ e5, upd_same, ?_, fun X hX => ?_⟩
      · rw [List.length_map, List.length_map, List.length_range]
        exact Nat.le_of_lt (small1000 (by show _ + 1 ≤ 1000; omega))
      have sX := sZ.trans (Same.new (o := .lst (((List.range ns.length).map Ls).map natV ++ [V.int 0])) hX)
      have eX : (upd (upd H5 Z (.lst [V.int 0])) X (.lst (((List.range ns.length).map Ls).map natV ++ [V.int 0]))) X = some (.lst ((((List.range ns.length).map Ls ++ [0]).map Int.ofNat).map V.int)) := by
        rw [upd_same, e0, List.map_append]
        rfl
      refine ⟨X, _, rfl, .of eX, ?_, fun m hm hle => ?_⟩
      · rw [List.length_map, List.length_append]
        exact Nat.succ_pos _
      obtain ⟨m0, hm0, rfl⟩ := List.mem_map.mp hm
      refine q _ m0 (s3.trans (s5.trans sX)) (long_all long ?_ fun k hk => ?_)
      · rcases List.mem_append.mp hm0 with h | h
        · obtain ⟨k, hk, rfl⟩ := List.mem_map.mp h
          exact .inr ⟨k, List.mem_range.mp hk, rfl⟩
        · exact .inl (List.mem_singleton.mp h)
      · have := hle (Int.ofNat (Ls k)) (List.mem_map.mpr ⟨Ls k, List.mem_append_left _ (List.mem_map.mpr ⟨k, List.mem_range.mpr hk, rfl⟩), rfl⟩)
        exact Int.ofNat_le.mp this
end
end HSP
namespace HSP
open PySem PySem.Spec PyProof.Rows L2
/-- what raising a class without fields asks -/
structure Own0 (K : PySem.W.Frag) (mg : Str → Option Value) (x : Str) (C : Addr) : Prop where
  g : mg x = some (.ref C)
  q : PySem.W.excIn K C [.type "ValueError", .type "Exception", .type "BaseException", .type "object"] "ValueError.__new__" = true
  k : PySem.W.keepIn K (.ref C) = true
  b : PySem.W.subIn K (.ref C) (.type "BaseException") = some true
  t : PySem.W.typeIn K (.ref C) = some (.type "type")
section
variable {P : Program} {w : World} {K : PySem.W.Frag} {mg : Str → Option Value} {base : Heap}
/-! ### check_tree, of anything -/
theorem sc_chkTX : FnScope n_check_tree ["tree"] (defScope s_check_tree) := ⟨rfl, rfl, rfl, by decide +kernel, rfl, by decide +kernel, by decide +kernel⟩
def spChkTX (sp : Sp) (C : Addr) : Sp := fun vs H Q E => sp vs H (fun v H' => (v = .bl true ∧ Q .non H') ∨ (v = .bl false ∧ E (.ref C) none H')) (fun _ _ _ => False)
theorem ok_chkTX {C : Addr} (O : Own0 K mg "InvalidTree" C) {sp : Sp} {k : Nat} (len : ∀ vs H Q E, sp vs H Q E → vs.length = 1) (mono : ∀ vs H Q Q' E E', (∀ v H', Q v H' → Q' v H') → (∀ c d H', E c d H' → E' c d H') → sp vs H Q E → sp vs H Q' E') (Tr : Df P w K mg base "is_tree" k ["thing"] sp) (a : At K mg "check_tree" s_check_tree) : DfX P w K mg base "check_tree" (k + 1) ["tree"] (spChkTX sp C) := by
  refine DfX.mk' a sc_chkTX (fun vs H Q E h => len _ _ _ _ h) (fun _ _ _ _ _ _ us hl => match us, hl with | [_], _ => rfl) (fun f cdv A outer s H vs Q E hr h => ?_)
  have l1 := len _ _ _ _ h
  match vs, l1, h with
  | [y], _, h =>
  refine ⟨_, (pss_one (ps_if (pt_not (pt_val (pe_df Tr hr (pa_cons (pv 0) pa_nil)))) (pss_one (ps_raise rfl (takes_of rfl rfl rfl rfl) (pmk_own PySem.F.excBase_ValueError O.q O.g O.k (raises_own O.b O.t) rfl))) pss_nil)), ?_⟩
  refine ⟨_, rfl, mono _ _ _ _ _ _ (fun v H' q => ?_) (fun _ _ _ z => z.elim) h⟩
  rcases q with ⟨rfl, q⟩ | ⟨rfl, q⟩
  · exact ⟨true, rfl, iteF q⟩
  · exact ⟨false, rfl, iteT q⟩
end
end HSP
namespace HSP
open PySem PySem.Spec PyProof.Rows L2
/-! ### InvalidValues(node) -/
def clsBody : Stmt → List Stmt
  | .ClassDef (body := b) .. => b
  | _ => []
abbrev s_ivInit : Stmt := (clsBody (topS 2)).getD 0 (.Pass ⟨0, 0, 0, 0⟩)
abbrev n_ivInit : List Str := ["self", "node"]
section
variable {P : Program} {w : World} {K : PySem.W.Frag} {mg : Str → Option Value} {base : Heap}
theorem sc_ivInit : FnScope n_ivInit ["self", "node"] (defScope s_ivInit) := ⟨rfl, rfl, rfl, by decide +kernel, rfl, by decide +kernel, by decide +kernel⟩
def spIvInit (K : PySem.W.Frag) : Sp := fun vs H Q _ => ∃ (a C : Addr) (v : V), vs = [.ref a, v] ∧ OexC K C ∧ PySem.W.findIn K (.ref C) "node" = some none ∧ H a = some (exo a C none) ∧ ∀ dx, H dx = none → dx ≠ a → Q .non (upd (upd H dx (exd dx [("node", v)])) a (exo a C (some dx)))
theorem ok_ivInit {f : Addr} {fd : FuncData} (hv : mg "ValueError" = none) (vV : PySem.W.findCls K (.type "ValueError") (.type "type") "__init__" = some (.val (.builtin "ValueError.__init__"))) (F : Fun K "__init__" "InvalidValues.__init__" s_ivInit f fd) : FnOk P w K mg base CX0 1 f fd ["self", "node"] (spIvInit K) := by
  refine F.ok sc_ivInit (fun vs H Q E h => ?_) (fun cdv A outer s H vs Q E hr h => ?_)
  · obtain ⟨a, C, v, rfl, _⟩ := h
    rfl
  obtain ⟨a, C, v, rfl, T, no, e, q⟩ := h
  refine ⟨_, pss_cons (ps_expr (pe_veinit (by rfl) hv vV (pa_cons (pv 0) (pa_cons pe_str pa_nil)))) (pss_one (ps_ost (pv 0) (pv 1))), ?_⟩
  refine ⟨_, rfl, a, C, _, rfl, (by show 1 ≤ 1000; decide), T, e, ?_⟩
  exact ⟨_, rfl, _, rfl, a, C, rfl, T, no, .inl ⟨e, q⟩⟩
end
end HSP
namespace HSP
open PySem PySem.Spec PyProof.Rows L2
/-! ### check_row of anything -/
section
variable {P : Program} {w : World} {K : PySem.W.Frag} {mg : Str → Option Value} {base : Heap}
/-- what raising InvalidValues asks -/
structure Own1 (K : PySem.W.Frag) (mg : Str → Option Value) (C fI : Addr) (fd : FuncData) : Prop where
  g : mg "InvalidValues" = some (.ref C)
  T : OexC K C
  i : PySem.W.findIn K (.ref C) "__init__" = some (some (.ref fI))
  t : PySem.W.typeIn K (.ref fI) = some (.type "function")
  no : PySem.W.findIn K (.ref C) "node" = some none
  F : Fun K "__init__" "InvalidValues.__init__" s_ivInit fI fd
  b : Binds K fd ["self", "node"] []
  v : mg "ValueError" = none
  vV : PySem.W.findCls K (.type "ValueError") (.type "type") "__init__" = some (.val (.builtin "ValueError.__init__"))
def EN (C : Addr) (E : XK) (H : Hp) (v : V) : Prop := ∀ (H' : Hp) (dd : Addr), Same H H' → H' dd = some (.xd [("node", v)]) → E (.ref C) (some dd) H'
theorem EN.same {C : Addr} {E : XK} {H H1 : Hp} {v : V} (s : Same H H1) (h : EN C E H v) : EN C E H1 v := fun H' dd s' e => h H' dd (s.trans s') e
theorem mk_iv {C : Addr} (T : OexC K C) (no : PySem.W.findIn K (.ref C) "node" = some none) {E : XK} {H : Hp} {v : V} (h : ∀ (H' : Hp) (dd : Addr), Same H H' → H' dd = some (.xd [("node", v)]) → E (.ref C) (some dd) H') :
    [v].length ≤ 1000 ∧ ∀ a, H a = none → spIvInit K (.ref a :: ([v] ++ [])) (upd H a (exo a C none)) (fun x H2 => x = .non ∧ ∃ (d : Addr) (fs : List (Str × V)), H2 a = some (exo a C (some d)) ∧ H2 d = some (exd d fs) ∧ H d = none ∧ E (.ref C) (some d) (upd (del H2 a) d (.xd fs))) (fun _ _ _ => False) := by
  refine ⟨(by show 1 ≤ 1000; decide), fun a na => ⟨a, C, v, rfl, T, no, upd_same, fun dx nd ne => ?_⟩⟩
  rw [upd_ne ne] at nd
  refine ⟨rfl, dx, [("node", v)], upd_same, (upd_ne ne).trans upd_same, nd, h _ dx (fun b o e => ?_) upd_same⟩
  have b1 : b ≠ dx := fun z => by rw [z, nd] at e; cases e
  have b2 : b ≠ a := fun z => by rw [z, na] at e; cases e
  rw [upd_ne b1, del_ne b2, upd_ne b2, upd_ne b1, upd_ne b2]
  exact e
/-- what check_row finds -/
def RowX (K : PySem.W.Frag) (C2 : Addr) (y : V) (H : Hp) (Q : VK) (E : XK) : Prop :=
  (∃ t, TyX K H y t ∧ PySem.W.kitOne K t (.type "list") = some false ∧ EN C2 E H .non) ∨
    ∃ (a : Addr) (xs : List V) (n : Nat), y = .ref a ∧ H a = some (.lst xs) ∧ (∀ i x, i < n → xs[i]? = some x → WholeV K H x true) ∧
      ((n = xs.length ∧ ∀ H', Same H H' → Q .non H') ∨ ∃ x, xs[n]? = some x ∧ WholeV K H x false ∧ EN C2 E H (natV n))
def spChkRX (K : PySem.W.Frag) (C2 : Addr) : Sp := fun vs H Q E => ∃ y, vs = [y] ∧ RowX K C2 y H Q E
theorem RowX.same {C2 : Addr} {y : V} {H H1 : Hp} {Q : VK} {E : XK} (s : Same H H1) (h : RowX K C2 y H Q E) : RowX K C2 y H1 Q E := by
  rcases h with ⟨t, ty, k, e⟩ | ⟨a, xs, n, ey, ha, wh, q⟩
  · exact .inl ⟨t, TyX.same s ty, k, e.same s⟩
  · refine .inr ⟨a, xs, n, ey, s _ _ ha, fun i x h1 h2 => (wh i x h1 h2).same s, ?_⟩
    rcases q with ⟨e, q⟩ | ⟨x, ex, wx, q⟩
    · exact .inl ⟨e, fun H' s' => q H' (s.trans s')⟩
    · exact .inr ⟨x, ex, wx.same s, q.same s⟩
theorem RowX.mono {C2 : Addr} {y : V} {H : Hp} {Q Q' : VK} {E E' : XK} (hQ : ∀ v H', Q v H' → Q' v H') (hE : ∀ c d H', E c d H' → E' c d H') (h : RowX K C2 y H Q E) : RowX K C2 y H Q' E' := by
  rcases h with ⟨t, ty, k, e⟩ | ⟨a, xs, n, ey, ha, wh, q⟩
  · exact .inl ⟨t, ty, k, fun H' dd s e' => hE _ _ _ (e H' dd s e')⟩
  · refine .inr ⟨a, xs, n, ey, ha, wh, ?_⟩
    rcases q with ⟨e, q⟩ | ⟨x, ex, wx, q⟩
    · exact .inl ⟨e, fun H' s => hQ _ _ (q H' s)⟩
    · exact .inr ⟨x, ex, wx, fun H' dd s e' => hE _ _ _ (q H' dd s e')⟩
theorem sc_chkRX : FnScope n_check_row ["row"] (defScope s_check_row) := ⟨rfl, rfl, rfl, by decide +kernel, rfl, by decide +kernel, by decide +kernel⟩
theorem ok_chkRX {C2 fI : Addr} {fd : FuncData} (B : Bl mg) (O : Own1 K mg C2 fI fd) (Wh : Df P w K mg base "is_whole" 1 ["thing"] (spWholeX K)) (a : At K mg "check_row" s_check_row) : DfX P w K mg base "check_row" 3 ["row"] (spChkRX K C2) := by
  refine DfX.mk' a sc_chkRX (fun vs H Q E h => ?_) (fun _ _ _ _ _ _ us hl => match us, hl with | [_], _ => rfl) (fun f cdv A outer s H vs Q E hr h => ?_)
  · obtain ⟨y, rfl, _⟩ := h
    rfl
  obtain ⟨y, rfl, h⟩ := h
  refine ⟨_, (pss_cons (ps_if (pt_not (pt_val (pe_callB call_isi (by rfl) B.isinstance (by decide +kernel) (pa_cons (pv 0) (pa_cons (pe_bltn (v := .ty "list") (by rfl) B.list (by decide +kernel) rfl) pa_nil))))) (pss_one (ps_raise rfl (takes_of rfl rfl rfl rfl) (pmk_oex O.T O.i O.t (ok_ivInit O.v O.vV O.F) hr O.b .nil pass0 rfl O.g (pa_cons pe_non pa_nil)))) pss_nil)
 (pss_one (ps_for (passes_of rfl) rfl (pi_enum (by rfl) B.enumerate (pa_cons (pv 0) pa_nil)) (pg_tup rfl (pgs_cons (pg_name (i := 1) sc_chkRX.nd rfl (.inl rfl)) (pgs_cons (pg_name (i := 2) sc_chkRX.nd rfl (.inl rfl)) pgs_nil))) (pss_one (ps_if (pt_not (pt_val (pe_df Wh (hr.mono (by decide)) (pa_cons (pv 2) pa_nil)))) (pss_one (ps_raise rfl (takes_of rfl rfl rfl rfl) (pmk_oex O.T O.i O.t (ok_ivInit O.v O.vV O.F) hr O.b .nil pass0 rfl O.g (pa_cons (pv 1) pa_nil)))) pss_nil))))), ?_⟩
  rcases h with ⟨t, ty, k, q⟩ | ⟨a, xs, n, rfl, ha, wh, h⟩
  · refine ⟨_, rfl, _, _, _, _, false, rfl, .ty "list", ty, k, false, rfl, iteT ?_⟩
    exact mk_iv O.T O.no fun H' dd s e => q _ _ s e
  · refine ⟨_, rfl, _, _, _, _, true, rfl, .ty "list", .base (.lst ha), rfl, true, rfl, iteF ?_⟩
    refine ⟨.ref a, rfl, a, xs, rfl, .of ha, ?_⟩
    refine for_it (walk_enum (K := K) (a := a) (xs := xs)) (fun i σ H3 => Same H H3 ∧ i ≤ n ∧ ∃ y2 y3, σ = [some (.ref a), y2, y3]) ⟨Same.refl _, Nat.zero_le n, none, none, rfl⟩ (fun i σ H3 _ h3 => .of (h3.1 _ _ ha)) (fun i x σ H3 H4 hi h3 hy => ?_) (fun σ H3 h3 => ?_)
    · obtain ⟨s3, le, y2, y3, rfl⟩ := h3
      obtain ⟨p, x1, x2, rfl, np, rfl, ex1, ex2⟩ := hy
      cases (show some (V.int ((i : Nat) : Int)) = some x1 from ex1)
      have sT := Same.new (o := .tup [V.int ((i : Nat) : Int), x2]) np
      have s4 := s3.trans sT
      refine ⟨p, _, rfl, .of upd_same, rfl, _, _, rfl, _, [], rfl, rfl, ?_⟩
      by_cases c : i < n
      · refine ⟨_, rfl, x2, true, rfl, WholeV.same s4 (wh i x2 c ex2), true, rfl, iteF ?_⟩
        exact ⟨s4, by omega, _, _, rfl⟩
      · have e : i = n := by omega
        subst e
        rcases h with ⟨z, _⟩ | ⟨x, ex, wx, q⟩
        · omega
        · cases ex.symm.trans ex2
          refine ⟨_, rfl, _, false, rfl, WholeV.same s4 wx, false, rfl, iteT ?_⟩
          exact ⟨_, rfl, mk_iv O.T O.no fun H' dd s e => q _ _ (s4.trans s) e⟩
    · obtain ⟨s3, le, y2, y3, rfl⟩ := h3
      rcases h with ⟨_, q⟩ | ⟨x, ex, _⟩
      · exact q _ s3
      · have := (List.getElem?_eq_some_iff.mp ex).1
        omega
end
end HSP
namespace HSP
open PySem PySem.Spec PyProof.Rows L2
/-! ### check_values of anything -/
theorem ThAt.tree {K : PySem.W.Frag} {H : Hp} : ∀ {v : V} {t : Th}, ThAt K H v t → t.good = true → ∃ u : Tr, TrAt H v u ∧ u.size = t.size
  | _, _, .nil, _ => ⟨.nil, .nil, rfl⟩
  | _, _, .nod e h1 h2, g => by
    obtain ⟨g1, g2⟩ := Bool.and_eq_true_iff.mp g
    obtain ⟨u1, k1, z1⟩ := h1.tree g1
    obtain ⟨u2, k2, z2⟩ := h2.tree g2
    exact ⟨.nod u1 u2, .nod e k1 k2, by show u1.size + 1 + u2.size = _; rw [z1, z2]; rfl⟩
theorem ThAt.same {K : PySem.W.Frag} {H H' : Hp} (s : Same H H') : ∀ {v : V} {t : Th}, ThAt K H v t → ThAt K H' v t
  | _, _, .nil => .nil
  | _, _, .bad ⟨n, b⟩ => .bad ⟨n, b.elim (fun ⟨t, k, q⟩ => .inl ⟨t, TyX.same s k, q⟩) (fun ⟨a, xs, e, h, l⟩ => .inr ⟨a, xs, e, s _ _ h, l⟩)⟩
  | _, _, .nod e h1 h2 => .nod (s _ _ e) (h1.same s) (h2.same s)
section
variable {P : Program} {w : World} {K : PySem.W.Frag} {mg : Str → Option Value} {base : Heap}
def NotVals (K : PySem.W.Frag) (H : Hp) (y : V) (n : Nat) : Prop := (∃ t, TyX K H y t ∧ PySem.W.kitOne K t (.type "list") = some false) ∨ ∃ a xs, y = .ref a ∧ H a = some (.lst xs) ∧ xs.length ≠ n
def spChkVX (K : PySem.W.Frag) (C1 C2 : Addr) : Sp := fun vs H Q E => ∃ (v y : V) (t : Th), vs = [v, y] ∧ ThAt K H v t ∧ t.size ≤ 1000 ∧
  ((t.good = false ∧ ∀ H', Same H H' → E (.ref C1) none H') ∨ (t.good = true ∧ NotVals K H y t.size ∧ EN C2 E H .non) ∨
    (t.good = true ∧ ∃ (a : Addr) (xs : List V) (n : Nat), y = .ref a ∧ H a = some (.lst xs) ∧ xs.length = t.size ∧ (∀ i x, i < n → xs[i]? = some x → WholeV K H x true) ∧
      ((n = xs.length ∧ ∀ H', Same H H' → Q .non H') ∨ ∃ x, xs[n]? = some x ∧ WholeV K H x false ∧ EN C2 E H (natV n))))
theorem sc_chkVX : FnScope n_check_values ["tree", "values"] (defScope s_check_values) := ⟨rfl, rfl, rfl, by decide +kernel, rfl, by decide +kernel, by decide +kernel⟩
theorem ok_chkVX {C1 C2 fI : Addr} {fd : FuncData} (B : Bl mg) (O : Own1 K mg C2 fI fd) (Cr : DfX P w K mg base "check_row" 3 ["row"] (spChkRX K C2)) (Co : Df P w K mg base "count_nodes" 1 ["tree"] spCount) (Ct : DfX P w K mg base "check_tree" 2 ["tree"] (spChkTX (spTreeX K) C1)) (a : At K mg "check_values" s_check_values) : DfX P w K mg base "check_values" 4 ["tree", "values"] (spChkVX K C1 C2) := by
  refine DfX.mk' a sc_chkVX (fun vs H Q E h => ?_) (fun _ _ _ _ _ _ us hl => match us, hl with | [_, _], _ => rfl) (fun f cdv A outer s H vs Q E hr h => ?_)
  · obtain ⟨v, y, t, rfl, _⟩ := h
    rfl
  obtain ⟨v, y, t, rfl, ht, hz, h⟩ := h
  refine ⟨_, (pss_cons (ps_expr (pe_dfX Ct (hr.mono (by decide)) (takes_of rfl rfl rfl rfl) (pa_cons (pv 0) pa_nil)))
 (pss_cons (ps_if (PW.pt (pw_and (pt_val (pe_callB call_isi (by rfl) B.isinstance (by decide +kernel) (pa_cons (pv 1) (pa_cons (pe_bltn (v := .ty "list") (by rfl) B.list (by decide +kernel) rfl) pa_nil)))) (pw_and1 (pt_cmpR op_ne (pe_callB call_len_seq (by rfl) B.len PySem.boot_len (pa_cons (pv 1) pa_nil)) (pe_df Co (hr.mono (by decide)) (pa_cons (pv 0) pa_nil)) (nomark _))))) (pss_one (ps_raise rfl (takes_of rfl rfl rfl rfl) (pmk_oex O.T O.i O.t (ok_ivInit O.v O.vV O.F) (hr.mono (by decide)) O.b .nil pass0 rfl O.g (pa_cons pe_non pa_nil)))) pss_nil)
 (pss_one (ps_expr (pe_dfX Cr hr (takes_of rfl rfl rfl rfl) (pa_cons (pv 1) pa_nil)))))), ?_⟩
  refine ⟨v, rfl, v, t, rfl, ht, hz, fun H1 s1 => ?_⟩
  rcases h with ⟨g, q⟩ | ⟨g, nv, q⟩ | ⟨g, a, xs, n, rfl, ha, hl, wh, h⟩
  · exact .inr ⟨congrArg V.bl g, q _ s1⟩
  · refine .inl ⟨congrArg V.bl g, ?_⟩
    rcases nv with ⟨ty, k, no⟩ | ⟨a, xs, rfl, ha, ne⟩
    · refine ⟨_, rfl, _, _, _, _, false, rfl, .ty "list", TyX.same s1 k, no, false, rfl, iteF ?_⟩
      exact ⟨_, rfl, _, rfl, .inl ⟨_, TyX.same s1 k, no, EN.same s1 q⟩⟩
    · obtain ⟨u, hu, zu⟩ := ht.tree g
      refine ⟨_, rfl, _, _, _, _, true, rfl, .ty "list", .base (.lst (s1 _ _ ha)), rfl, true, rfl, iteT ?_⟩
      refine ⟨_, rfl, a, _, rfl, .inl (.of (s1 _ _ ha)), v, rfl, v, u, rfl, hu.same s1, by omega, fun H2 s2 => ⟨rfl, _, rfl, ?_⟩⟩
      rw [show (!decide (V.int ((xs.length : Nat) : Int) = V.int ((u.size : Nat) : Int))) = true by rw [decide_eq_false (fun z => ne (by have := V.int.inj z; omega))]; rfl]
      refine iteT ?_
      exact mk_iv O.T O.no fun H' dd s e => q _ _ (s1.trans (s2.trans s)) e
  · refine .inl ⟨congrArg V.bl g, ?_⟩
    obtain ⟨u, hu, zu⟩ := ht.tree g
    refine ⟨_, rfl, _, _, _, _, true, rfl, .ty "list", .base (.lst (s1 _ _ ha)), rfl, true, rfl, iteT ?_⟩
    refine ⟨_, rfl, a, _, rfl, .inl (.of (s1 _ _ ha)), v, rfl, v, u, rfl, hu.same s1, by omega, fun H2 s2 => ⟨rfl, _, rfl, ?_⟩⟩
    have s12 := s1.trans s2
    rw [show (!decide (V.int ((xs.length : Nat) : Int) = V.int ((u.size : Nat) : Int))) = false by rw [decide_eq_true (congrArg V.int (by omega))]; rfl]
    refine iteF ?_
    exact ⟨_, rfl, _, rfl, .inr ⟨a, xs, n, rfl, s12 _ _ ha, fun i x h1 h2 => WholeV.same s12 (wh i x h1 h2), h.elim (fun z => .inl ⟨z.1, fun H' s => z.2 H' (s12.trans s)⟩) (fun ⟨x, ex, wx, q⟩ => .inr ⟨x, ex, WholeV.same s12 wx, EN.same s12 q⟩)⟩⟩
end
end HSP
namespace HSP
open PySem PySem.Spec PyProof.Rows L2
/-- a promise that more wishes keep -/
def Mono (sp : Sp) : Prop := ∀ vs H Q Q' E E', (∀ v H', Q v H' → Q' v H') → (∀ c d H', E c d H' → E' c d H') → sp vs H Q E → sp vs H Q' E'
theorem mono_tree (K : PySem.W.Frag) : Mono (spTreeX K) := fun _ _ _ _ _ _ hQ _ ⟨v, t, e, h, z, q⟩ => ⟨v, t, e, h, z, fun H' s => hQ _ _ (q H' s)⟩
theorem mono_chkT {sp : Sp} (C : Addr) (m : Mono sp) : Mono (spChkTX sp C) := fun vs H Q Q' E E' hQ hE h => m _ _ _ _ _ _ (fun _ _ q => q.elim (fun x => .inl ⟨x.1, hQ _ _ x.2⟩) (fun x => .inr ⟨x.1, hE _ _ _ x.2⟩)) (fun _ _ _ z => z) h
theorem mono_chkV (K : PySem.W.Frag) (C1 C2 : Addr) : Mono (spChkVX K C1 C2) := fun vs H Q Q' E E' hQ hE ⟨v, y, t, e, h, z, w⟩ => by
  refine ⟨v, y, t, e, h, z, ?_⟩
  rcases w with ⟨g, q⟩ | ⟨g, nv, q⟩ | ⟨g, a, xs, n, ey, ha, hl, wh, q⟩
  · exact .inl ⟨g, fun H' s => hE _ _ _ (q H' s)⟩
  · exact .inr (.inl ⟨g, nv, fun H' dd s e => hE _ _ _ (q H' dd s e)⟩)
  · refine .inr (.inr ⟨g, a, xs, n, ey, ha, hl, wh, ?_⟩)
    rcases q with ⟨e, q⟩ | ⟨x, ex, wx, q⟩
    · exact .inl ⟨e, fun H' s => hQ _ _ (q H' s)⟩
    · exact .inr ⟨x, ex, wx, fun H' dd s e => hE _ _ _ (q H' dd s e)⟩
section
variable {P : Program} {w : World} {K : PySem.W.Frag} {mg : Str → Option Value} {base : Heap}
/-! ### check_both -/
def spBothX (sp : Sp) : Sp := fun vs H Q E => ∃ v y z : V, vs = [v, y, z] ∧ sp [v, y] H (fun _ H1 => sp [v, z] H1 (fun _ H2 => Q .non H2) E) E
theorem Mono.both {sp : Sp} (m : Mono sp) : Mono (spBothX sp) := fun vs H Q Q' E E' hQ hE ⟨v, y, z, e, h⟩ =>
  ⟨v, y, z, e, m _ _ _ _ _ _ (fun _ H1 q => m _ _ _ _ _ _ (fun _ H2 q2 => hQ _ _ q2) hE q) hE h⟩
end
end HSP
namespace HSP
open PySem PySem.Spec PyProof.Rows L2
section
variable {X : Cx}
/-- repr of None and of whole numbers -/
def rReprS : List V → Hp → VK → Prop := fun vs H Q => (vs = [.non] ∧ Q (.str "None") H) ∨ ∃ i : Int, vs = [.int i] ∧ i.natAbs.log2 < 1920 ∧ Q (.str (toString i)) H
theorem cr_reprS : CallR X (.builtin "repr") rReprS := by
  intro pins s σ H vs us Q I r h
  rcases h with ⟨rfl, q⟩ | ⟨i, rfl, few, q⟩
  · obtain ⟨u, rfl, ru⟩ := vals1 r
    cases (show u = Value.none from ru)
    exact P.repr_of_none ⟨.str "None", H, I.tok _, ⟨_, rfl⟩, q⟩
  · exact SkE.call_repr_int pins s σ H _ us Q I r ⟨i, rfl, few, q⟩
end
section
variable {P : Program} {w : World} {K : PySem.W.Frag} {mg : Str → Option Value} {base : Heap}
/-! ### _law_kept -/
/-- what the law asks of the two classes -/
structure Two (K : PySem.W.Frag) (mg : Str → Option Value) (C1 C2 : Addr) : Prop where
  g1 : mg "InvalidTree" = some (.ref C1)
  g2 : mg "InvalidValues" = some (.ref C2)
  x1 : PySem.W.exmAny K (.ref C1) [.ref C1, .ref C2] = some true
  x2 : PySem.W.exmAny K (.ref C2) [.ref C1, .ref C2] = some true
  e1 : ExcC K C1
  e2 : ExcC K C2
  f2 : XfC K C2
  n2 : PySem.W.findIn K (.ref C2) "node" = some none
  k1 : PySem.W.kitOne K (.ref C1) (.ref C2) = some false
  k2 : PySem.W.kitOne K (.ref C2) (.ref C2) = some true
/-- what a call raises: InvalidTree; InvalidValues with this node -/
def ETree (C1 : Addr) (H : Hp) : XK := fun cls d H' => cls = .ref C1 ∧ d = none ∧ Same H H'
def ENode (C2 : Addr) (H : Hp) (v : V) : XK := fun cls d H' => cls = .ref C2 ∧ ∃ dd, d = some dd ∧ H' dd = some (.xd [("node", v)]) ∧ Same H H'
def KeptV (v : V) (z : Str) : Prop := (v = .non ∧ z = "None") ∨ ∃ i : Nat, v = natV i ∧ i < 1000 ∧ z = toString (i : Int)
def spKept (sp : Sp) (C1 C2 : Addr) : Sp := fun vs H Q _ =>
  (sp vs H (fun _ _ => False) (ETree C1 H) ∧ ∀ H', Same H H' → Q (.str "tree") H') ∨
  ∃ (v : V) (z : Str), KeptV v z ∧ sp vs H (fun _ _ => False) (ENode C2 H v) ∧ ∀ H', Same H H' → Q (.str z) H'
end
end HSP
namespace HSP
open PySem PySem.Spec PyProof.Rows L2
section
variable {P : Program} {w : World} {K : PySem.W.Frag} {mg : Str → Option Value} {base : Heap}
/-! ### _law_room -/
end
end HSP
namespace HSP
open PySem PySem.Spec PyProof.Rows L2
/-! ### all trees of so many nodes -/
def trees : Nat → Nat → List Tr
  | _, 0 => [.nil]
  | 0, _ + 1 => []
  | f + 1, n + 1 => (List.range (n + 1)).flatMap fun a => (trees f a).flatMap fun l => (trees f (n - a)).map fun r => .nod l r
theorem trees_all : ∀ (f : Nat) (t : Tr), t.size ≤ f → t ∈ trees f t.size
  | 0, .nil, _ => List.mem_singleton.mpr rfl
  | _ + 1, .nil, _ => List.mem_singleton.mpr rfl
  | 0, .nod l r, h => by
    have : l.size + 1 + r.size ≤ 0 := h
    omega
  | f + 1, .nod l r, h => by
    have h' : l.size + 1 + r.size ≤ f + 1 := h
    have e : (Tr.nod l r).size = (l.size + r.size) + 1 := by
      show l.size + 1 + r.size = _
      omega
    rw [e]
    show Tr.nod l r ∈ (List.range (l.size + r.size + 1)).flatMap fun a => (trees f a).flatMap fun l' => (trees f (l.size + r.size - a)).map fun r' => Tr.nod l' r'
    refine List.mem_flatMap.mpr ⟨l.size, List.mem_range.mpr (by omega), List.mem_flatMap.mpr ⟨l, trees_all f l (by omega), List.mem_map.mpr ⟨r, ?_, rfl⟩⟩⟩
    have e2 : l.size + r.size - l.size = r.size := by omega
    rw [e2]
    exact trees_all f r (by omega)
theorem trees_size : ∀ (f n : Nat) (t : Tr), t ∈ trees f n → t.size = n
  | 0, 0, t, h => by rw [List.mem_singleton.mp h]; rfl
  | _ + 1, 0, t, h => by rw [List.mem_singleton.mp h]; rfl
  | 0, _ + 1, t, h => by cases h
  | f + 1, n + 1, t, h => by
    obtain ⟨a, ha, h⟩ := List.mem_flatMap.mp h
    obtain ⟨l, hl, h⟩ := List.mem_flatMap.mp h
    obtain ⟨r, hr, rfl⟩ := List.mem_map.mp h
    have h1 := List.mem_range.mp ha
    have h2 := trees_size f a l hl
    have h3 := trees_size f (n - a) r hr
    show l.size + 1 + r.size = n + 1
    omega
theorem flatMap_same {α β : Type} {f g : α → List β} : ∀ {l : List α}, (∀ x, x ∈ l → f x = g x) → l.flatMap f = l.flatMap g
  | [], _ => rfl
  | x :: r, h => by rw [List.flatMap_cons, List.flatMap_cons, h x List.mem_cons_self, flatMap_same fun y hy => h y (List.mem_cons_of_mem _ hy)]
/-- more room makes no more trees -/
theorem trees_same : ∀ (f g n : Nat), n ≤ f → n ≤ g → trees f n = trees g n
  | 0, 0, 0, _, _ => rfl
  | 0, _ + 1, 0, _, _ => rfl
  | _ + 1, 0, 0, _, _ => rfl
  | _ + 1, _ + 1, 0, _, _ => rfl
  | 0, _, _ + 1, h, _ => absurd h (by omega)
  | _ + 1, 0, _ + 1, _, h => absurd h (by omega)
  | f + 1, g + 1, n + 1, h1, h2 => by
    show ((List.range (n + 1)).flatMap fun a => (trees f a).flatMap fun l => (trees f (n - a)).map fun r => Tr.nod l r) = (List.range (n + 1)).flatMap fun a => (trees g a).flatMap fun l => (trees g (n - a)).map fun r => Tr.nod l r
    refine flatMap_same fun a ha => ?_
    have ha' := List.mem_range.mp ha
    rw [trees_same f g a (by omega) (by omega), trees_same f g (n - a) (by omega) (by omega)]
/-- all trees of so many nodes -/
def shapesOf (n : Nat) : List Tr := trees n n
theorem shapes_succ (n : Nat) : shapesOf (n + 1) = (List.range (n + 1)).flatMap fun a => (shapesOf a).flatMap fun l => (shapesOf (n - a)).map fun r => Tr.nod l r := by
  show ((List.range (n + 1)).flatMap fun a => (trees n a).flatMap fun l => (trees n (n - a)).map fun r => Tr.nod l r) = _
  refine flatMap_same fun a ha => ?_
  have ha' := List.mem_range.mp ha
  rw [trees_same n a a (by omega) (by omega), trees_same n (n - a) (n - a) (by omega) (by omega)]
  rfl
theorem shapes_in (t : Tr) : t ∈ shapesOf t.size := trees_all _ t (Nat.le_refl _)
theorem shapes_size {n : Nat} {t : Tr} (h : t ∈ shapesOf n) : t.size = n := trees_size _ _ t h
theorem shapes_few : ((List.range 6).all fun n => decide ((shapesOf n).length ≤ 42)) = true := by decide +kernel
theorem shapes_le {n : Nat} (h : n < 6) : (shapesOf n).length ≤ 42 := of_decide_eq_true (List.all_eq_true.mp shapes_few n (List.mem_range.mpr h))
theorem len_flatMap_le {α β : Type} {f : α → List β} {c : Nat} : ∀ {l : List α}, (∀ x, x ∈ l → (f x).length ≤ c) → (l.flatMap f).length ≤ l.length * c
  | [], _ => Nat.zero_le _
  | x :: r, h => by
    have h1 := h x List.mem_cons_self
    have h2 := len_flatMap_le fun y hy => h y (List.mem_cons_of_mem _ hy)
    rw [List.flatMap_cons, List.length_append, List.length_cons, Nat.add_mul, Nat.one_mul]
    omega
end HSP
namespace HSP
open PySem PySem.Spec PyProof.Rows L2
/-! ## how a search ended, as data -/
def endRow (r : Bool × Nat) : List V := [kindV r.1, natV r.2]
theorem endRow_plain {r : Bool × Nat} (h : r.2 < 1000000) : Plains (endRow r) := fun v hv => by
  have hv : v ∈ [kindV r.1, natV r.2] := hv
  simp only [List.mem_cons, List.not_mem_nil, or_false] at hv
  rcases hv with rfl | rfl
  · cases r.1
    · exact ⟨by decide +kernel, by decide +kernel⟩
    · exact ⟨by decide +kernel, by decide +kernel⟩
  · exact plain_nat h
theorem sEnd_le (g : Nat → Int) (tw : Int) (m : Md) : ∀ (t : Tr) (f : Nat), (sEnd g tw m t f).2 ≤ f + t.size
  | .nil, f => Nat.le_refl _
  | .nod l r, f => by
    have e : sEnd g tw m (.nod l r) f = match wayOf tw (g (f + l.size)) m with | .fin => (true, f + l.size) | .lft => sEnd g tw m l f | .rgt => sEnd g tw m r (f + l.size + 1) := rfl
    have z : (Tr.nod l r).size = l.size + 1 + r.size := rfl
    rw [e, z]
    cases wayOf tw (g (f + l.size)) m with
    | fin => show f + l.size ≤ _; omega
    | lft => have := sEnd_le g tw m l f; show (sEnd g tw m l f).2 ≤ _; omega
    | rgt => have := sEnd_le g tw m r (f + l.size + 1); show (sEnd g tw m r (f + l.size + 1)).2 ≤ _; omega
theorem end_eqv (r : Bool × Nat) (i : Nat) : PyData.eqv (rowD (endRow r)) (rowD [.str "found", natV i]) = decide (r = (true, i)) := by
  obtain ⟨b, n⟩ := r
  unfold rowD endRow
  simp only [List.map_cons, List.map_nil, PyData.eqv, PyData.eqvAll, Bool.and_true]
  cases b
  · have e1 : vD (kindV false) = .str "gap" := rfl
    have e2 : vD (V.str "found") = .str "found" := rfl
    rw [e1, e2, decide_eq_false (fun z => by cases z)]
    simp only [PyData.eqv]
    have e3 : (("gap" : Str) == ("found" : Str)) = false := by decide +kernel
    rw [e3, Bool.false_and]
  · have e1 : vD (kindV true) = .str "found" := rfl
    have e2 : vD (V.str "found") = .str "found" := rfl
    have e4 : vD (natV n) = .int (n : Int) := rfl
    have e5 : vD (natV i) = .int (i : Int) := rfl
    rw [e1, e2, e4, e5]
    simp only [PyData.eqv]
    have e3 : (("found" : Str) == ("found" : Str)) = true := by decide +kernel
    rw [e3, Bool.true_and]
    by_cases c : n = i
    · rw [c, decide_eq_true rfl]
      exact beq_self_eq_true _
    · rw [decide_eq_false (fun z => c (Prod.mk.inj z).2)]
      exact beq_eq_false_iff_ne.mpr (fun z => c (by omega))
end HSP
namespace HSP
open PySem PySem.Spec PyProof.Rows L2
/-! ## what hides an element, by the roots of all trees -/
def hides (g : Nat → Int) (i j : Nat) : Bool := (decide (j < i) && decide (g i ≤ g j)) || (decide (i < j) && decide (g j ≤ g i))
def hid (g : Nat → Int) (n i : Nat) : Option Nat := (List.range n).find? (hides g i)
theorem hid_some {g : Nat → Int} {n i j : Nat} (hj : j < n) (h : hides g i j = true) (no : ∀ k, k < j → hides g i k = false) : hid g n i = some j :=
  List.find?_range_eq_some.mpr ⟨h, List.mem_range.mpr hj, fun k hk => by rw [no k hk]; rfl⟩
theorem hid_none {g : Nat → Int} {n i : Nat} (no : ∀ k, k < n → hides g i k = false) : hid g n i = none :=
  List.find?_range_eq_none.mpr fun k hk => by rw [no k hk]; rfl
theorem size_nod' (l r : Tr) : (Tr.nod l r).size = l.size + 1 + r.size := rfl
theorem sEnd_at (g : Nat → Int) (tw : Int) : ∀ (t : Tr) (f j : Nat), sEnd g tw .fin t f = (true, j) → f ≤ j ∧ j < f + t.size
  | .nil, f, j, h => by cases h
  | .nod l r, f, j, h => by
    rw [sEnd_nod] at h
    rw [size_nod']
    cases w : wayOf tw (g (f + l.size)) .fin with
    | fin =>
      rw [w] at h
      have := (Prod.mk.inj h).2
      omega
    | lft =>
      rw [w] at h
      have := sEnd_at g tw l f j h
      omega
    | rgt =>
      rw [w] at h
      have := sEnd_at g tw r (f + l.size + 1) j h
      omega
theorem way_cases (tw v : Int) : (wayOf tw v .fin = .fin ∧ tw = 2 * v) ∨ (wayOf tw v .fin = .lft ∧ tw < 2 * v) ∨ (wayOf tw v .fin = .rgt ∧ 2 * v < tw) := by
  unfold wayOf
  by_cases c : tw = 2 * v
  · exact .inl ⟨by rw [if_pos c], c⟩
  · by_cases d : tw < 2 * v
    · exact .inr (.inl ⟨by rw [if_neg c, if_pos d], d⟩)
    · exact .inr (.inr ⟨by rw [if_neg c, if_neg d], by omega⟩)
/-- a tree of so many nodes -/
def comb : Nat → Tr
  | 0 => .nil
  | n + 1 => .nod .nil (comb n)
theorem comb_size : ∀ n, (comb n).size = n
  | 0 => rfl
  | n + 1 => by
    rw [comb, size_nod', comb_size n]
    show 0 + 1 + n = n + 1
    omega
def lsz : Tr → Nat
  | .nil => 0
  | .nod l _ => l.size
/-- the element is found under a tree -/
def hits (g : Nat → Int) (i : Nat) (t : Tr) : Bool := decide (sEnd g (2 * g i) .fin t 0 = (true, i))
theorem no_hit {g : Nat → Int} {i : Nat} {l r : Tr} (h : hides g i l.size = true) : hits g i (.nod l r) = false := by
  refine decide_eq_false fun e => ?_
  rw [sEnd_nod, Nat.zero_add] at e
  unfold hides at h
  rcases way_cases (2 * g i) (g l.size) with ⟨w, c⟩ | ⟨w, c⟩ | ⟨w, c⟩
  · rw [w] at e
    have e2 : l.size = i := (Prod.mk.inj e).2
    rw [e2] at h
    rw [decide_eq_false (show ¬ i < i by omega)] at h
    cases h
  · rw [w] at e
    have := sEnd_at _ _ _ _ _ e
    rw [decide_eq_false (show ¬ l.size < i by omega), decide_eq_false (show ¬ g l.size ≤ g i by omega), Bool.and_false] at h
    cases h
  · rw [w] at e
    have := sEnd_at _ _ _ _ _ e
    rw [decide_eq_false (show ¬ i < l.size by omega), decide_eq_false (show ¬ g i ≤ g l.size by omega), Bool.and_false] at h
    cases h
theorem way_fin (g : Int) : wayOf (2 * g) g .fin = .fin := by
  unfold wayOf
  rw [if_pos rfl]
theorem hit_any {g : Nat → Int} {i r n : Nat} (hi : i < n) (hr : r < n) (h : hides g i r = false) : ∃ t, t.size = n ∧ t ≠ .nil ∧ lsz t = r ∧ hits g i t = true := by
  unfold hides at h
  by_cases c : i = r
  · refine ⟨.nod (comb r) (comb (n - 1 - r)), by rw [size_nod', comb_size, comb_size]; omega, fun z => (by cases z), comb_size r, decide_eq_true ?_⟩
    rw [sEnd_nod, comb_size, Nat.zero_add, ← c, way_fin]
  by_cases d : i < r
  · rw [decide_eq_false (show ¬ r < i by omega), decide_eq_true d] at h
    have e : ¬ g r ≤ g i := of_decide_eq_false (by simpa using h)
    have s : (Tr.nod (comb i) (comb (r - 1 - i))).size = r := by rw [size_nod', comb_size, comb_size]; omega
    refine ⟨.nod (.nod (comb i) (comb (r - 1 - i))) (comb (n - 1 - r)), by rw [size_nod', s, comb_size]; omega, fun z => (by cases z), s, decide_eq_true ?_⟩
    have w : wayOf (2 * g i) (g r) .fin = .lft := by
      unfold wayOf
      rw [if_neg (by omega), if_pos (by omega)]
    rw [sEnd_nod, s, Nat.zero_add, w]
    show sEnd g (2 * g i) .fin (.nod (comb i) (comb (r - 1 - i))) 0 = _
    rw [sEnd_nod, comb_size, Nat.zero_add, way_fin]
  · rw [decide_eq_true (show r < i by omega), decide_eq_false (show ¬ i < r by omega)] at h
    have e : ¬ g i ≤ g r := of_decide_eq_false (by simpa using h)
    have s : (Tr.nod (comb (i - r - 1)) (comb (n - 1 - i))).size = n - 1 - r := by rw [size_nod', comb_size, comb_size]; omega
    refine ⟨.nod (comb r) (.nod (comb (i - r - 1)) (comb (n - 1 - i))), by rw [size_nod', s, comb_size]; omega, fun z => (by cases z), comb_size r, decide_eq_true ?_⟩
    have w : wayOf (2 * g i) (g r) .fin = .rgt := by
      unfold wayOf
      rw [if_neg (by omega), if_neg (by omega)]
    rw [sEnd_nod, comb_size, Nat.zero_add, w]
    show sEnd g (2 * g i) .fin (.nod (comb (i - r - 1)) (comb (n - 1 - i))) (r + 1) = _
    rw [sEnd_nod, comb_size, show r + 1 + (i - r - 1) = i by omega, way_fin]
def byRoots (g : Nat → Int) (ts : List Tr) (n i : Nat) : Option Nat := (List.range n).find? fun r => !((ts.filter fun t => lsz t == r).any (hits g i))
theorem find_same {α : Type} {p q : α → Bool} : ∀ {l : List α}, (∀ x, x ∈ l → p x = q x) → l.find? p = l.find? q
  | [], _ => rfl
  | x :: r, h => by
    rw [List.find?_cons, List.find?_cons, h x List.mem_cons_self, find_same fun y hy => h y (List.mem_cons_of_mem _ hy)]
theorem roots_hid {g : Nat → Int} {n i : Nat} (hi : i < n) : byRoots g (shapesOf n) n i = hid g n i := by
  refine find_same fun r hr => ?_
  have hr' := List.mem_range.mp hr
  cases h : hides g i r with
  | true =>
    rw [Bool.not_eq_true']
    refine List.any_eq_false.mpr fun t ht => ?_
    obtain ⟨h1, h2⟩ := List.mem_filter.mp ht
    have h3 : lsz t = r := eq_of_beq h2
    cases t with
    | nil =>
      have := shapes_size h1
      have e : Tr.nil.size = 0 := rfl
      omega
    | nod l r' =>
      have h4 : l.size = r := h3
      rw [no_hit (by rw [h4]; exact h)]
      exact Bool.false_ne_true
  | false =>
    rw [Bool.not_eq_false']
    obtain ⟨t, h1, h2, h3, h4⟩ := hit_any hi hr' h
    refine List.any_eq_true.mpr ⟨t, List.mem_filter.mpr ⟨?_, by rw [h3]; exact beq_self_eq_true _⟩, h4⟩
    rw [← h1]
    exact shapes_in t
theorem hit_all {g : Nat → Int} {i : Nat} : ∀ (t : Tr) (f : Nat), f ≤ i → i < f + t.size → (∀ j, f ≤ j → j < f + t.size → hides g i j = false) → sEnd g (2 * g i) .fin t f = (true, i)
  | .nil, f, h1, h2, _ => by
    have e : Tr.nil.size = 0 := rfl
    omega
  | .nod l r, f, h1, h2, h => by
    rw [size_nod'] at h2 h
    rw [sEnd_nod]
    have hk := h (f + l.size) (by omega) (by omega)
    unfold hides at hk
    rcases Nat.lt_trichotomy i (f + l.size) with c | c | c
    · rw [decide_eq_false (show ¬ f + l.size < i by omega), decide_eq_true c] at hk
      have e : ¬ g (f + l.size) ≤ g i := of_decide_eq_false (by simpa using hk)
      have w : wayOf (2 * g i) (g (f + l.size)) .fin = .lft := by
        unfold wayOf
        rw [if_neg (by omega), if_pos (by omega)]
      rw [w]
      exact hit_all l f h1 c fun j a b => h j a (by omega)
    · rw [← c, way_fin]
    · rw [decide_eq_true c, decide_eq_false (show ¬ i < f + l.size by omega)] at hk
      have e : ¬ g i ≤ g (f + l.size) := of_decide_eq_false (by simpa using hk)
      have w : wayOf (2 * g i) (g (f + l.size)) .fin = .rgt := by
        unfold wayOf
        rw [if_neg (by omega), if_neg (by omega)]
      rw [w]
      exact hit_all r (f + l.size + 1) (by omega) (by omega) fun j a b => h j (by omega) (by omega)
theorem every_hid {g : Nat → Int} {n i : Nat} (hi : i < n) : ((shapesOf n).filter fun t => !hits g i t).isEmpty = (hid g n i).isNone := by
  cases e : hid g n i with
  | none =>
    show _ = true
    rw [List.isEmpty_iff, List.filter_eq_nil_iff]
    intro t ht
    have no := List.find?_range_eq_none.mp e
    have sz := shapes_size ht
    have h : hits g i t = true := decide_eq_true (hit_all t 0 (Nat.zero_le _) (by omega) fun j _ hj => by simpa using no j (by omega))
    rw [h]
    exact Bool.false_ne_true
  | some r =>
    show _ = false
    obtain ⟨h1, h2, _⟩ := List.find?_range_eq_some.mp e
    have hr := List.mem_range.mp h2
    refine Bool.eq_false_iff.mpr fun z => ?_
    rw [List.isEmpty_iff, List.filter_eq_nil_iff] at z
    have s : (Tr.nod (comb r) (comb (n - 1 - r))).size = n := by rw [size_nod', comb_size, comb_size]; omega
    have mem := shapes_in (Tr.nod (comb r) (comb (n - 1 - r)))
    rw [s] at mem
    refine z _ mem ?_
    rw [no_hit (by rw [comb_size]; exact h1)]
    rfl
/-- by the values themselves -/
theorem head_hid {g : Nat → Int} {n i : Nat} (hi : i < n) :
    ((((List.range i).filter fun j => decide (g j ≥ g i)).map natV ++ ((List.range (n - (i + 1))).filter fun j => decide (g (i + 1 + j) ≤ g i)).map fun j => natV (i + 1 + j)) ++ [V.non])[0]? = some (optNV (hid g n i)) := by
  rw [← List.head?_eq_getElem?]
  cases e1 : (List.range i).find? (fun j => decide (g j ≥ g i)) with
  | some x =>
    have e1' := e1
    rw [← List.head?_filter] at e1'
    obtain ⟨h1, h2, h3⟩ := List.find?_range_eq_some.mp e1
    have hx := List.mem_range.mp h2
    rw [hid_some (j := x) (by omega) (by unfold hides; rw [decide_eq_true hx, h1]; rfl) (fun k hk => by
      have q := h3 k hk
      have q2 : decide (g k ≥ g i) = false := by simpa using q
      unfold hides
      rw [show decide (g i ≤ g k) = false from q2, decide_eq_false (show ¬ i < k by omega), Bool.and_false]
      rfl)]
    cases e2 : (List.range i).filter fun j => decide (g j ≥ g i) with
    | nil => rw [e2] at e1'; cases e1'
    | cons y r =>
      rw [e2] at e1'
      cases (show some y = some x from e1')
      rfl
  | none =>
    have no1 := List.find?_range_eq_none.mp e1
    have e2 : (List.range i).filter (fun j => decide (g j ≥ g i)) = [] := List.filter_eq_nil_iff.mpr fun k hk => by simpa using no1 k (List.mem_range.mp hk)
    rw [e2, List.map_nil, List.nil_append]
    have low : ∀ k, k ≤ i → hides g i k = false := fun k hk => by
      unfold hides
      rw [decide_eq_false (show ¬ i < k by omega)]
      by_cases c : k < i
      · have q : decide (g k ≥ g i) = false := by simpa using no1 k c
        rw [show decide (g i ≤ g k) = false from q, Bool.and_false]
        rfl
      · rw [decide_eq_false c]
        rfl
    cases e3 : (List.range (n - (i + 1))).find? (fun j => decide (g (i + 1 + j) ≤ g i)) with
    | some x =>
      have e3' := e3
      rw [← List.head?_filter] at e3'
      obtain ⟨h1, h2, h3⟩ := List.find?_range_eq_some.mp e3
      have hx := List.mem_range.mp h2
      rw [hid_some (j := i + 1 + x) (by omega) (by unfold hides; rw [h1, decide_eq_true (show i < i + 1 + x by omega), Bool.and_true, Bool.or_true]) (fun k hk => by
        by_cases c : k ≤ i
        · exact low k c
        · have q : decide (g (i + 1 + (k - (i + 1))) ≤ g i) = false := by simpa using h3 (k - (i + 1)) (by omega)
          rw [show i + 1 + (k - (i + 1)) = k by omega] at q
          unfold hides
          rw [q, decide_eq_false (show ¬ k < i by omega), Bool.and_false]
          rfl)]
      cases e4 : (List.range (n - (i + 1))).filter fun j => decide (g (i + 1 + j) ≤ g i) with
      | nil => rw [e4] at e3'; cases e3'
      | cons y r =>
        rw [e4] at e3'
        cases (show some y = some x from e3')
        rfl
    | none =>
      have no3 := List.find?_range_eq_none.mp e3
      have e4 : (List.range (n - (i + 1))).filter (fun j => decide (g (i + 1 + j) ≤ g i)) = [] := List.filter_eq_nil_iff.mpr fun k hk => by simpa using no3 k (List.mem_range.mp hk)
      rw [e4, hid_none (fun k hk => by
        by_cases c : k ≤ i
        · exact low k c
        · have q : decide (g (i + 1 + (k - (i + 1))) ≤ g i) = false := by simpa using no3 (k - (i + 1)) (by omega)
          rw [show i + 1 + (k - (i + 1)) = k by omega] at q
          unfold hides
          rw [q, decide_eq_false (show ¬ k < i by omega), Bool.and_false]
          rfl)]
      rfl
/-! ### lists of trees as data -/
theorem treeD_can : ∀ t : Tr, PyData.canLay0 (treeD t) = true
  | .nil => by simp only [treeD, PyData.canLay0]
  | .nod l r => by simp only [treeD, PyData.canLay0, PyData.canLayAll0, treeD_can l, treeD_can r, Bool.and_self]
def treesD (ts : List Tr) : PyData := .list (ts.map treeD)
theorem trees_can : ∀ l : List Tr, PyData.canLayAll0 (l.map treeD) = true
  | [] => by simp [PyData.canLayAll0]
  | x :: r => by
    have ih := trees_can r
    have h1 := treeD_can x
    simp only [List.map_cons, PyData.canLayAll0, h1, ih, Bool.and_self]
theorem trees_deep (c : Nat) : ∀ l : List Tr, (∀ t, t ∈ l → t.ht ≤ c) → PyData.depthAll (l.map treeD) ≤ c + 1
  | [], _ => by simp [PyData.depthAll]
  | x :: r, h => by
    have ih := trees_deep c r fun t ht => h t (List.mem_cons_of_mem _ ht)
    have h1 := treeD_deep x
    have h2 := h x List.mem_cons_self
    simp only [List.map_cons, PyData.depthAll]
    omega
theorem treesD_shaped {l : List Tr} (h : ∀ t, t ∈ l → t.ht ≤ 20) : SeqAt.shaped (treesD l) = true := by
  unfold SeqAt.shaped
  rw [Bool.and_eq_true]
  have h1 := trees_deep 20 l h
  refine ⟨?_, decide_eq_true ?_⟩
  · unfold treesD
    simp only [PyData.canLay0]
    exact trees_can l
  · unfold treesD
    simp only [PyData.depth]
    omega
theorem trees_dp {K : PySem.W.Frag} {H : Hp} {xs : List V} {ts : List Tr} (p : Paired (fun v t => TrAt H v t) xs ts) : DpAll K H xs (ts.map treeD) := by
  induction p with
  | nil => exact .nil
  | cons h _ ih => exact .cons h.dp ih
theorem trees_nil (ts : List Tr) : PyData.eqv (treesD ts) (treesD []) = ts.isEmpty := by
  cases ts with
  | nil => simp [treesD, PyData.eqv, PyData.eqvAll]
  | cons t r => simp [treesD, PyData.eqv, PyData.eqvAll]
/-- among how some searches ended -/
theorem ends_any (i : Nat) : ∀ rs : List (Bool × Nat), ((rs.map fun r => rowD (endRow r)).any fun z => PyData.eqv z (rowD [.str "found", natV i])) = rs.any fun r => decide (r = (true, i))
  | [] => rfl
  | r :: rs => by rw [List.map_cons, List.any_cons, List.any_cons, end_eqv, ends_any i rs]
end HSP
namespace HSP
open PySem PySem.Spec PyProof.Rows L2
section
variable {P : Program} {w : World} {K : PySem.W.Frag} {mg : Str → Option Value} {base : Heap}
/-! ### _law_all_shapes -/
/-- a list of trees -/
def TreesAt (H : Hp) (q : Addr) (ts : List Tr) : Prop := ∃ xs : List V, H q = some (.lst xs) ∧ Paired (fun v t => TrAt H v t) xs ts
theorem TreesAt.same {H H' : Hp} {q : Addr} {ts : List Tr} (h : TreesAt H q ts) (s : Same H H') : TreesAt H' q ts := by
  obtain ⟨xs, e, p⟩ := h
  exact ⟨xs, s _ _ e, Paired.mapP p fun v t h => h.same s⟩
def spShapes (n : Nat) : Sp := fun vs H Q _ => ∃ m : Nat, vs = [natV m] ∧ m < n ∧ m < 6 ∧ ∀ (H' : Hp) (q : Addr), Same H H' → H q = none → TreesAt H' q (shapesOf m) → Q (.ref q) H'
end
end HSP
namespace HSP
open PySem PySem.Spec PyProof.Rows L2
section
variable {P : Program} {w : World} {K : PySem.W.Frag} {mg : Str → Option Value} {base : Heap}
/-! ### _law_ended -/
def spEnded (n : Nat) : Sp := fun vs H Q _ => ∃ (v : V) (t : Tr) (a : Addr) (ns : List Int) (tw : Int), vs = [v, .ref a, .int tw] ∧ TrAt H v t ∧ t.ht < n ∧ H a = some (.lst (ns.map V.int)) ∧ ns.length = t.size ∧
  ∀ (H' : Hp) (r : Addr), Same H H' → H r = none → H' r = some (.tup (endRow (sEnd (valAt ns) tw .fin t 0))) → Q (.ref r) H'
end
end HSP
namespace HSP
open PySem PySem.Spec PyProof.Rows L2
/-! ## what a call raises for bad arguments -/
section
variable {K : PySem.W.Frag} {H : Hp}
theorem tr_th {v : V} {t : Tr} (h : TrAt H v t) : ∃ u : Th, ThAt K H v u ∧ u.good = true ∧ u.size = t.size := by
  induction h with
  | nil => exact ⟨.nil, .nil, rfl, rfl⟩
  | nod e _ _ i1 i2 =>
    obtain ⟨u1, h1, g1, z1⟩ := i1
    obtain ⟨u2, h2, g2, z2⟩ := i2
    refine ⟨.nod u1 u2, .nod e h1 h2, ?_, ?_⟩
    · show (u1.good && u2.good) = true
      rw [g1, g2]
      rfl
    · show u1.size + 1 + u2.size = _
      rw [z1, z2]
      rfl
theorem whole_int {i : Int} : WholeV K H (.int i) true := ⟨.type "int", true, false, .base (.int i), kit_ty (by decide +kernel), kit_ty (by decide +kernel), rfl⟩
theorem whole_ints {ns : List Int} {n : Nat} : ∀ i x, i < n → (ns.map V.int)[i]? = some x → WholeV K H x true := fun i x _ h => by
  rw [List.getElem?_map] at h
  obtain ⟨z, _, rfl⟩ := Option.map_eq_some_iff.mp h
  exact whole_int
theorem not_none {n : Nat} : NotVals K H .non n := .inl ⟨.type "NoneType", .base .non, kit_ty (by decide +kernel)⟩
theorem not_long {a : Addr} {xs : List V} {n : Nat} (e : H a = some (.lst xs)) (ne : xs.length ≠ n) : NotVals K H (.ref a) n := .inr ⟨a, xs, rfl, e, ne⟩
/-- the values are wrong as a whole -/
theorem vals_none {C1 C2 : Addr} {v y : V} {t : Tr} {Q : VK} {E : XK} (h : TrAt H v t) (z : t.size ≤ 1000) (n : NotVals K H y t.size) (e : EN C2 E H .non) : spChkVX K C1 C2 [v, y] H Q E := by
  obtain ⟨u, hu, gu, zu⟩ := tr_th (K := K) h
  exact ⟨v, y, u, rfl, hu, by omega, .inr (.inl ⟨gu, by rw [zu]; exact n, e⟩)⟩
/-- the tree is none -/
theorem vals_tree {C1 C2 : Addr} {v y : V} {Q : VK} {E : XK} (b : BadV K H v) (e : ∀ H', Same H H' → E (.ref C1) none H') : spChkVX K C1 C2 [v, y] H Q E :=
  ⟨v, y, .bad, rfl, .bad b, Nat.zero_le _, .inl ⟨rfl, e⟩⟩
/-- good values -/
theorem vals_good {C1 C2 : Addr} {v : V} {a : Addr} {ns : List Int} {t : Tr} {Q : VK} {E : XK} (h : TrAt H v t) (z : t.size ≤ 1000) (ea : H a = some (.lst (ns.map V.int))) (hn : ns.length = t.size) (q : ∀ H', Same H H' → Q .non H') : spChkVX K C1 C2 [v, .ref a] H Q E := by
  obtain ⟨u, hu, gu, zu⟩ := tr_th (K := K) h
  exact ⟨v, .ref a, u, rfl, hu, by omega, .inr (.inr ⟨gu, a, ns.map V.int, (ns.map V.int).length, rfl, ea, by rw [List.length_map]; omega, whole_ints, .inl ⟨rfl, q⟩⟩)⟩
/-- the first wrong item -/
theorem vals_node {C1 C2 : Addr} {v x : V} {a : Addr} {ns : List Int} {r : List V} {t : Tr} {Q : VK} {E : XK} (h : TrAt H v t) (z : t.size ≤ 1000) (ea : H a = some (.lst (ns.map V.int ++ x :: r))) (hn : ns.length + 1 + r.length = t.size) (wx : WholeV K H x false) (e : EN C2 E H (natV ns.length)) : spChkVX K C1 C2 [v, .ref a] H Q E := by
  obtain ⟨u, hu, gu, zu⟩ := tr_th (K := K) h
  refine ⟨v, .ref a, u, rfl, hu, by omega, .inr (.inr ⟨gu, a, _, ns.length, rfl, ea, by rw [List.length_append, List.length_map, List.length_cons]; omega, fun i y hi hy => ?_, .inr ⟨x, ?_, wx, e⟩⟩)⟩
  · rw [List.getElem?_append_left (by rw [List.length_map]; exact hi)] at hy
    exact whole_ints (n := ns.length) i y hi hy
  · rw [List.getElem?_append_right (by rw [List.length_map]; exact Nat.le_refl _), List.length_map, Nat.sub_self]
    rfl
theorem whole_bool {b : Bool} : WholeV K H (.bl b) false := ⟨.type "bool", true, true, .base (.bl b), kit_ty (by decide +kernel), kit_ty (by decide +kernel), rfl⟩
/-- a tuple of one -/
theorem bad_tup {a : Addr} {xs : List V} (e : H a = some (.tup xs)) (ne : xs.length ≠ 2) : BadV K H (.ref a) := ⟨fun z => (by cases z), .inr ⟨a, xs, rfl, e, ne⟩⟩
theorem e_tree {C1 : Addr} : ∀ H', Same H H' → ETree C1 H (.ref C1) none H' := fun _ s => ⟨rfl, rfl, s⟩
theorem e_node {C2 : Addr} {v : V} : EN C2 (ENode C2 H v) H v := fun _ dd s e => ⟨rfl, dd, rfl, e, s⟩
theorem e_node2 {C2 : Addr} {v : V} {H1 : Hp} (s1 : Same H H1) : EN C2 (ENode C2 H v) H1 v := fun _ dd s e => ⟨rfl, dd, rfl, e, s1.trans s⟩
end
end HSP
namespace HSP
open PySem PySem.Spec PyProof.Rows L2
/-! ## data in which empty dicts may stand, and their repr -/
mutual
inductive DpE (K : PySem.W.Frag) (H : Hp) : V → PyData → Prop
  | non' : DpE K H .non .none
  | bl' (b : Bool) : DpE K H (.bl b) (.bool b)
  | int' (i : Int) : DpE K H (.int i) (.int i)
  | str' (x : Str) : DpE K H (.str x) (.str x)
  | emp {p : Addr} : H p = some (.dK []) → DpE K H (.ref p) (.dict [])
  | lst' {p : Addr} {ys : List V} {es : List PyData} : SqL K H p ys → DpEs K H ys es → DpE K H (.ref p) (.list es)
  | tup' {p : Addr} {ys : List V} {es : List PyData} : SqT K H p ys → DpEs K H ys es → DpE K H (.ref p) (.tuple es)
inductive DpEs (K : PySem.W.Frag) (H : Hp) : List V → List PyData → Prop
  | nil' : DpEs K H [] []
  | cons' {y : V} {ys : List V} {e : PyData} {es : List PyData} : DpE K H y e → DpEs K H ys es → DpEs K H (y :: ys) (e :: es)
end
mutual
theorem DpE.of {K : PySem.W.Frag} {H : Hp} : ∀ (d : PyData) (v : V), Dp K H v d → DpE K H v d
  | .none, _, h => by cases h; exact .non'
  | .bool b, _, h => by cases h; exact .bl' b
  | .int i, _, h => by cases h; exact .int' i
  | .str x, _, h => by cases h; exact .str' x
  | .list ds, _, h => by
    cases h with
    | lst a b => exact .lst' a (DpEs.of ds _ b)
  | .tuple ds, _, h => by
    cases h with
    | tup a b => exact .tup' a (DpEs.of ds _ b)
  | .dict _, _, h => by cases h
theorem DpEs.of {K : PySem.W.Frag} {H : Hp} : ∀ (ds : List PyData) (vs : List V), DpAll K H vs ds → DpEs K H vs ds
  | [], _, h => by cases h; exact .nil'
  | d :: ds, _, h => by
    cases h with
    | cons a b => exact .cons' (DpE.of d _ a) (DpEs.of ds _ b)
end
theorem seqT_same {K : PySem.W.Frag} {H H' : Hp} {a : Addr} {xs : List V} (e : Same H H') (h : SqT K H a xs) : SqT K H' a xs := by
  rcases h with (h | ⟨o, h⟩) | h
  · exact .inl (.inl (e _ _ h))
  · exact .inl (.inr ⟨o, e _ _ h⟩)
  · exact .inr h
mutual
theorem DpE.same {K : PySem.W.Frag} {H H' : Hp} (s : Same H H') : ∀ (d : PyData) (v : V), DpE K H v d → DpE K H' v d
  | .none, _, h => by cases h; exact .non'
  | .bool b, _, h => by cases h; exact .bl' b
  | .int i, _, h => by cases h; exact .int' i
  | .str x, _, h => by cases h; exact .str' x
  | .list ds, _, h => by
    cases h with
    | lst' a b => exact .lst' (Same.seq s a) (DpEs.same s ds _ b)
  | .tuple ds, _, h => by
    cases h with
    | tup' a b => exact .tup' (seqT_same s a) (DpEs.same s ds _ b)
  | .dict [], _, h => by
    cases h with
    | emp e => exact .emp (s _ _ e)
  | .dict (_ :: _), _, h => by cases h
theorem DpEs.same {K : PySem.W.Frag} {H H' : Hp} (s : Same H H') : ∀ (ds : List PyData) (vs : List V), DpEs K H vs ds → DpEs K H' vs ds
  | [], _, h => by cases h; exact .nil'
  | d :: ds, _, h => by
    cases h with
    | cons' a b => exact .cons' (DpE.same s d _ a) (DpEs.same s ds _ b)
end
section
variable {X : Cx} {pins : List (Addr × Obj)} {σ : L2.St} {H : Hp} {s : Shared}
theorem no_pairs {P : Program} {w : World} {h : Heap} {p : Addr} {H : Hp} (x : ObjOk P w H h p (.dK [])) : (p == sysModules) = false ∧ ∃ o n, h.get? p = some o ∧ o.cls = .type "dict" ∧ o.data = .dict #[] n := by
  obtain ⟨_, sy, us, kv, o, es, ep, ho, ex, hd, _, ps, _⟩ := x
  cases kv
  obtain ⟨l⟩ := es
  cases l with
  | cons e r => cases ps
  | nil => exact ⟨sy, o, ep, ho, ex.1, hd⟩
mutual
theorem DpE.shows (I : Inv X pins σ H s) : ∀ (d : PyData) (v : V) (u : Value), DpE X.K H v d → RelV v u → d.showable = true → d.shown.length ≤ sizeLine → (∃ as, Reads s.heap u d as) ∧ ∃ bs, ReadAtMost s.heap d.depth bs ∧ ReprK X.prog X.w bs s.heap d.depth u d.shown
  | .none, _, _, h, r, g, z => by
    cases h
    cases r
    exact ⟨⟨_, .none⟩, ReprK.of_reads .none g (fun q => by simp [PyData.hasDict] at q) z⟩
  | .bool b, _, _, h, r, g, z => by
    cases h
    cases r
    exact ⟨⟨_, .bool b⟩, ReprK.of_reads (.bool b) g (fun q => by simp [PyData.hasDict] at q) z⟩
  | .int i, _, _, h, r, g, z => by
    cases h
    obtain ⟨k, rfl⟩ := r
    exact ⟨⟨_, .int i k⟩, ReprK.of_reads (.int i k) g (fun q => by simp [PyData.hasDict] at q) z⟩
  | .str x, _, _, h, r, g, z => by
    cases h
    obtain ⟨k, rfl⟩ := r
    exact ⟨⟨_, .str x k⟩, ReprK.of_reads (.str x k) g (fun q => by simp [PyData.hasDict] at q) z⟩
  | .dict [], _, _, h, r, _, _ => by
    cases h with
    | emp e =>
      cases r
      obtain ⟨sy, o, n, ho, hc, hd⟩ := no_pairs (I.hok _ _ e)
      have rd : ∃ as, Reads s.heap (.ref _) (.dict []) as := ⟨_, .dict ho hc hd .nil .nil⟩
      obtain ⟨as, rd⟩ := rd
      refine ⟨⟨as, rd⟩, [_], fun b hb => ⟨_, as, by rw [List.mem_singleton.mp hb]; exact rd, Nat.le_refl _⟩, ?_⟩
      have k := ReprK.dict (prog := X.prog) (w := X.w) (as := []) (h₀ := s.heap) (d := 0) ho hc hd sy (by simp) .nil
      simpa [PyData.depth, PyData.depthKv, PyData.shown, PyData.shownKv] using k
  | .dict (_ :: _), _, _, h, _, _, _ => by cases h
  | .list ds, _, _, h, r, g, z => by
    cases h with
    | lst' hs ha =>
      cases r
      obtain ⟨its, rv, ⟨o, n, ho, hc, _, hd⟩, _⟩ := I.list hs
      have z1 : (listText (PyData.shownAll ds)).length ≤ sizeLine := by simpa only [PyData.shown] using z
      obtain ⟨⟨as, hr⟩, bs, hb, hk⟩ := DpEs.shows I ds _ its ha rv (by simpa [PyData.showable] using g) fun t ht => Nat.le_trans (listText_mem_le ht) z1
      have rd := Reads.list ho hc hd hr
      refine ⟨⟨_, rd⟩, _ :: bs, ReadAtMost.cons rd (by simp only [PyData.depth]; omega) hb, ?_⟩
      have no := not_mem_of_deeper rd (by simp only [PyData.depth]; omega) hb
      simp only [PyData.depth, PyData.shown]
      cases its with
      | nil =>
        cases hr
        simp only [PyData.shownAll, listText_nil]
        exact ReprK.listEmpty ho hc hd
      | cons y r =>
        exact ReprK.list ho hc hd no (by simpa using hk.length_eq) fun i y e => hk.item i y (by simpa using e)
  | .tuple ds, _, _, h, r, g, z => by
    cases h with
    | tup' hs ha =>
      cases r
      obtain ⟨its, rv, ⟨o, ho, hc, n, hd⟩, _⟩ := I.tuple hs
      have z1 : (tupleText (PyData.shownAll ds)).length ≤ sizeLine := by simpa only [PyData.shown] using z
      obtain ⟨⟨as, hr⟩, bs, hb, hk⟩ := DpEs.shows I ds _ its ha rv (by simpa [PyData.showable] using g) fun t ht => Nat.le_trans (tupleText_mem_le ht) z1
      have rd := Reads.tuple ho hc hd hr
      refine ⟨⟨_, rd⟩, _ :: bs, ReadAtMost.cons rd (by simp only [PyData.depth]; omega) hb, ?_⟩
      simp only [PyData.depth, PyData.shown]
      exact ReprK.tuple ho hc hd (not_mem_of_deeper rd (by simp only [PyData.depth]; omega) hb) hk
theorem DpEs.shows (I : Inv X pins σ H s) : ∀ (ds : List PyData) (vs : List V) (us : List Value), DpEs X.K H vs ds → Vals vs us → PyData.showableAll ds = true → (∀ t ∈ PyData.shownAll ds, t.length ≤ sizeLine) → (∃ as, ReadsAll s.heap us ds as) ∧ ∃ bs, ReadAtMost s.heap (PyData.depthAll ds) bs ∧ ReprAllK X.prog X.w bs s.heap (PyData.depthAll ds) us (PyData.shownAll ds)
  | [], _, _, h, r, _, _ => by
    cases h
    cases r
    exact ⟨⟨_, .nil⟩, [], fun _ q => (by cases q), by simp only [PyData.shownAll]; exact .nil⟩
  | d :: ds, _, _, h, r, g, z => by
    cases h with
    | cons' h1 h2 =>
      cases r with
      | cons r1 r2 =>
        have g2 : d.showable = true ∧ PyData.showableAll ds = true := by simpa [PyData.showableAll] using g
        obtain ⟨⟨a1, q1⟩, b1, m1, k1⟩ := DpE.shows I d _ _ h1 r1 g2.1 (z _ (by simp only [PyData.shownAll]; exact List.mem_cons_self))
        obtain ⟨⟨a2, q2⟩, b2, m2, k2⟩ := DpEs.shows I ds _ _ h2 r2 g2.2 fun t ht => z t (by simp only [PyData.shownAll]; exact List.mem_cons_of_mem _ ht)
        have l1 : d.depth ≤ PyData.depthAll (d :: ds) := by simp only [PyData.depthAll]; omega
        have l2 : PyData.depthAll ds ≤ PyData.depthAll (d :: ds) := by simp only [PyData.depthAll]; omega
        refine ⟨⟨_, .cons q1 q2⟩, b1 ++ b2, (m1.mono l1).append (m2.mono l2), ?_⟩
        simp only [PyData.shownAll]
        exact .cons ((k1.more fun b q => List.mem_append_left _ q).level_le l1) (k2.more_le (fun b q => List.mem_append_right _ q) l2)
end
end
section
variable {X : Cx}
/-- repr of a list of such data -/
def rReprE (K : PySem.W.Frag) : List V → Hp → VK → Prop := fun vs H Q => ∃ (p : Addr) (ys : List V) (es : List PyData), vs = [.ref p] ∧ H p = some (.lst ys) ∧ DpEs K H ys es ∧ (PyData.list es).showable = true ∧ (PyData.list es).depth ≤ 60 ∧ (PyData.list es).shown.length ≤ sizeLine ∧ Q (.str (PyData.list es).shown) H
theorem cr_reprE (hgd : X.A.guards = some []) (hu : X.A.units + 64 < cLine) : CallR X (.builtin "repr") (rReprE X.K) := by
  intro pins s σ H vs us Q I r h
  obtain ⟨p, ys, es, rfl, hp, ha, g, h60, z, q⟩ := h
  rw [Vals.ref1 r]
  obtain ⟨its, rv, ⟨o, n, ho, hc, _, hd⟩, _⟩ := I.list (.of hp)
  have z1 : (listText (PyData.shownAll es)).length ≤ sizeLine := by simpa only [PyData.shown] using z
  obtain ⟨⟨as, hr⟩, bs, hb, hk⟩ := DpEs.shows I es _ its ha rv (by simpa [PyData.showable] using g) fun t ht => Nat.le_trans (listText_mem_le ht) z1
  have rd := Reads.list ho hc hd hr
  have no := not_mem_of_deeper rd (by simp only [PyData.depth]; omega) hb
  have ty : s.TypeIs (.ref p) "list" := ⟨o, ho, hc⟩
  have fin : ∀ h' u tk, (∀ b o, s.heap.get? b = some o → h'.get? b = some o) → (fun v s1 => ∃ y H', Inv X pins σ H' s1 ∧ RelV y v ∧ Q y H') (.str (PyData.list es).shown u) { s with heap := h', toks := tk } := fun h' u tk kp => ⟨.str _, H, I.kept kp, ⟨u, rfl⟩, q⟩
  have dp : (PyData.list es).depth = PyData.depthAll es + 1 := by simp only [PyData.depth]
  simp only [PyData.shown] at fin
  refine call_repr_slot (by omega) ty F.slot_list_repr.toG ?_
  cases its with
  | nil =>
    cases hr
    simp only [PyData.shownAll, listText_nil] at fin
    exact call_list_repr_empty ⟨o, ho, hc⟩ ho hd ⟨_, _, rfl, fin s.heap _ _ fun _ _ e => e⟩
  | cons y l =>
    exact call_list_reprK ho hc hd no (by simpa using hk.length_eq) (fun i y e => hk.item i y (by simpa using e)) hgd (fun b _ => Clear.nil b) (by show X.A.units + 1 + (PyData.depthAll es + 1) < cLine; omega) (fun _ _ e => e) (fun h' u tk kp => ⟨_, _, rfl, fin h' u tk kp⟩) z1
end
end HSP
namespace HSP
open PySem PySem.Spec PyProof.Rows L2
/-! ## how long the text of data is -/
mutual
def ndD : PyData → Nat
  | .list xs => 1 + ndDs xs
  | .tuple xs => 1 + ndDs xs
  | _ => 1
def ndDs : List PyData → Nat
  | [] => 0
  | x :: r => ndD x + ndDs r
end
mutual
def okD : PyData → Bool
  | .int i => decide (i.natAbs < 10 ^ 30)
  | .str s => decide ((reprText s).length ≤ 40)
  | .dict kvs => kvs.isEmpty
  | .list xs => okDs xs
  | .tuple xs => okDs xs
  | _ => true
def okDs : List PyData → Bool
  | [] => true
  | x :: r => okD x && okDs r
end
theorem okDs_all : ∀ {l : List PyData}, (∀ x, x ∈ l → okD x = true) → okDs l = true
  | [], _ => by simp [okDs]
  | x :: r, h => by
    have ih := okDs_all (l := r) fun y hy => h y (List.mem_cons_of_mem _ hy)
    simp [okDs, h x List.mem_cons_self, ih]
theorem ndDs_le (c : Nat) : ∀ {l : List PyData}, (∀ x, x ∈ l → ndD x ≤ c) → ndDs l ≤ c * l.length
  | [], _ => by simp [ndDs]
  | x :: r, h => by
    have ih := ndDs_le c (l := r) fun y hy => h y (List.mem_cons_of_mem _ hy)
    have h1 := h x List.mem_cons_self
    simp only [ndDs, List.length_cons, Nat.mul_succ]
    omega
theorem depthAll_le (c : Nat) : ∀ {l : List PyData}, (∀ x, x ∈ l → x.depth ≤ c) → PyData.depthAll l ≤ c
  | [], _ => by simp [PyData.depthAll]
  | x :: r, h => by
    have ih := depthAll_le c (l := r) fun y hy => h y (List.mem_cons_of_mem _ hy)
    have h1 := h x List.mem_cons_self
    simp only [PyData.depthAll]
    omega
mutual
theorem shown_nd : ∀ d : PyData, okD d = true → d.showable = true ∧ d.shown.length + 2 ≤ 60 * ndD d
  | .none, _ => ⟨by simp [PyData.showable], by simp only [PyData.shown, ndD]; decide +kernel⟩
  | .bool true, _ => ⟨by simp [PyData.showable], by simp only [PyData.shown, ndD]; decide +kernel⟩
  | .bool false, _ => ⟨by simp [PyData.showable], by simp only [PyData.shown, ndD]; decide +kernel⟩
  | .int i, h => by
    have h1 : i.natAbs < 10 ^ 30 := by simpa only [okD, decide_eq_true_eq] using h
    have h2 := int_len h1
    refine ⟨?_, ?_⟩
    · have := int_log h1
      simpa [PyData.showable] using this
    · simp only [ndD]
      omega
  | .str s, h => by
    have h1 : (reprText s).length ≤ 40 := by simpa only [okD, decide_eq_true_eq] using h
    refine ⟨by simp [PyData.showable], ?_⟩
    simp only [PyData.shown, ndD]
    omega
  | .dict [], _ => ⟨by simp [PyData.showable, PyData.showableKv], by simp only [PyData.shown, PyData.shownKv, ndD]; decide +kernel⟩
  | .dict (_ :: _), h => by simp [okD] at h
  | .list xs, h => by
    obtain ⟨h1, h2⟩ := shown_nds xs (by simpa only [okD] using h)
    have h3 := listText_le (PyData.shownAll xs)
    refine ⟨by simpa [PyData.showable] using h1, ?_⟩
    simp only [PyData.shown, ndD]
    omega
  | .tuple xs, h => by
    obtain ⟨h1, h2⟩ := shown_nds xs (by simpa only [okD] using h)
    have h3 := tupleText_le (PyData.shownAll xs)
    refine ⟨by simpa [PyData.showable] using h1, ?_⟩
    simp only [PyData.shown, ndD]
    omega
theorem shown_nds : ∀ l : List PyData, okDs l = true → PyData.showableAll l = true ∧ piled (PyData.shownAll l) ≤ 60 * ndDs l
  | [], _ => ⟨by simp [PyData.showableAll], by simp [PyData.shownAll, piled_nil]⟩
  | x :: r, h => by
    have h0 : okD x = true ∧ okDs r = true := by simpa only [okDs, Bool.and_eq_true] using h
    obtain ⟨a1, a2⟩ := shown_nd x h0.1
    obtain ⟨b1, b2⟩ := shown_nds r h0.2
    refine ⟨by simp [PyData.showableAll, a1, b1], ?_⟩
    simp only [PyData.shownAll, piled_cons, ndDs]
    omega
end
/-- data that repr shows -/
structure FineE (d : PyData) : Prop where
  ok : okD d = true
  nd : ndD d ≤ 100000
  deep : d.depth ≤ 50
theorem FineE.len {d : PyData} (f : FineE d) : d.shown.length ≤ sizeLine := by
  have h := (shown_nd d f.ok).2
  have h2 := f.nd
  show d.shown.length ≤ 16777216
  omega
theorem FineE.shows {d : PyData} (f : FineE d) : d.showable = true := (shown_nd d f.ok).1
end HSP
namespace HSP
open PySem PySem.Spec PyProof.Rows L2
/-! ## the representative -/
/-- the value nearest to v between two bounds -/
def clamp (lo hi : Option Int) (v : Int) : Int := match lo with
  | some l => if v ≤ l then l else match hi with
    | some h => if v ≥ h then h else v
    | none => v
  | none => match hi with
    | some h => if v ≥ h then h else v
    | none => v
/-- the values of the representative, in the order of the nodes -/
def repOf (g : Nat → Int) : Tr → Nat → Option Int → Option Int → List Int
  | .nil, _, _, _ => []
  | .nod l r, f, lo, hi => repOf g l f lo (some (clamp lo hi (g (f + l.size)))) ++ clamp lo hi (g (f + l.size)) :: repOf g r (f + l.size + 1) (some (clamp lo hi (g (f + l.size)))) hi
theorem repOf_nod (g : Nat → Int) (l r : Tr) (f : Nat) (lo hi : Option Int) : repOf g (.nod l r) f lo hi = repOf g l f lo (some (clamp lo hi (g (f + l.size)))) ++ clamp lo hi (g (f + l.size)) :: repOf g r (f + l.size + 1) (some (clamp lo hi (g (f + l.size)))) hi := rfl
theorem repOf_len (g : Nat → Int) : ∀ (t : Tr) (f : Nat) (lo hi : Option Int), (repOf g t f lo hi).length = t.size
  | .nil, _, _, _ => rfl
  | .nod l r, f, lo, hi => by
    rw [repOf_nod, List.length_append, List.length_cons, repOf_len g l, repOf_len g r]
    show _ = l.size + 1 + r.size
    omega
/-- bounds that do not cross -/
def Straight (lo hi : Option Int) : Prop := ∀ l h, lo = some l → hi = some h → l ≤ h
theorem straight_none : Straight none none := fun l h e => by cases e
theorem clamp_in {lo hi : Option Int} (s : Straight lo hi) (v : Int) : Straight lo (some (clamp lo hi v)) ∧ Straight (some (clamp lo hi v)) hi := by
  constructor
  · intro l h e1 e2
    subst e1
    cases e2
    cases hi with
    | none => show l ≤ if v ≤ l then l else v; split <;> omega
    | some d =>
      have := s l d rfl rfl
      show l ≤ if v ≤ l then l else if v ≥ d then d else v
      split <;> (try split) <;> omega
  · intro l h e1 e2
    subst e2
    cases e1
    cases lo with
    | none => show (if v ≥ h then h else v) ≤ h; split <;> omega
    | some d =>
      have := s d h rfl rfl
      show (if v ≤ d then d else if v ≥ h then h else v) ≤ h
      split <;> (try split) <;> omega
def upTo (hi : Option Int) (x : Int) : Prop := ∀ h, hi = some h → x ≤ h
def downTo (lo : Option Int) (x : Int) : Prop := ∀ l, lo = some l → l ≤ x
theorem rep_in {g : Nat → Int} : ∀ (t : Tr) (f : Nat) (lo hi : Option Int), Straight lo hi → (repOf g t f lo hi).Pairwise (· ≤ ·) ∧ ∀ x, x ∈ repOf g t f lo hi → downTo lo x ∧ upTo hi x
  | .nil, _, _, _, _ => ⟨.nil, fun x h => by cases h⟩
  | .nod l r, f, lo, hi, s => by
    rw [repOf_nod]
    obtain ⟨s1, s2⟩ := clamp_in s (g (f + l.size))
    obtain ⟨a1, a2⟩ := rep_in l f lo (some (clamp lo hi (g (f + l.size)))) s1
    obtain ⟨b1, b2⟩ := rep_in r (f + l.size + 1) (some (clamp lo hi (g (f + l.size)))) hi s2
    refine ⟨List.pairwise_append.mpr ⟨a1, List.pairwise_cons.mpr ⟨fun x hx => (b2 x hx).1 _ rfl, b1⟩, fun x hx y hy => ?_⟩, fun x hx => ?_⟩
    · have h1 := (a2 x hx).2 _ rfl
      rcases List.mem_cons.mp hy with z | z
      · rw [z]; exact h1
      · exact Int.le_trans h1 ((b2 y z).1 _ rfl)
    · rcases List.mem_append.mp hx with z | z
      · exact ⟨(a2 x z).1, fun h e => Int.le_trans ((a2 x z).2 _ rfl) (s2 _ _ rfl e)⟩
      · rcases List.mem_cons.mp z with z | z
        · rw [z]
          exact ⟨fun l e => s1 _ _ e rfl, fun h e => s2 _ _ rfl e⟩
        · exact ⟨fun l e => Int.le_trans (s1 _ _ e rfl) ((b2 x z).1 _ rfl), (b2 x z).2⟩
theorem clamp_id {lo hi : Option Int} {v : Int} (h1 : downTo lo v) (h2 : upTo hi v) : clamp lo hi v = v := by
  cases lo with
  | none => cases hi with
    | none => rfl
    | some h => have := h2 h rfl; show (if v ≥ h then h else v) = v; split <;> omega
  | some l => have := h1 l rfl; cases hi with
    | none => show (if v ≤ l then l else v) = v; split <;> omega
    | some h => have := h2 h rfl; show (if v ≤ l then l else if v ≥ h then h else v) = v; split <;> (try split) <;> omega
end HSP
namespace HSP
open PySem PySem.Spec PyProof.Rows L2
/-! ## trees of halving, trees put together -/
/-- the tree of halving, to so many levels -/
def halv : Nat → Nat → Tr
  | 0, _ => .nil
  | _ + 1, 0 => .nil
  | k + 1, m + 1 => .nod (halv k ((m + 1) / 2)) (halv k (m + 1 - (m + 1) / 2 - 1))
theorem half_lt {k m : Nat} (h : m + 1 < 2 ^ (k + 1)) : (m + 1) / 2 < 2 ^ k ∧ m + 1 - (m + 1) / 2 - 1 < 2 ^ k := by
  have e : 2 ^ (k + 1) = 2 ^ k * 2 := Nat.pow_succ 2 k
  omega
theorem halv_size : ∀ (k m : Nat), m < 2 ^ k → (halv (k + 1) m).size = m
  | _, 0, _ => rfl
  | 0, m + 1, h => by
    have e : 2 ^ 0 = 1 := rfl
    omega
  | k + 1, m + 1, h => by
    obtain ⟨h1, h2⟩ := half_lt h
    show (halv (k + 1) ((m + 1) / 2)).size + 1 + (halv (k + 1) (m + 1 - (m + 1) / 2 - 1)).size = m + 1
    rw [halv_size k _ h1, halv_size k _ h2]
    omega
theorem halv_ht : ∀ (k m : Nat), (halv k m).ht ≤ k
  | 0, _ => Nat.le_refl _
  | _ + 1, 0 => Nat.zero_le _
  | k + 1, m + 1 => by
    have h1 := halv_ht k ((m + 1) / 2)
    have h2 := halv_ht k (m + 1 - (m + 1) / 2 - 1)
    show max (halv k ((m + 1) / 2)).ht (halv k (m + 1 - (m + 1) / 2 - 1)).ht + 1 ≤ k + 1
    omega
/-- the trees, with a node between each two -/
def joinT : Nat → List Tr → Tr
  | 0, _ => .nil
  | n + 1, ts => if ts.length = 1 then ts.headD .nil else .nod (joinT n (ts.take (ts.length / 2))) (joinT n (ts.drop (ts.length / 2)))
/-- how many nodes that makes -/
def wide : List Tr → Nat
  | [] => 0
  | [t] => t.size
  | t :: r => t.size + 1 + wide r
theorem wide_app : ∀ (a b : List Tr), a ≠ [] → b ≠ [] → wide (a ++ b) = wide a + 1 + wide b
  | [], _, h, _ => absurd rfl h
  | [t], [], _, h => absurd rfl h
  | [t], u :: r, _, _ => rfl
  | t :: u :: r, b, _, hb => by
    have ih := wide_app (u :: r) b (by simp) hb
    show t.size + 1 + wide ((u :: r) ++ b) = t.size + 1 + wide (u :: r) + 1 + wide b
    rw [ih]
    omega
theorem take_ne {α : Type} {l : List α} (h : 2 ≤ l.length) : l.take (l.length / 2) ≠ [] := fun z => by
  have := congrArg List.length z
  rw [List.length_take, List.length_nil] at this
  omega
theorem drop_ne {α : Type} {l : List α} (h : 2 ≤ l.length) : l.drop (l.length / 2) ≠ [] := fun z => by
  have := congrArg List.length z
  rw [List.length_drop, List.length_nil] at this
  omega
theorem half_len {n : Nat} {α : Type} {l : List α} (h : l.length ≤ 2 ^ (n + 1)) : (l.take (l.length / 2)).length ≤ 2 ^ n ∧ (l.drop (l.length / 2)).length ≤ 2 ^ n := by
  have e : 2 ^ (n + 1) = 2 ^ n * 2 := Nat.pow_succ 2 n
  rw [List.length_take, List.length_drop]
  omega
theorem one_list {α : Type} {l : List α} (h : l ≠ []) (h2 : l.length ≤ 2 ^ 0) : ∃ t, l = [t] := by
  match l, h, h2 with
  | [], h, _ => exact absurd rfl h
  | [t], _, _ => exact ⟨t, rfl⟩
  | _ :: _ :: r, _, h2 =>
    have e : 2 ^ 0 = 1 := rfl
    rw [List.length_cons, List.length_cons] at h2
    omega
/-- what joinT makes, by halves -/
theorem join_ind {P : Nat → List Tr → Tr → Prop} (h1 : ∀ n t, P (n + 1) [t] t) (h2 : ∀ n a b x y, a ≠ [] → b ≠ [] → P n a x → P n b y → P (n + 1) (a ++ b) (.nod x y)) : ∀ (n : Nat) (ts : List Tr), ts ≠ [] → ts.length ≤ 2 ^ n → P (n + 1) ts (joinT (n + 1) ts)
  | 0, ts, hne, hl => by
    obtain ⟨t, rfl⟩ := one_list hne hl
    exact h1 0 t
  | n + 1, ts, hne, hl => by
    by_cases c : ts.length = 1
    · obtain ⟨t, rfl⟩ := one_list hne (Nat.le_of_eq c)
      exact h1 (n + 1) t
    · have c2 : 2 ≤ ts.length := by
        cases ts with
        | nil => exact absurd rfl hne
        | cons a r =>
          rw [List.length_cons] at c ⊢
          omega
      obtain ⟨l1, l2⟩ := half_len hl
      have a := join_ind h1 h2 n (ts.take (ts.length / 2)) (take_ne c2) l1
      have b := join_ind h1 h2 n (ts.drop (ts.length / 2)) (drop_ne c2) l2
      have z := h2 (n + 1) _ _ _ _ (take_ne c2) (drop_ne c2) a b
      rw [List.take_append_drop] at z
      show P (n + 1 + 1) ts (if ts.length = 1 then ts.headD .nil else .nod (joinT (n + 1) (ts.take (ts.length / 2))) (joinT (n + 1) (ts.drop (ts.length / 2))))
      rw [if_neg c]
      exact z
theorem join_size (n : Nat) (ts : List Tr) (h : ts ≠ []) (hl : ts.length ≤ 2 ^ n) : (joinT (n + 1) ts).size = wide ts :=
  join_ind (P := fun _ ts t => t.size = wide ts) (fun _ _ => rfl) (fun n a b x y ha hb e1 e2 => by
    show x.size + 1 + y.size = wide (a ++ b)
    rw [wide_app a b ha hb, e1, e2]) n ts h hl
theorem join_ht (m : Nat) (n : Nat) (ts : List Tr) (h : ts ≠ []) (hl : ts.length ≤ 2 ^ n) (hm : ∀ t, t ∈ ts → t.ht ≤ m) : (joinT (n + 1) ts).ht ≤ n + m := by
  have z := join_ind (P := fun k ts t => (∀ u, u ∈ ts → u.ht ≤ m) → t.ht + 1 ≤ k + m) (fun n t hm => by
    have := hm t (List.mem_singleton.mpr rfl)
    omega) (fun n a b x y ha hb e1 e2 hm => by
    have h1 := e1 fun u hu => hm u (List.mem_append_left _ hu)
    have h2 := e2 fun u hu => hm u (List.mem_append_right _ hu)
    show max x.ht y.ht + 1 + 1 ≤ n + 1 + m
    omega) n ts h hl hm
  omega
end HSP
namespace HSP
open PySem PySem.Spec PyProof.Rows L2
/-! ## goals of a list -/
structure GoalOk (g r : Nat → Int) (n : Nat) : Prop where
  up : ∀ i, i + 1 < n → r i ≤ r (i + 1)
  st : ∀ i, i < n → (i = 0 ∨ r (i - 1) ≠ r i) → r i ≤ g i
  en : ∀ i, i < n → (i + 1 = n ∨ r (i + 1) ≠ r i) → g i ≤ r i
  ex : ∀ i, i < n → ∃ j, j < n ∧ r j = r i ∧ g j = r i
theorem clamp_ge {lo hi : Option Int} {v : Int} (s : Straight lo hi) (h : lo ≠ some (clamp lo hi v)) : clamp lo hi v ≤ v := by
  cases lo with
  | none => cases hi with
    | none => exact Int.le_refl _
    | some b =>
      show (if v ≥ b then b else v) ≤ v
      split <;> omega
  | some a => cases hi with
    | none =>
      have e : clamp (some a) none v = if v ≤ a then a else v := rfl
      rw [e] at h ⊢
      by_cases c : v ≤ a
      · rw [if_pos c] at h
        exact absurd rfl h
      · rw [if_neg c]
        exact Int.le_refl _
    | some b =>
      have e : clamp (some a) (some b) v = if v ≤ a then a else if v ≥ b then b else v := rfl
      rw [e] at h ⊢
      by_cases c : v ≤ a
      · rw [if_pos c] at h
        exact absurd rfl h
      · rw [if_neg c]
        split <;> omega
theorem clamp_le {lo hi : Option Int} {v : Int} (s : Straight lo hi) (h : hi ≠ some (clamp lo hi v)) : v ≤ clamp lo hi v := by
  cases hi with
  | none => cases lo with
    | none => exact Int.le_refl _
    | some a =>
      show v ≤ if v ≤ a then a else v
      split <;> omega
  | some b => cases lo with
    | none =>
      have e : clamp none (some b) v = if v ≥ b then b else v := rfl
      rw [e] at h ⊢
      by_cases c : v ≥ b
      · rw [if_pos c] at h
        exact absurd rfl h
      · rw [if_neg c]
        exact Int.le_refl _
    | some a =>
      have e : clamp (some a) (some b) v = if v ≤ a then a else if v ≥ b then b else v := rfl
      have ab := s a b rfl rfl
      rw [e] at h ⊢
      by_cases c : v ≤ a
      · rw [if_pos c]
        exact c
      · rw [if_neg c] at h ⊢
        by_cases d : v ≥ b
        · rw [if_pos d] at h
          exact absurd rfl h
        · rw [if_neg d]
          exact Int.le_refl _
theorem get_app {α : Type} {a b : List α} {c : α} {i : Nat} : (a ++ c :: b)[i]? = if i < a.length then a[i]? else if i = a.length then some c else b[i - a.length - 1]? := by
  by_cases h : i < a.length
  · rw [if_pos h, List.getElem?_append_left h]
  · rw [if_neg h, List.getElem?_append_right (by omega)]
    by_cases e : i = a.length
    · rw [if_pos e, e, Nat.sub_self]
      rfl
    · rw [if_neg e, show i - a.length = (i - a.length - 1) + 1 by omega, List.getElem?_cons_succ]
      rfl
theorem up_get {l : List Int} (h : l.Pairwise (· ≤ ·)) {i j : Nat} {x y : Int} (hij : i < j) (hx : l[i]? = some x) (hy : l[j]? = some y) : x ≤ y := by
  obtain ⟨h1, e1⟩ := List.getElem?_eq_some_iff.mp hx
  obtain ⟨h2, e2⟩ := List.getElem?_eq_some_iff.mp hy
  rw [← e1, ← e2]
  exact List.pairwise_iff_getElem.mp h i j h1 h2 hij
/-- a block of the representative starts at a value that is not less, ends at one that is not greater, and holds an equal one -/
theorem rep_blocks {g : Nat → Int} : ∀ (t : Tr) (f : Nat) (lo hi : Option Int), Straight lo hi →
    (∀ (i : Nat) (v : Int), (repOf g t f lo hi)[i]? = some v → lo ≠ some v → (i = 0 ∨ (repOf g t f lo hi)[i - 1]? ≠ some v) → v ≤ g (f + i)) ∧
    (∀ (i : Nat) (v : Int), (repOf g t f lo hi)[i]? = some v → hi ≠ some v → (repOf g t f lo hi)[i + 1]? ≠ some v → g (f + i) ≤ v) ∧
    ∀ (i : Nat) (v : Int), (repOf g t f lo hi)[i]? = some v → lo ≠ some v → hi ≠ some v → ∃ j : Nat, (repOf g t f lo hi)[j]? = some v ∧ g (f + j) = v
  | .nil, f, lo, hi, _ => ⟨fun i v h => (by cases h), fun i v h => (by cases h), fun i v h => (by cases h)⟩
  | .nod l r, f, lo, hi, s => by
    obtain ⟨s1, s2⟩ := clamp_in s (g (f + l.size))
    obtain ⟨a1, a2, a3⟩ := rep_blocks (g := g) l f lo (some (clamp lo hi (g (f + l.size)))) s1
    obtain ⟨b1, b2, b3⟩ := rep_blocks (g := g) r (f + l.size + 1) (some (clamp lo hi (g (f + l.size)))) hi s2
    obtain ⟨u1, m1⟩ := rep_in (g := g) l f lo (some (clamp lo hi (g (f + l.size)))) s1
    obtain ⟨u2, m2⟩ := rep_in (g := g) r (f + l.size + 1) (some (clamp lo hi (g (f + l.size)))) hi s2
    have ge : lo ≠ some (clamp lo hi (g (f + l.size))) → clamp lo hi (g (f + l.size)) ≤ g (f + l.size) := clamp_ge s
    have le : hi ≠ some (clamp lo hi (g (f + l.size))) → g (f + l.size) ≤ clamp lo hi (g (f + l.size)) := clamp_le s
    have ll := repOf_len g l f lo (some (clamp lo hi (g (f + l.size))))
    rw [repOf_nod]
    generalize clamp lo hi (g (f + l.size)) = c at *
    generalize repOf g l f lo (some c) = Rl at *
    generalize repOf g r (f + l.size + 1) (some c) hi = Rr at *
    have lowR : ∀ {j : Nat} {v : Int}, Rr[j]? = some v → c ≤ v := fun h => (m2 _ (List.mem_of_getElem? h)).1 c rfl
    have highL : ∀ {j : Nat} {v : Int}, Rl[j]? = some v → v ≤ c := fun h => (m1 _ (List.mem_of_getElem? h)).2 c rfl
    refine ⟨fun i v h hlo st => ?_, fun i v h hhi en => ?_, fun i v h hlo hhi => ?_⟩
    · rw [get_app] at h
      by_cases c1 : i < Rl.length
      · rw [if_pos c1] at h
        refine a1 i v h hlo (st.imp id fun q => ?_)
        rw [get_app, if_pos (by omega)] at q
        exact q
      · rw [if_neg c1] at h
        by_cases c2 : i = Rl.length
        · rw [if_pos c2] at h
          cases h
          rw [c2, ll]
          exact ge hlo
        · rw [if_neg c2] at h
          have cv : c ≠ v := fun z => by
            rcases st with q | q
            · omega
            · rw [get_app, if_neg (by omega)] at q
              by_cases c3 : i - 1 = Rl.length
              · rw [if_pos c3] at q
                exact q (congrArg some z)
              · rw [if_neg c3] at q
                obtain ⟨y, hy⟩ : ∃ y, Rr[i - 1 - Rl.length - 1]? = some y := ⟨_, List.getElem?_eq_getElem (by have := (List.getElem?_eq_some_iff.mp h).1; omega)⟩
                have h1 := up_get u2 (show i - 1 - Rl.length - 1 < i - Rl.length - 1 by omega) hy h
                have h2 := lowR hy
                rw [hy] at q
                exact q (congrArg some (by omega))
          have z := b1 (i - Rl.length - 1) v h (fun z => cv (Option.some.inj z)) (by
            by_cases c3 : i - Rl.length - 1 = 0
            · exact .inl c3
            · refine .inr ?_
              rcases st with q | q
              · omega
              · rw [get_app, if_neg (by omega), if_neg (by omega)] at q
                rw [show i - Rl.length - 1 - 1 = i - 1 - Rl.length - 1 by omega]
                exact q)
          rw [show f + l.size + 1 + (i - Rl.length - 1) = f + i by omega] at z
          exact z
    · rw [get_app] at h
      by_cases c1 : i < Rl.length
      · rw [if_pos c1] at h
        have cv : c ≠ v := fun z => by
          rw [get_app] at en
          by_cases c2 : i + 1 < Rl.length
          · rw [if_pos c2] at en
            obtain ⟨y, hy⟩ : ∃ y, Rl[i + 1]? = some y := ⟨_, List.getElem?_eq_getElem c2⟩
            have h1 := up_get u1 (Nat.lt_succ_self i) h hy
            have h2 := highL hy
            rw [hy] at en
            exact en (congrArg some (by omega))
          · rw [if_neg c2, if_pos (by omega)] at en
            exact en (congrArg some z)
        refine a2 i v h (fun z => cv (Option.some.inj z)) ?_
        by_cases c2 : i + 1 < Rl.length
        · rw [get_app, if_pos c2] at en
          exact en
        · rw [List.getElem?_eq_none (by omega)]
          exact fun z => by cases z
      · rw [if_neg c1] at h
        by_cases c2 : i = Rl.length
        · rw [if_pos c2] at h
          cases h
          rw [c2, ll]
          exact le hhi
        · rw [if_neg c2] at h
          have z := b2 (i - Rl.length - 1) v h hhi (by
            rw [get_app, if_neg (by omega), if_neg (by omega)] at en
            rw [show i - Rl.length - 1 + 1 = i + 1 - Rl.length - 1 by omega]
            exact en)
          rw [show f + l.size + 1 + (i - Rl.length - 1) = f + i by omega] at z
          exact z
    · by_cases cv : v = c
      · have h1 := ge (by rw [← cv]; exact hlo)
        have h2 := le (by rw [← cv]; exact hhi)
        refine ⟨Rl.length, ?_, by rw [ll]; omega⟩
        rw [get_app, if_neg (by omega), if_pos rfl, cv]
      · rw [get_app] at h
        by_cases c1 : i < Rl.length
        · rw [if_pos c1] at h
          obtain ⟨j, h1, h2⟩ := a3 i v h hlo (fun z => cv (Option.some.inj z).symm)
          refine ⟨j, ?_, h2⟩
          rw [get_app, if_pos (List.getElem?_eq_some_iff.mp h1).1]
          exact h1
        · rw [if_neg c1] at h
          by_cases c2 : i = Rl.length
          · rw [if_pos c2] at h
            exact absurd (Option.some.inj h).symm cv
          · rw [if_neg c2] at h
            obtain ⟨j, h1, h2⟩ := b3 _ v h (fun z => cv (Option.some.inj z).symm) hhi
            refine ⟨Rl.length + 1 + j, ?_, ?_⟩
            · rw [get_app, if_neg (by omega), if_neg (by omega), show Rl.length + 1 + j - Rl.length - 1 = j by omega]
              exact h1
            · rw [← h2]
              exact congrArg g (by omega)
theorem rep_goal {g : Nat → Int} {t : Tr} {n : Nat} (hn : t.size = n) {r : Nat → Int} (hr : ∀ i, i < n → (repOf g t 0 none none)[i]? = some (r i)) : GoalOk g r n := by
  obtain ⟨a, b, c⟩ := rep_blocks (g := g) t 0 none none straight_none
  have up := (rep_in (g := g) t 0 none none straight_none).1
  have len := repOf_len g t 0 none none
  generalize repOf g t 0 none none = R at *
  refine ⟨fun i h => up_get up (Nat.lt_succ_self i) (hr i (by omega)) (hr (i + 1) h), fun i h st => ?_, fun i h en => ?_, fun i h => ?_⟩
  · have z := a i (r i) (hr i h) (fun z => by cases z) (by
      by_cases c : i = 0
      · exact .inl c
      · refine .inr ?_
        rw [hr (i - 1) (by omega)]
        exact fun z => (st.resolve_left c) (Option.some.inj z))
    rw [Nat.zero_add] at z
    exact z
  · have z := b i (r i) (hr i h) (fun z => by cases z) (by
      by_cases c : i + 1 < n
      · rw [hr (i + 1) c]
        exact fun z => (en.resolve_left (by omega)) (Option.some.inj z)
      · rw [List.getElem?_eq_none (by omega)]
        exact fun z => by cases z)
    rw [Nat.zero_add] at z
    exact z
  · obtain ⟨j, h1, h2⟩ := c i (r i) (hr i h) (fun z => by cases z) (fun z => by cases z)
    have hj := (List.getElem?_eq_some_iff.mp h1).1
    rw [Nat.zero_add] at h2
    rw [hr j (by omega)] at h1
    exact ⟨j, by omega, Option.some.inj h1, h2⟩
end HSP
namespace HSP
open PySem PySem.Spec PyProof.Rows L2
/-! ## a tree for a goal -/
def hiT (high : Nat) : Tr := if 0 < high then .nod .nil (halv 8 (high - 1)) else .nil
def passT (low high : Nat) : Tr := if 0 < low then .nod (halv 8 (low - 1)) (hiT high) else hiT high
theorem hiT_size {m : Nat} (h : m ≤ 64) : (hiT m).size = m := by
  unfold hiT
  by_cases c : 0 < m
  · rw [if_pos c]
    show 0 + 1 + (halv 8 (m - 1)).size = m
    rw [halv_size 7 _ (by show m - 1 < 128; omega)]
    omega
  · rw [if_neg c]
    show 0 = m
    omega
theorem passT_size {a b : Nat} (ha : a ≤ 64) (hb : b ≤ 64) : (passT a b).size = a + b := by
  unfold passT
  by_cases c : 0 < a
  · rw [if_pos c]
    show (halv 8 (a - 1)).size + 1 + (hiT b).size = a + b
    rw [halv_size 7 _ (by show a - 1 < 128; omega), hiT_size hb]
    omega
  · rw [if_neg c, hiT_size hb]
    omega
theorem passT_ht (a b : Nat) : (passT a b).ht ≤ 10 := by
  have h1 := halv_ht 8 (a - 1)
  have h2 := halv_ht 8 (b - 1)
  have h3 : (hiT b).ht ≤ 9 := by
    unfold hiT
    split
    · show max 0 (halv 8 (b - 1)).ht + 1 ≤ 9
      omega
    · exact Nat.zero_le _
  unfold passT
  split
  · show max (halv 8 (a - 1)).ht (hiT b).ht + 1 ≤ 10
    omega
  · omega
theorem rep_dead (g : Nat → Int) (v : Int) : ∀ (t : Tr) (f : Nat), repOf g t f (some v) (some v) = List.replicate t.size v
  | .nil, _ => rfl
  | .nod l r, f => by
    have c : ∀ x, clamp (some v) (some v) x = v := fun x => by
      show (if x ≤ v then v else if x ≥ v then v else x) = v
      split
      · rfl
      · split
        · rfl
        · omega
    rw [repOf_nod, c, rep_dead g v l, rep_dead g v r]
    show _ = List.replicate (l.size + 1 + r.size) v
    rw [show v :: List.replicate r.size v = List.replicate (1 + r.size) v by rw [Nat.add_comm]; rfl, List.replicate_append_replicate, Nat.add_assoc]
theorem rep_hi {g : Nat → Int} {f m : Nat} {lo hi : Option Int} {b : Int} (hm : m ≤ 64) (s : Straight lo hi) (h : 0 < m → hi = some b ∧ b ≤ g f) : repOf g (hiT m) f lo hi = List.replicate m b := by
  unfold hiT
  by_cases c : 0 < m
  · obtain ⟨e, h2⟩ := h c
    rw [if_pos c, repOf_nod]
    have ec : clamp lo hi (g (f + Tr.nil.size)) = b := by
      show clamp lo hi (g (f + 0)) = b
      rw [e, Nat.add_zero]
      cases lo with
      | none =>
        show (if g f ≥ b then b else g f) = b
        rw [if_pos h2]
      | some l =>
        have := s l b rfl e
        show (if g f ≤ l then l else if g f ≥ b then b else g f) = b
        by_cases c2 : g f ≤ l
        · rw [if_pos c2]
          omega
        · rw [if_neg c2, if_pos h2]
    rw [ec, e, rep_dead, halv_size 7 _ (by show m - 1 < 128; omega)]
    show b :: List.replicate (m - 1) b = _
    rw [show m = (m - 1) + 1 by omega]
    rfl
  · rw [if_neg c, show m = 0 by omega]
    rfl
theorem rep_pass {g : Nat → Int} {f low high : Nat} {lo hi : Option Int} {a b : Int} (h1 : low ≤ 64) (h2 : high ≤ 64) (s : Straight lo hi) (hl : 0 < low → lo = some a ∧ g (f + low - 1) ≤ a) (hh : 0 < high → hi = some b ∧ b ≤ g (f + low)) :
    repOf g (passT low high) f lo hi = List.replicate low a ++ List.replicate high b := by
  unfold passT
  by_cases c : 0 < low
  · obtain ⟨e, q⟩ := hl c
    have hs : (halv 8 (low - 1)).size = low - 1 := halv_size 7 _ (by show low - 1 < 128; omega)
    rw [if_pos c, repOf_nod, hs]
    have ec : clamp lo hi (g (f + (low - 1))) = a := by
      rw [e, show f + (low - 1) = f + low - 1 by omega]
      cases hi with
      | none =>
        show (if g (f + low - 1) ≤ a then a else g (f + low - 1)) = a
        rw [if_pos q]
      | some d =>
        show (if g (f + low - 1) ≤ a then a else _) = a
        rw [if_pos q]
    rw [ec, e, rep_dead, hs, rep_hi h2 (fun l h x y => by cases x; exact s a h e y) (fun q => by rw [show f + (low - 1) + 1 = f + low by omega]; exact hh q)]
    rw [show a :: List.replicate high b = [a] ++ List.replicate high b from rfl, ← List.append_assoc, show List.replicate (low - 1) a ++ [a] = List.replicate low a by
      rw [show low = (low - 1) + 1 by omega, List.replicate_succ']
      rfl]
  · rw [if_neg c, show low = 0 by omega]
    exact rep_hi h2 s fun q => by
      have := hh q
      rw [show low = 0 by omega] at this
      exact this
/-! ### parts put together -/
def flatRep (g : Nat → Int) : Nat → Option Int → Option Int → List Tr → List Int
  | _, _, _, [] => []
  | f, lo, hi, [t] => repOf g t f lo hi
  | f, lo, hi, t :: u :: r => repOf g t f lo (some (g (f + t.size))) ++ g (f + t.size) :: flatRep g (f + t.size + 1) (some (g (f + t.size))) hi (u :: r)
def IncG (g : Nat → Int) : Nat → Option Int → Option Int → List Tr → Prop
  | _, _, _, [] => True
  | _, _, _, [_] => True
  | f, lo, hi, t :: u :: r => downTo lo (g (f + t.size)) ∧ upTo hi (g (f + t.size)) ∧ IncG g (f + t.size + 1) (some (g (f + t.size))) hi (u :: r)
theorem inc_app {g : Nat → Int} : ∀ (a b : List Tr) (f : Nat) (lo hi : Option Int), a ≠ [] → b ≠ [] → IncG g f lo hi (a ++ b) →
    downTo lo (g (f + wide a)) ∧ upTo hi (g (f + wide a)) ∧ IncG g f lo (some (g (f + wide a))) a ∧ IncG g (f + wide a + 1) (some (g (f + wide a))) hi b
  | [], _, _, _, _, h, _, _ => absurd rfl h
  | [t], [], _, _, _, _, h, _ => absurd rfl h
  | [t], u :: r, f, lo, hi, _, _, h => ⟨h.1, h.2.1, trivial, h.2.2⟩
  | t :: u :: r, b, f, lo, hi, _, hb, h => by
    have h' : downTo lo (g (f + t.size)) ∧ upTo hi (g (f + t.size)) ∧ IncG g (f + t.size + 1) (some (g (f + t.size))) hi ((u :: r) ++ b) := h
    obtain ⟨h1, h2, h3⟩ := h'
    obtain ⟨i1, i2, i3, i4⟩ := inc_app (u :: r) b (f + t.size + 1) (some (g (f + t.size))) hi (List.cons_ne_nil _ _) hb h3
    have e : f + wide (t :: u :: r) = f + t.size + 1 + wide (u :: r) := by
      show f + (t.size + 1 + wide (u :: r)) = _
      omega
    rw [e]
    have le := i1 _ rfl
    exact ⟨fun l q => Int.le_trans (h1 l q) le, i2, ⟨h1, fun x q => by cases q; exact le, i3⟩, i4⟩
theorem flat_app {g : Nat → Int} : ∀ (a b : List Tr) (f : Nat) (lo hi : Option Int), a ≠ [] → b ≠ [] → flatRep g f lo hi (a ++ b) = flatRep g f lo (some (g (f + wide a))) a ++ g (f + wide a) :: flatRep g (f + wide a + 1) (some (g (f + wide a))) hi b
  | [], _, _, _, _, h, _ => absurd rfl h
  | [t], [], _, _, _, _, h => absurd rfl h
  | [t], u :: r, f, lo, hi, _, _ => rfl
  | t :: u :: r, b, f, lo, hi, _, hb => by
    have ih := flat_app (g := g) (u :: r) b (f + t.size + 1) (some (g (f + t.size))) hi (List.cons_ne_nil _ _) hb
    have e : f + wide (t :: u :: r) = f + t.size + 1 + wide (u :: r) := by
      show f + (t.size + 1 + wide (u :: r)) = _
      omega
    show repOf g t f lo (some (g (f + t.size))) ++ g (f + t.size) :: flatRep g (f + t.size + 1) (some (g (f + t.size))) hi ((u :: r) ++ b) = _
    rw [ih, e]
    show _ = (repOf g t f lo (some (g (f + t.size))) ++ g (f + t.size) :: flatRep g (f + t.size + 1) (some (g (f + t.size))) (some (g (f + t.size + 1 + wide (u :: r)))) (u :: r)) ++ _
    rw [List.append_assoc]
    rfl
theorem join_rep {g : Nat → Int} (n : Nat) (ts : List Tr) (h : ts ≠ []) (hl : ts.length ≤ 2 ^ n) (f : Nat) (lo hi : Option Int) (hi' : IncG g f lo hi ts) : repOf g (joinT (n + 1) ts) f lo hi = flatRep g f lo hi ts := by
  have z := join_ind (P := fun _ ts t => t.size = wide ts ∧ ∀ f lo hi, IncG g f lo hi ts → repOf g t f lo hi = flatRep g f lo hi ts) (fun _ t => ⟨rfl, fun f lo hi _ => rfl⟩) (fun k a b s t ha hb ⟨z1, h1⟩ ⟨z2, h2⟩ => by
    refine ⟨by show s.size + 1 + t.size = wide (a ++ b); rw [wide_app a b ha hb, z1, z2], fun f lo hi q => ?_⟩
    obtain ⟨i1, i2, i3, i4⟩ := inc_app a b f lo hi ha hb q
    rw [flat_app a b f lo hi ha hb, repOf_nod, z1, clamp_id i1 i2, h1 f lo _ i3, h2 _ _ hi i4]) n ts h hl
  exact z.2 f lo hi hi'
/-! ### the blocks of a goal -/
def Chain (r : Nat → Int) : Nat → List (Nat × Nat) → Nat → Prop
  | a, [], n => a = n
  | a, (x, y) :: rest, n => x = a ∧ a < y ∧ y ≤ n ∧ (∀ i, a ≤ i → i < y → r i = r a) ∧ (y < n → r y ≠ r (y - 1)) ∧ Chain r y rest n
def isFirst (r : Nat → Int) (i : Nat) : Bool := decide (i = 0) || !decide (r (i - 1) = r i)
def firstsOf (r : Nat → Int) (n : Nat) : List Nat := (List.range n).filter (isFirst r)
def pairsOf (r : Nat → Int) (n : Nat) : List (Nat × Nat) := (firstsOf r n).zip ((firstsOf r n).drop 1 ++ [n])
theorem const_to {r : Nat → Int} {a y : Nat} (h : ∀ i, a < i → i < y → r (i - 1) = r i) : ∀ (k i : Nat), i = a + k → i < y → r i = r a
  | 0, i, e, _ => by rw [e]; rfl
  | k + 1, i, e, hy => by
    have ih := const_to h k (i - 1) (by omega) (by omega)
    rw [← h i (by omega) hy]
    exact ih
theorem chain_of {r : Nat → Int} {n : Nat} : ∀ (l : List Nat) (a : Nat), a < n → (a :: l).Pairwise (· < ·) → (∀ i, i ∈ l → i < n) → (∀ i, a < i → i < n → (r (i - 1) ≠ r i ↔ i ∈ l)) → Chain r a ((a :: l).zip (l ++ [n])) n
  | [], a, ha, _, _, h => by
    refine ⟨rfl, ha, Nat.le_refl _, fun i h1 h2 => const_to (fun i h3 h4 => ?_) (i - a) i (by omega) h2, fun q => absurd q (Nat.lt_irrefl _), rfl⟩
    by_cases e : r (i - 1) = r i
    · exact e
    · exact absurd ((h i h3 h4).mp e) (by simp)
  | b :: l, a, ha, hp, hl, h => by
    obtain ⟨p1, p2⟩ := List.pairwise_cons.mp hp
    obtain ⟨p3, p4⟩ := List.pairwise_cons.mp p2
    have ab := p1 b List.mem_cons_self
    have bn := hl b List.mem_cons_self
    have ih := chain_of l b bn p2 (fun i hi => hl i (List.mem_cons_of_mem _ hi)) fun i h1 h2 => by
      rw [h i (by omega) h2]
      constructor
      · intro q
        rcases List.mem_cons.mp q with q | q
        · omega
        · exact q
      · exact fun q => List.mem_cons_of_mem _ q
    refine ⟨rfl, ab, Nat.le_of_lt bn, fun i h1 h2 => const_to (fun i h3 h4 => ?_) (i - a) i (by omega) h2, fun _ => fun z => ((h b ab bn).mpr List.mem_cons_self) z.symm, ih⟩
    by_cases e : r (i - 1) = r i
    · exact e
    · rcases List.mem_cons.mp ((h i h3 (by omega)).mp e) with q | q
      · omega
      · have := p3 i q
        omega
theorem chain_pairs (r : Nat → Int) (n : Nat) : Chain r 0 (pairsOf r n) n := by
  by_cases c : n = 0
  · rw [c]
    rfl
  have hp : (firstsOf r n).Pairwise (· < ·) := (List.pairwise_lt_range (n := n)).sublist List.filter_sublist
  have h0 : 0 ∈ firstsOf r n := List.mem_filter.mpr ⟨List.mem_range.mpr (by omega), rfl⟩
  unfold pairsOf
  have mem : ∀ i, i ∈ firstsOf r n → i < n := fun i hi => List.mem_range.mp (List.mem_filter.mp hi).1
  have iff : ∀ i, 0 < i → i < n → (r (i - 1) ≠ r i ↔ i ∈ firstsOf r n) := fun i h1 h2 => by
    unfold firstsOf
    rw [List.mem_filter, List.mem_range]
    unfold isFirst
    rw [decide_eq_false (show ¬ i = 0 by omega), Bool.false_or]
    simp [h2]
  cases e : firstsOf r n with
  | nil =>
    rw [e] at h0
    cases h0
  | cons x l =>
    rw [e] at hp h0 mem iff
    have x0 : x = 0 := by
      rcases List.mem_cons.mp h0 with q | q
      · exact q.symm
      · have := (List.pairwise_cons.mp hp).1 0 q
        omega
    rw [x0] at hp mem iff ⊢
    refine chain_of l 0 (by omega) hp (fun i hi => mem i (List.mem_cons_of_mem _ hi)) fun i h1 h2 => ?_
    rw [iff i h1 h2]
    constructor
    · intro q
      rcases List.mem_cons.mp q with q | q
      · omega
      · exact q
    · exact fun q => List.mem_cons_of_mem _ q
/-! ### the tree -/
def findIn (g r : Nat → Int) (a b : Nat) : Option Nat := if g a < r a ∨ g (b - 1) > r a then none else (List.range (b - a)).find? fun k => decide (g (a + k) = r a)
def partsFrom (g r : Nat → Int) : List (Nat × Nat) → Nat → Option (List Tr)
  | [], low => some [passT low 0]
  | (a, b) :: rest, low => match findIn g r a b with
    | none => none
    | some p => (partsFrom g r rest (b - a - p - 1)).map (passT low p :: ·)
theorem find_in {g r : Nat → Int} {a b p : Nat} (h : findIn g r a b = some p) : r a ≤ g a ∧ g (b - 1) ≤ r a ∧ p < b - a ∧ g (a + p) = r a := by
  unfold findIn at h
  by_cases c : g a < r a ∨ g (b - 1) > r a
  · rw [if_pos c] at h
    cases h
  · rw [if_neg c] at h
    obtain ⟨h1, h2, _⟩ := List.find?_range_eq_some.mp h
    exact ⟨by omega, by omega, List.mem_range.mp h2, of_decide_eq_true h1⟩
theorem parts_ne {g r : Nat → Int} : ∀ {ps : List (Nat × Nat)} {low : Nat} {ts : List Tr}, partsFrom g r ps low = some ts → ts ≠ []
  | [], low, ts, h => by
    cases h
    exact List.cons_ne_nil _ _
  | (a, b) :: rest, low, ts, h => by
    have h' : (match findIn g r a b with | none => none | some p => (partsFrom g r rest (b - a - p - 1)).map (passT low p :: ·)) = some ts := h
    cases e : findIn g r a b with
    | none => rw [e] at h'; cases h'
    | some p =>
      rw [e] at h'
      obtain ⟨ts', _, rfl⟩ := Option.map_eq_some_iff.mp h'
      exact List.cons_ne_nil _ _
theorem parts_rep {g r : Nat → Int} {n : Nat} (hn : n ≤ 64) (up : ∀ i, i + 1 < n → r i ≤ r (i + 1)) : ∀ (ps : List (Nat × Nat)) (a low : Nat) (lo : Option Int) (v : Int) (ts : List Tr), Chain r a ps n → partsFrom g r ps low = some ts → low ≤ a →
    (a < n → downTo lo (r a)) → (0 < low → lo = some v ∧ g (a - 1) ≤ v) → IncG g (a - low) lo none ts ∧ flatRep g (a - low) lo none ts = List.replicate low v ++ (List.range (n - a)).map (fun i => r (a + i)) ∧ a - low + wide ts = n ∧ ts.length ≤ n - a + 1 ∧ ∀ t, t ∈ ts → t.ht ≤ 10
  | [], a, low, lo, v, ts, hc, h, hla, _, hl => by
    cases h
    have e : a = n := hc
    refine ⟨trivial, ?_, ?_, Nat.le_add_left _ _, fun t ht => by rw [List.mem_singleton.mp ht]; exact passT_ht low 0⟩
    · show repOf g (passT low 0) (a - low) lo none = _
      rw [rep_pass (a := v) (b := 0) (by omega) (Nat.zero_le _) (fun l h _ q => by cases q) (fun q => by rw [show a - low + low - 1 = a - 1 by omega]; exact hl q) (fun q => absurd q (Nat.lt_irrefl 0)), show n - a = 0 by omega]
      rfl
    · show a - low + (passT low 0).size = n
      rw [passT_size (by omega) (Nat.zero_le _)]
      omega
  | (x, y) :: rest, a, low, lo, v, ts, hc, h, hla, hd, hl => by
    obtain ⟨rfl, c1, c2, c3, c4, c5⟩ := hc
    have h' : (match findIn g r x y with | none => none | some p => (partsFrom g r rest (y - x - p - 1)).map (passT low p :: ·)) = some ts := h
    cases e : findIn g r x y with
    | none => rw [e] at h'; cases h'
    | some p =>
      rw [e] at h'
      obtain ⟨ts', ht', rfl⟩ := Option.map_eq_some_iff.mp h'
      obtain ⟨f1, f2, f3, f4⟩ := find_in e
      have last : r (y - 1) = r x := c3 (y - 1) (by omega) (by omega)
      obtain ⟨i1, i2, i3, i4, i5⟩ := parts_rep hn up rest y (y - x - p - 1) (some (r x)) (r x) ts' c5 ht' (by omega) (fun q l z => by
        cases z
        have := up (y - 1) (by omega)
        rw [last, show y - 1 + 1 = y by omega] at this
        exact this) (fun _ => ⟨rfl, f2⟩)
      have ne := parts_ne ht'
      have ea : y - (y - x - p - 1) = x + p + 1 := by omega
      rw [ea] at i1 i2 i3
      have sz : (passT low p).size = low + p := passT_size (by omega) (by omega)
      have es : x - low + (passT low p).size = x + p := by
        rw [sz]
        omega
      cases ts' with
      | nil => exact absurd rfl ne
      | cons u w =>
        refine ⟨?_, ?_, ?_, ?_, fun t ht => ?_⟩
        · show downTo lo (g (x - low + (passT low p).size)) ∧ upTo none (g (x - low + (passT low p).size)) ∧ IncG g (x - low + (passT low p).size + 1) (some (g (x - low + (passT low p).size))) none (u :: w)
          rw [es, f4]
          exact ⟨hd (by omega), fun l z => (by cases z), i1⟩
        · show repOf g (passT low p) (x - low) lo (some (g (x - low + (passT low p).size))) ++ g (x - low + (passT low p).size) :: flatRep g (x - low + (passT low p).size + 1) (some (g (x - low + (passT low p).size))) none (u :: w) = _
          rw [es, f4, i2, rep_pass (a := v) (b := r x) (by omega) (by omega) (fun l h z1 z2 => by cases z2; exact hd (by omega) l z1) (fun q => by rw [show x - low + low - 1 = x - 1 by omega]; exact hl q) (fun _ => ⟨rfl, by rw [show x - low + low = x by omega]; exact f1⟩)]
          rw [List.append_assoc]
          congr 1
          have split : (List.range (n - x)).map (fun i => r (x + i)) = List.replicate (y - x) (r x) ++ (List.range (n - y)).map (fun i => r (y + i)) := by
            rw [show n - x = (y - x) + (n - y) by omega, List.range_add, List.map_append, List.map_map]
            congr 1
            · refine List.ext_getElem (by simp) fun i q1 q2 => ?_
              rw [List.length_map, List.length_range] at q1
              rw [List.getElem_map, List.getElem_range, List.getElem_replicate]
              exact c3 (x + i) (by omega) (by omega)
            · exact List.map_congr_left fun i _ => congrArg r (by show x + (y - x + i) = y + i; omega)
          rw [split, show y - x = p + (1 + (y - x - p - 1)) by omega, ← List.replicate_append_replicate, ← List.replicate_append_replicate, show p + (1 + (y - x - p - 1)) - p - 1 = y - x - p - 1 by omega, List.append_assoc, List.append_assoc]
          rfl
        · show x - low + ((passT low p).size + 1 + wide (u :: w)) = n
          omega
        · rw [List.length_cons]
          omega
        · rcases List.mem_cons.mp ht with q | q
          · rw [q]
            exact passT_ht low p
          · exact i5 t q
def treeFor (g r : Nat → Int) (n : Nat) : Option Tr := (partsFrom g r (pairsOf r n) 0).map (joinT 8)
theorem tree_for {g r : Nat → Int} {n : Nat} {t : Tr} (hn : n ≤ 64) (up : ∀ i, i + 1 < n → r i ≤ r (i + 1)) (h : treeFor g r n = some t) : repOf g t 0 none none = (List.range n).map r ∧ t.size = n ∧ t.ht ≤ 17 := by
  obtain ⟨ts, ht, rfl⟩ := Option.map_eq_some_iff.mp h
  obtain ⟨i1, i2, i3, i4, i5⟩ := parts_rep hn up (pairsOf r n) 0 0 none 0 ts (chain_pairs r n) ht (Nat.le_refl _) (fun _ l z => by cases z) (fun q => absurd q (Nat.lt_irrefl 0))
  have ne := parts_ne ht
  have few : ts.length ≤ 2 ^ 7 := by
    show ts.length ≤ 128
    omega
  rw [Nat.sub_zero] at i1 i2 i3 i4
  refine ⟨?_, ?_, ?_⟩
  · rw [join_rep 7 ts ne few 0 none none i1, i2]
    show [] ++ _ = _
    rw [List.nil_append]
    exact List.map_congr_left fun i _ => congrArg r (Nat.zero_add i)
  · rw [join_size 7 ts ne few]
    omega
  · exact join_ht 10 7 ts ne few i5
/-- where the three looks at each block succeed, there is one -/
theorem parts_some {g r : Nat → Int} {n : Nat} (ok : GoalOk g r n) : ∀ (ps : List (Nat × Nat)) (a low : Nat), Chain r a ps n → (a = 0 ∨ a = n ∨ r (a - 1) ≠ r a) → partsFrom g r ps low ≠ none
  | [], a, low, _, _ => fun z => by cases z
  | (x, y) :: rest, a, low, hc, hs => by
    obtain ⟨rfl, c1, c2, c3, c4, c5⟩ := hc
    have xn : x < n := by omega
    have mono : ∀ (k i : Nat), i + k < n → r i ≤ r (i + k) := fun k => by
      induction k with
      | zero => intro i _; exact Int.le_refl _
      | succ k ih =>
        intro i h
        exact Int.le_trans (ih i (by omega)) (ok.up (i + k) h)
    have st : r x ≤ g x := ok.st x xn (by
      rcases hs with q | q | q
      · exact .inl q
      · omega
      · exact .inr q)
    have last : r (y - 1) = r x := c3 (y - 1) (by omega) (by omega)
    have en : g (y - 1) ≤ r x := by
      rw [← last]
      refine ok.en (y - 1) (by omega) ?_
      by_cases q : y < n
      · refine .inr ?_
        rw [show y - 1 + 1 = y by omega]
        exact c4 q
      · exact .inl (by omega)
    obtain ⟨j, j1, j2, j3⟩ := ok.ex x xn
    have hj : x ≤ j ∧ j < y := by
      constructor
      · by_cases q : x ≤ j
        · exact q
        · have h1 := mono (x - 1 - j) j (by omega)
          rw [show j + (x - 1 - j) = x - 1 by omega] at h1
          have h2 := mono 1 (x - 1) (by omega)
          rw [show x - 1 + 1 = x by omega] at h2
          rcases hs with z | z | z
          · omega
          · omega
          · exact absurd (by omega) z
      · by_cases q : j < y
        · exact q
        · have h1 := mono (j - y) y (by omega)
          rw [show y + (j - y) = j by omega] at h1
          have h2 := mono 1 (y - 1) (by omega)
          rw [show y - 1 + 1 = y by omega] at h2
          exact absurd (by omega) (c4 (by omega))
    have e : findIn g r x y ≠ none := by
      unfold findIn
      rw [if_neg (by omega)]
      intro z
      have := List.find?_range_eq_none.mp z (j - x) (by omega)
      rw [show x + (j - x) = j by omega, decide_eq_true j3] at this
      cases this
    intro z
    have z' : (match findIn g r x y with | none => none | some p => (partsFrom g r rest (y - x - p - 1)).map (passT low p :: ·)) = none := z
    cases e2 : findIn g r x y with
    | none => exact e e2
    | some p =>
      rw [e2] at z'
      exact parts_some ok rest y (y - x - p - 1) c5 (by
        by_cases q : y < n
        · exact .inr (.inr (Ne.symm (c4 q)))
        · exact .inr (.inl (by omega))) (Option.map_eq_none_iff.mp z')
theorem tree_some {g r : Nat → Int} {n : Nat} (ok : GoalOk g r n) : treeFor g r n ≠ none := fun z =>
  parts_some ok (pairsOf r n) 0 0 (chain_pairs r n) (.inl rfl) (Option.map_eq_none_iff.mp z)
end HSP
namespace HSP
open PySem PySem.Spec PyProof.Rows L2
/-! ## the representative, cut from the root down -/
def capHi (c : Int) : Option Int → Int
  | none => c
  | some h => if h < c then h else c
def minI (v c : Int) : Int := if c < v then c else v
def maxI (v c : Int) : Int := if c > v then c else v
def capLo (c : Int) : Option Int → Int
  | none => c
  | some l => if l > c then l else c
theorem clamp_cap {lo hi : Option Int} {c v : Int} (s : Straight lo hi) : clamp (lo.map fun l => minI l c) (some (capHi c hi)) v = minI (clamp lo hi v) c := by
  cases lo with
  | none => cases hi with
    | none =>
      show (if v ≥ c then c else v) = if c < v then c else v
      split <;> split <;> omega
    | some h =>
      show (if v ≥ (if h < c then h else c) then (if h < c then h else c) else v) = if c < (if v ≥ h then h else v) then c else if v ≥ h then h else v
      repeat' split
      all_goals omega
  | some l => cases hi with
    | none =>
      show (if v ≤ (if c < l then c else l) then (if c < l then c else l) else if v ≥ c then c else v) = if c < (if v ≤ l then l else v) then c else if v ≤ l then l else v
      repeat' split
      all_goals omega
    | some h =>
      have := s l h rfl rfl
      show (if v ≤ (if c < l then c else l) then (if c < l then c else l) else if v ≥ (if h < c then h else c) then (if h < c then h else c) else v) = if c < (if v ≤ l then l else if v ≥ h then h else v) then c else if v ≤ l then l else if v ≥ h then h else v
      repeat' split
      all_goals omega
theorem rep_cap {g : Nat → Int} {c : Int} : ∀ (t : Tr) (f : Nat) (lo hi : Option Int), Straight lo hi → repOf g t f (lo.map fun l => minI l c) (some (capHi c hi)) = (repOf g t f lo hi).map fun v => minI v c
  | .nil, _, _, _, _ => rfl
  | .nod l r, f, lo, hi, s => by
    obtain ⟨s1, s2⟩ := clamp_in s (g (f + l.size))
    have h1 := rep_cap (g := g) (c := c) l f lo (some (clamp lo hi (g (f + l.size)))) s1
    have h2 := rep_cap (g := g) (c := c) r (f + l.size + 1) (some (clamp lo hi (g (f + l.size)))) hi s2
    rw [repOf_nod, repOf_nod, clamp_cap s, List.map_append, List.map_cons]
    have e1 : capHi c (some (clamp lo hi (g (f + l.size)))) = minI (clamp lo hi (g (f + l.size))) c := by
      show (if clamp lo hi (g (f + l.size)) < c then clamp lo hi (g (f + l.size)) else c) = if c < clamp lo hi (g (f + l.size)) then c else clamp lo hi (g (f + l.size))
      repeat' split
      all_goals omega
    rw [e1] at h1
    rw [h1]
    exact congrArg (fun z => _ ++ _ :: z) h2
theorem clamp_floor {lo hi : Option Int} {c v : Int} (s : Straight lo hi) : clamp (some (capLo c lo)) (hi.map fun h => maxI h c) v = maxI (clamp lo hi v) c := by
  cases lo with
  | none => cases hi with
    | none =>
      show (if v ≤ c then c else v) = if c > v then c else v
      split <;> split <;> omega
    | some h =>
      show (if v ≤ c then c else if v ≥ (if c > h then c else h) then (if c > h then c else h) else v) = if c > (if v ≥ h then h else v) then c else if v ≥ h then h else v
      repeat' split
      all_goals omega
  | some l => cases hi with
    | none =>
      show (if v ≤ (if l > c then l else c) then (if l > c then l else c) else v) = if c > (if v ≤ l then l else v) then c else if v ≤ l then l else v
      repeat' split
      all_goals omega
    | some h =>
      have := s l h rfl rfl
      show (if v ≤ (if l > c then l else c) then (if l > c then l else c) else if v ≥ (if c > h then c else h) then (if c > h then c else h) else v) = if c > (if v ≤ l then l else if v ≥ h then h else v) then c else if v ≤ l then l else if v ≥ h then h else v
      repeat' split
      all_goals omega
theorem rep_floor {g : Nat → Int} {c : Int} : ∀ (t : Tr) (f : Nat) (lo hi : Option Int), Straight lo hi → repOf g t f (some (capLo c lo)) (hi.map fun h => maxI h c) = (repOf g t f lo hi).map fun v => maxI v c
  | .nil, _, _, _, _ => rfl
  | .nod l r, f, lo, hi, s => by
    obtain ⟨s1, s2⟩ := clamp_in s (g (f + l.size))
    have h1 := rep_floor (g := g) (c := c) l f lo (some (clamp lo hi (g (f + l.size)))) s1
    have h2 := rep_floor (g := g) (c := c) r (f + l.size + 1) (some (clamp lo hi (g (f + l.size)))) hi s2
    rw [repOf_nod, repOf_nod, clamp_floor s, List.map_append, List.map_cons]
    have e1 : capLo c (some (clamp lo hi (g (f + l.size)))) = maxI (clamp lo hi (g (f + l.size))) c := by
      show (if clamp lo hi (g (f + l.size)) > c then clamp lo hi (g (f + l.size)) else c) = if c > clamp lo hi (g (f + l.size)) then c else clamp lo hi (g (f + l.size))
      repeat' split
      all_goals omega
    rw [e1] at h2
    rw [h2]
    exact congrArg (fun z => z ++ _) h1
theorem rep_congr {g g' : Nat → Int} : ∀ (t : Tr) (f f' : Nat) (lo hi : Option Int), (∀ i, i < t.size → g (f + i) = g' (f' + i)) → repOf g t f lo hi = repOf g' t f' lo hi
  | .nil, _, _, _, _, _ => rfl
  | .nod l r, f, f', lo, hi, h => by
    have z : (Tr.nod l r).size = l.size + 1 + r.size := rfl
    rw [z] at h
    rw [repOf_nod, repOf_nod, h l.size (by omega), rep_congr l f f' lo _ (fun i hi => h i (by omega)), rep_congr r (f + l.size + 1) (f' + l.size + 1) _ hi (fun i hi => by
      have := h (l.size + 1 + i) (by omega)
      rw [show f + (l.size + 1 + i) = f + l.size + 1 + i by omega, show f' + (l.size + 1 + i) = f' + l.size + 1 + i by omega] at this
      exact this)]
/-- the cut of a tree and a list -/
def cutT (t : Tr) (ns : List Int) : List Int := repOf (valAt ns) t 0 none none
theorem cut_len (t : Tr) (ns : List Int) : (cutT t ns).length = t.size := repOf_len _ _ _ _ _
theorem cut_nod {l r : Tr} {ns : List Int} (h : ns.length = l.size + 1 + r.size) :
    cutT (.nod l r) ns = ((cutT l (ns.take l.size)).map fun v => minI v (valAt ns l.size)) ++ valAt ns l.size :: (cutT r (ns.drop (l.size + 1))).map fun v => maxI v (valAt ns l.size) := by
  unfold cutT
  rw [repOf_nod, Nat.zero_add]
  have ec : clamp none none (valAt ns l.size) = valAt ns l.size := rfl
  rw [ec]
  have h1 := rep_cap (g := valAt ns) (c := valAt ns l.size) l 0 none none straight_none
  have h2 := rep_floor (g := valAt ns) (c := valAt ns l.size) r (l.size + 1) none none straight_none
  have h1 : repOf (valAt ns) l 0 none (some (valAt ns l.size)) = (repOf (valAt ns) l 0 none none).map fun v => minI v (valAt ns l.size) := h1
  have h2 : repOf (valAt ns) r (l.size + 1) (some (valAt ns l.size)) none = (repOf (valAt ns) r (l.size + 1) none none).map fun v => maxI v (valAt ns l.size) := h2
  rw [h1, h2, rep_congr (g := valAt ns) (g' := valAt (ns.take l.size)) l 0 0 none none (fun i hi => by
    unfold valAt
    rw [List.getD_eq_getElem?_getD, List.getD_eq_getElem?_getD, List.getElem?_take, if_pos (by omega)]), rep_congr (g := valAt ns) (g' := valAt (ns.drop (l.size + 1))) r (l.size + 1) 0 none none (fun i hi => by
    unfold valAt
    rw [List.getD_eq_getElem?_getD, List.getD_eq_getElem?_getD, List.getElem?_drop, Nat.zero_add])]
/-! ### equal lists of numbers -/
theorem ints_eqv : ∀ a b : List Int, PyData.eqv (intsD a) (intsD b) = decide (a = b) := by
  have key : ∀ a b : List Int, PyData.eqvAll (a.map PyData.int) (b.map PyData.int) = decide (a = b) := fun a => by
    induction a with
    | nil =>
      intro b
      cases b with
      | nil => simp [PyData.eqvAll]
      | cons => simp [PyData.eqvAll]
    | cons x r ih =>
      intro b
      cases b with
      | nil => simp [PyData.eqvAll]
      | cons y s =>
        have := ih s
        simp only [List.map_cons, PyData.eqvAll, PyData.eqv, this]
        by_cases c : x = y
        · by_cases d : r = s
          · rw [c, d]
            simp
          · rw [decide_eq_false d, Bool.and_false, decide_eq_false (fun z => d (List.cons.inj z).2)]
        · rw [decide_eq_false (fun z => c (List.cons.inj z).1)]
          have : (x == y) = false := beq_eq_false_iff_ne.mpr c
          rw [this, Bool.false_and]
  intro a b
  unfold intsD
  simp only [PyData.eqv]
  exact key a b
theorem ints_any (x : List Int) : ∀ E : List (List Int), ((E.map intsD).any fun z => PyData.eqv z (intsD x)) = decide (x ∈ E)
  | [] => rfl
  | e :: E => by
    rw [List.map_cons, List.any_cons, ints_eqv, ints_any x E]
    by_cases c : e = x
    · rw [decide_eq_true c, Bool.true_or, decide_eq_true (List.mem_cons.mpr (.inl c.symm))]
    · rw [decide_eq_false c, Bool.false_or]
      by_cases d : x ∈ E
      · rw [decide_eq_true d, decide_eq_true (List.mem_cons_of_mem _ d)]
      · rw [decide_eq_false d, decide_eq_false (fun z => (List.mem_cons.mp z).elim (fun q => c q.symm) d)]
def listsD (E : List (List Int)) : PyData := .list (E.map intsD)
theorem lists_can : ∀ E : List (List Int), PyData.canLayAll0 (E.map intsD) = true
  | [] => by simp [PyData.canLayAll0]
  | e :: E => by
    have ih := lists_can E
    have h1 : PyData.canLay0 (intsD e) = true := by
      unfold intsD
      simp only [PyData.canLay0]
      exact ints_can e
    simp only [List.map_cons, PyData.canLayAll0, h1, ih, Bool.and_self]
theorem lists_deep : ∀ E : List (List Int), PyData.depthAll (E.map intsD) ≤ 3
  | [] => by simp [PyData.depthAll]
  | e :: E => by
    have ih := lists_deep E
    have h1 := ints_deep e
    have h2 : (intsD e).depth ≤ 2 := by
      unfold intsD
      simp only [PyData.depth]
      omega
    simp only [List.map_cons, PyData.depthAll]
    omega
theorem lists_shaped (E : List (List Int)) : SeqAt.shaped (listsD E) = true := by
  unfold SeqAt.shaped
  rw [Bool.and_eq_true]
  have h1 := lists_deep E
  refine ⟨?_, decide_eq_true ?_⟩
  · unfold listsD
    simp only [PyData.canLay0]
    exact lists_can E
  · unfold listsD
    simp only [PyData.depth]
    omega
theorem lists_dp {K : PySem.W.Frag} {H : Hp} {as : List Addr} {E : List (List Int)} (p : Paired (fun a (l : List Int) => H a = some (.lst (l.map V.int))) as E) : DpAll K H (as.map V.ref) (E.map intsD) := by
  induction p with
  | nil => exact .nil
  | cons e _ ih => exact .cons (.lst (.of e) (ints_dpAll _)) ih
end HSP
namespace HSP
open PySem PySem.Spec PyProof.Rows L2
/-! ### sorted lists with the same numbers -/
theorem sorted_same : ∀ {l m : List Int}, l.Perm m → l.Pairwise (· ≤ ·) → m.Pairwise (· ≤ ·) → l = m
  | [], m, p, _, _ => p.nil_eq
  | a :: l, [], p, _, _ => absurd p.length_eq (by simp)
  | a :: l, b :: m, p, hl, hm => by
    obtain ⟨l1, l2⟩ := List.pairwise_cons.mp hl
    obtain ⟨m1, m2⟩ := List.pairwise_cons.mp hm
    have e : a = b := by
      have h1 : a ≤ b := by
        rcases List.mem_cons.mp (p.mem_iff.mpr (List.mem_cons_self : b ∈ b :: m)) with z | z
        · omega
        · exact l1 b z
      have h2 : b ≤ a := by
        rcases List.mem_cons.mp (p.mem_iff.mp (List.mem_cons_self : a ∈ a :: l)) with z | z
        · omega
        · exact m1 a z
      omega
    subst e
    rw [sorted_same (List.perm_cons a |>.mp p) l2 m2]
theorem range_up (n : Nat) : ((List.range n).map Int.ofNat).Pairwise (· ≤ ·) := by
  rw [List.pairwise_map]
  exact (List.pairwise_lt_range (n := n)).imp fun h => Int.ofNat_le.mpr (Nat.le_of_lt h)
end HSP
namespace HSP
open PySem PySem.Spec PyProof.Rows L2
/-! ### things made of lists and whatever -/
def NotL (K : PySem.W.Frag) (H : Hp) (y : V) : Prop := ∃ t, TyX K H y t ∧ PySem.W.kitOne K t (.type "list") = some false
theorem NotL.same {K : PySem.W.Frag} {H H' : Hp} {y : V} (s : Same H H') (h : NotL K H y) : NotL K H' y := by
  obtain ⟨t, ty, k⟩ := h
  exact ⟨t, TyX.same s ty, k⟩
/-- an item: a whole number, or something else -/
def ItemAt (K : PySem.W.Frag) (H : Hp) (x : V) : Option Int → Prop
  | some i => x = .int i
  | none => WholeV K H x false
/-- a row: a list of items, or something else -/
def RwAt (K : PySem.W.Frag) (H : Hp) (y : V) : Option (List (Option Int)) → Prop
  | none => NotL K H y
  | some is => ∃ (a : Addr) (xs : List V), y = .ref a ∧ H a = some (.lst xs) ∧ Paired (ItemAt K H) xs is
def ThingAt (K : PySem.W.Frag) (H : Hp) (y : V) : Option (List (Option (List (Option Int)))) → Prop
  | none => NotL K H y
  | some ks => ∃ (a : Addr) (xs : List V), y = .ref a ∧ H a = some (.lst xs) ∧ Paired (RwAt K H) xs ks
theorem ItemAt.same {K : PySem.W.Frag} {H H' : Hp} (s : Same H H') {x : V} : ∀ {i : Option Int}, ItemAt K H x i → ItemAt K H' x i
  | some _, h => h
  | none, h => WholeV.same s h
theorem RwAt.same {K : PySem.W.Frag} {H H' : Hp} (s : Same H H') {y : V} : ∀ {k : Option (List (Option Int))}, RwAt K H y k → RwAt K H' y k
  | none, h => NotL.same s h
  | some _, ⟨a, xs, e, ha, p⟩ => ⟨a, xs, e, s _ _ ha, Paired.mapP p fun _ _ h => ItemAt.same s h⟩
theorem ThingAt.same {K : PySem.W.Frag} {H H' : Hp} (s : Same H H') {y : V} : ∀ {k : Option (List (Option (List (Option Int))))}, ThingAt K H y k → ThingAt K H' y k
  | none, h => NotL.same s h
  | some _, ⟨a, xs, e, ha, p⟩ => ⟨a, xs, e, s _ _ ha, Paired.mapP p fun _ _ h => RwAt.same s h⟩
def rowLen : Option (List (Option Int)) → Nat
  | none => 0
  | some is => is.length
/-- not too great -/
def ThSmall : Option (List (Option (List (Option Int)))) → Prop
  | none => True
  | some ks => ks.length ≤ 100 ∧ ∀ k, k ∈ ks → rowLen k ≤ 200
/-- rows of whole numbers -/
def asRows (rws : List (List Int)) : Option (List (Option (List (Option Int)))) := some (rws.map fun r => some (r.map some))
def SplitK (th : Option (List (Option (List (Option Int))))) (n : Nat) : Prop := ∃ rws : List (List Int), th = asRows rws ∧ (∀ r, r ∈ rws → r ≠ []) ∧ rws.flatten.Perm ((List.range n).map Int.ofNat)
theorem flat_le (c : Nat) : ∀ {l : List (List Int)}, (∀ r, r ∈ l → r.length ≤ c) → l.flatten.length ≤ c * l.length
  | [], _ => Nat.zero_le _
  | x :: r, h => by
    have ih := flat_le c (l := r) fun y hy => h y (List.mem_cons_of_mem _ hy)
    have h1 := h x List.mem_cons_self
    rw [List.flatten_cons, List.length_append, List.length_cons, Nat.mul_succ]
    omega
theorem some_inj : ∀ {a b : List Int}, a.map some = b.map (some : Int → Option Int) → a = b
  | [], [], _ => rfl
  | [], _ :: _, h => by cases h
  | _ :: _, [], h => by cases h
  | x :: a, y :: b, h => by
    rw [List.map_cons, List.map_cons] at h
    obtain ⟨h1, h2⟩ := List.cons.inj h
    rw [Option.some.inj h1, some_inj h2]
section
variable {P : Program} {w : World} {K : PySem.W.Frag} {mg : Str → Option Value} {base : Heap}
theorem sc_splitX : FnScope n_is_split ["thing", "nodes"] (defScope s_is_split) := ⟨rfl, rfl, rfl, by decide +kernel, rfl, by decide +kernel, by decide +kernel⟩
def spSplitX (K : PySem.W.Frag) : Sp := fun vs H Q _ => ∃ (y : V) (N : Addr) (th : Option (List (Option (List (Option Int))))) (n : Nat), vs = [y, .ref N] ∧ ThingAt K H y th ∧ ThSmall th ∧ H N = some (.lst ((List.range n).map natV)) ∧ n ≤ 900 ∧ ∀ (H' : Hp) (b : Bool), Same H H' → (b = true ↔ SplitK th n) → Q (.bl b) H'
theorem ok_splitX (B : Bl mg) (Wh : Df P w K mg base "is_whole" 1 ["thing"] (spWholeX K)) (a : At K mg "is_split" s_is_split) : Df P w K mg base "is_split" 2 ["thing", "nodes"] (spSplitX K) := by
  refine Df.mk' a sc_splitX (fun vs H Q E h => ?_) (fun _ _ _ _ _ _ us hl => match us, hl with | [_, _], _ => rfl) (fun f cdv A outer s H vs Q E hr h => ?_)
  · obtain ⟨_, _, _, _, rfl, _⟩ := h
    rfl
  obtain ⟨y, N, th, n, rfl, hth, sm, eN, h900, q⟩ := h
  have zero : 0 ≤ sizeLine := by show 0 ≤ sizeLine; decide
  have no : ∀ H', Same H H' → ¬ SplitK th n → Q (.bl false) H' := fun H' s h => q H' false s ⟨fun z => (by cases z), fun z => absurd z h⟩
  refine ⟨_, (pss_cons (ps_if (pt_not (pt_val (pe_callB call_isi (by rfl) B.isinstance (by decide +kernel) (pa_cons (pv 0) (pa_cons (pe_bltn (v := .ty "list") (by rfl) B.list (by decide +kernel) rfl) pa_nil))))) (pss_one (ps_ret pe_bl)) pss_nil)
 (pss_cons (ps_set (i := 2) sc_splitX.nd rfl (.inl rfl) (pe_lst pa_nil))
 (pss_cons (ps_for PassesOwn.never rfl (pi_list (pv 0)) (pg_name (i := 3) sc_splitX.nd rfl (.inl rfl)) (pss_cons (ps_if (PW.pt (pw_or (pt_not (pt_val (pe_callB call_isi (by rfl) B.isinstance (by decide +kernel) (pa_cons (pv 3) (pa_cons (pe_bltn (v := .ty "list") (by rfl) B.list (by decide +kernel) rfl) pa_nil))))) (pw_or1 (pt_cmpR op_eq (pe_callB call_len_seq (by rfl) B.len PySem.boot_len (pa_cons (pv 3) pa_nil)) pe_int (nomark _))))) (pss_one (ps_ret pe_bl)) pss_nil)
 (pss_one (ps_for PassesOwn.never rfl (pi_list (pv 3)) (pg_name (i := 4) sc_splitX.nd rfl (.inl rfl)) (pss_cons (ps_if (pt_not (pt_val (pe_df Wh hr (pa_cons (pv 4) pa_nil)))) (pss_one (ps_ret pe_bl)) pss_nil)
 (pss_one (ps_expr (pe_bm PySem.F.plainAttrs_list PySem.F.slot_list_append PySem.F.type_list_append mt_append (pv 2) (pa_cons (pv 4) pa_nil)))))))))
 (pss_one (ps_ret (pe_cmpR (op_eqD hr.units) (pe_callB cr_sortedI (by rfl) B.sorted (by decide +kernel) (pa_cons (pv 2) pa_nil)) (pv 1) (nomark _))))))), ?_⟩
  cases th with
  | none =>
    obtain ⟨t, ty, k⟩ := hth
    refine ⟨_, rfl, _, _, _, _, false, rfl, .ty "list", ty, k, false, rfl, iteT ?_⟩
    exact no H (Same.refl _) fun ⟨_, h, _⟩ => by cases h
  | some ks =>
  obtain ⟨R, ys, rfl, eR, pR⟩ := hth
  obtain ⟨sm1, sm2⟩ := sm
  have lr := Paired.length pR
  refine ⟨_, rfl, _, _, _, _, true, rfl, .ty "list", .base (.lst eR), rfl, true, rfl, iteF ?_⟩
  refine ⟨zero, fun D hD => ?_⟩
  have sD := Same.new (o := .lst []) hD
  refine ⟨_, rfl, R, rfl, ⟨_, .of (sD _ _ eR)⟩, for_list (xs := ys) (fun i σ H' => ∃ y3 y4 : Option V, σ = [some (.ref R), some (.ref N), some (.ref D), y3, y4] ∧ Same H H' ∧ ∃ rws : List (List Int), ks.take i = rws.map (fun r => some (r.map some)) ∧ (∀ r, r ∈ rws → r ≠ []) ∧ H' D = some (.lst (rws.flatten.map V.int))) ⟨none, none, rfl, sD, [], rfl, fun r h => (by cases h), upd_same⟩ (fun i σ H' _ h' => ?_) (fun i x σ H2 hx h2 => ?_) (fun σ H2 h2 => ?_)⟩
  · obtain ⟨_, _, _, s', _⟩ := h'
    exact .of (s' _ _ eR)
  · obtain ⟨y3, y4, rfl, s2, rws, ek, ne, e2⟩ := h2
    obtain ⟨k, hk, hkx⟩ := Paired.getL pR hx
    have hi := (List.getElem?_eq_some_iff.mp hk).1
    have len : rws.length = i := by
      have := congrArg List.length ek
      rw [List.length_take, List.length_map] at this
      omega
    have bound : ∀ r, r ∈ rws → r.length ≤ 200 := fun r hr2 => by
      have h1 : (some (r.map some) : Option (List (Option Int))) ∈ ks.take i := by rw [ek]; exact List.mem_map.mpr ⟨r, hr2, rfl⟩
      have h2 := sm2 _ (List.mem_of_mem_take h1)
      have h3 : rowLen (some (r.map some)) = r.length := List.length_map _
      omega
    have fl := flat_le 200 bound
    cases k with
    | none =>
      obtain ⟨t, ty, kk⟩ := hkx
      refine ⟨_, rfl, _, _, _, _, false, rfl, .ty "list", TyX.same s2 ty, kk, false, rfl, iteT ?_⟩
      refine no H2 s2 fun ⟨rw2, h, _⟩ => ?_
      have h := Option.some.inj h
      rw [h, List.getElem?_map] at hk
      obtain ⟨_, _, z⟩ := Option.map_eq_some_iff.mp hk
      cases z
    | some is =>
    obtain ⟨r, xs, rfl, er, pi⟩ := hkx
    have er2 := s2 _ _ er
    have lx := Paired.length pi
    have l200 : is.length ≤ 200 := sm2 _ (List.mem_of_getElem? hk)
    refine ⟨_, rfl, _, _, _, _, true, rfl, .ty "list", .base (.lst er2), rfl, true, rfl, iteF ?_⟩
    refine ⟨_, rfl, r, _, rfl, .inl (.of er2), rfl, _, rfl, ?_⟩
    by_cases z : is = []
    · rw [decide_eq_true (show V.int ((xs.length : Nat) : Int) = V.int 0 by rw [lx, z]; rfl)]
      refine iteT ?_
      refine no H2 s2 fun ⟨rw2, h, ne2, _⟩ => ?_
      have h := Option.some.inj h
      rw [h, List.getElem?_map] at hk
      obtain ⟨r2, h1, h2⟩ := Option.map_eq_some_iff.mp hk
      have h3 := Option.some.inj h2
      rw [z] at h3
      exact ne2 r2 (List.mem_of_getElem? h1) (List.map_eq_nil_iff.mp h3)
    have lpos : 0 < is.length := List.length_pos_iff.mpr z
    rw [decide_eq_false (fun z => by have := V.int.inj z; omega)]
    refine iteF ?_
    refine ⟨_, rfl, r, rfl, ⟨_, .of er2⟩, for_list (xs := xs) (fun j σ H' => ∃ y4 : Option V, σ = [some (.ref R), some (.ref N), some (.ref D), some (.ref r), y4] ∧ Same H H' ∧ ∃ js : List Int, is.take j = js.map some ∧ H' D = some (.lst ((rws.flatten ++ js).map V.int))) ⟨y4, rfl, s2, [], rfl, by rw [List.append_nil]; exact e2⟩ (fun j σ H' _ h' => ?_) (fun j x σ H3 hx3 h3 => ?_) (fun σ H3 h3 => ?_)⟩
    · obtain ⟨_, _, s', _⟩ := h'
      exact .of (s' _ _ er)
    · obtain ⟨y5, rfl, s3, js, ej, e3⟩ := h3
      obtain ⟨o, ho, hox⟩ := Paired.getL pi hx3
      have hj := (List.getElem?_eq_some_iff.mp ho).1
      have lj : js.length = j := by
        have := congrArg List.length ej
        rw [List.length_take, List.length_map] at this
        omega
      cases o with
      | none =>
        refine ⟨_, rfl, _, false, rfl, WholeV.same s3 hox, false, rfl, iteT ?_⟩
        refine no H3 s3 fun ⟨rw2, h, _⟩ => ?_
        have h := Option.some.inj h
        rw [h, List.getElem?_map] at hk
        obtain ⟨r2, _, h2⟩ := Option.map_eq_some_iff.mp hk
        rw [← Option.some.inj h2, List.getElem?_map] at ho
        obtain ⟨_, _, z⟩ := Option.map_eq_some_iff.mp ho
        cases z
      | some i2 =>
      cases (show x = V.int i2 from hox)
      refine ⟨_, rfl, _, true, rfl, whole_int, true, rfl, iteF ?_⟩
      refine ⟨_, rfl, .inl ⟨rfl, _, .of e3⟩, _, rfl, D, _, _, rfl, rfl, e3, ?_, ?_⟩
      · rw [List.length_map, List.length_append]
        show _ < 16777216
        omega
      refine ⟨_, rfl, fun b o eb => ?_, js ++ [i2], ?_, ?_⟩
      · rw [upd_ne (ne_of_none eb hD)]
        exact s3 _ _ eb
      · rw [List.take_add_one, ho, ej, List.map_append]
        rfl
      · rw [upd_same, ← List.append_assoc, List.map_append (l₂ := [i2])]
        rfl
    · obtain ⟨y5, rfl, s3, js, ej, e3⟩ := h3
      rw [lx, List.take_length] at ej
      refine ⟨_, _, rfl, s3, rws ++ [js], ?_, fun r2 hr2 => ?_, ?_⟩
      · rw [List.take_add_one, hk, ek, List.map_append, ej]
        rfl
      · rcases List.mem_append.mp hr2 with g | g
        · exact ne r2 g
        · rw [List.mem_singleton.mp g]
          intro z2
          rw [z2] at ej
          exact z ej
      · rw [List.flatten_append, show [js].flatten = js by simp]
        exact e3
  · obtain ⟨y3, y4, rfl, s2, rws, ek, ne, e2⟩ := h2
    rw [lr, List.take_length] at ek
    refine ⟨_, rfl, D, _, rfl, .of e2, fun ns' p perm srt np => ?_⟩
    have sp := Same.new (o := .lst (ns'.map V.int)) np
    have eN2 := sp _ _ (s2 _ _ eN)
    rw [nats_ints] at eN2
    refine ⟨_, rfl, intsD ns', intsD ((List.range n).map Int.ofNat), .lst (.of upd_same) (ints_dpAll _), .lst (.of eN2) (ints_dpAll _), ints_shaped _, ints_shaped _, ?_⟩
    rw [ints_eqv]
    refine q _ _ (s2.trans sp) ⟨fun h => ⟨rws, by rw [ek]; rfl, ne, ?_⟩, fun ⟨rw2, h, _, pm⟩ => ?_⟩
    · rw [← of_decide_eq_true h]
      exact perm.symm
    · have h := Option.some.inj h
      rw [ek] at h
      have e : rws = rw2 := by
        have key : ∀ (a b : List (List Int)), (a.map fun r => (some (r.map some) : Option (List (Option Int)))) = b.map (fun r => some (r.map some)) → a = b := fun a => by
          induction a with
          | nil => intro b hb; cases b with
            | nil => rfl
            | cons _ _ => cases hb
          | cons x r ih => intro b hb; cases b with
            | nil => cases hb
            | cons y t =>
              rw [List.map_cons, List.map_cons] at hb
              obtain ⟨h1, h2⟩ := List.cons.inj hb
              rw [some_inj (Option.some.inj h1), ih t h2]
        exact key _ _ h
      subst e
      exact decide_eq_true (sorted_same (perm.trans pm) srt (range_up n))
end
end HSP
namespace HSP
open PySem PySem.Spec PyProof.Rows L2
/-! ## rows that do not rise -/
def lastN (r : List Nat) : Nat := r.getLastD 0
theorem lastN_snoc (r : List Nat) (x : Nat) : lastN (r ++ [x]) = x := by
  unfold lastN
  rw [List.getLastD_concat]
theorem lastN_mem {r : List Nat} (h : r ≠ []) : lastN r ∈ r := by
  rcases List.eq_nil_or_concat r with e | ⟨s, z, e⟩
  · exact absurd e h
  · rw [e, List.concat_eq_append, lastN_snoc]
    exact List.mem_append_right _ (List.mem_singleton.mpr rfl)
def stepR (g : Nat → Int) : List (List Nat) → Nat → List (List Nat)
  | [], i => [[i]]
  | row :: rest, i => if g (lastN row) < g i then row :: stepR g rest i else (row ++ [i]) :: rest
def rowsOf (g : Nat → Int) : Nat → List (List Nat)
  | 0 => []
  | n + 1 => stepR g (rowsOf g n) n
theorem stepR_at {g : Nat → Int} {i : Nat} : ∀ {rws : List (List Nat)} {k : Nat} {row : List Nat}, (∀ (j : Nat) (r : List Nat), j < k → rws[j]? = some r → g (lastN r) < g i) → rws[k]? = some row → ¬ g (lastN row) < g i → stepR g rws i = rws.set k (row ++ [i])
  | [], _, _, _, h, _ => by cases h
  | r :: rest, 0, row, _, h, no => by
    cases (show some r = some row from h)
    show (if g (lastN r) < g i then r :: stepR g rest i else (r ++ [i]) :: rest) = _
    rw [if_neg no]
    rfl
  | r :: rest, k + 1, row, lo, h, no => by
    show (if g (lastN r) < g i then r :: stepR g rest i else (r ++ [i]) :: rest) = _
    rw [if_pos (lo 0 r (Nat.succ_pos k) rfl), stepR_at (rws := rest) (k := k) (fun j r' hj e => lo (j + 1) r' (by omega) e) h no]
    rfl
theorem stepR_end {g : Nat → Int} {i : Nat} : ∀ {rws : List (List Nat)}, (∀ (j : Nat) (r : List Nat), rws[j]? = some r → g (lastN r) < g i) → stepR g rws i = rws ++ [[i]]
  | [], _ => rfl
  | r :: rest, lo => by
    show (if g (lastN r) < g i then r :: stepR g rest i else (r ++ [i]) :: rest) = _
    rw [if_pos (lo 0 r rfl), stepR_end (rws := rest) (fun j r' e => lo (j + 1) r' e)]
    rfl
/-- where the next one goes -/
theorem stepR_split (g : Nat → Int) (i : Nat) : ∀ rws : List (List Nat), (∀ (j : Nat) (r : List Nat), rws[j]? = some r → g (lastN r) < g i) ∨ ∃ (k : Nat) (row : List Nat), (∀ (j : Nat) (r : List Nat), j < k → rws[j]? = some r → g (lastN r) < g i) ∧ rws[k]? = some row ∧ ¬ g (lastN row) < g i
  | [] => .inl fun j r h => by cases h
  | r :: rest => by
    by_cases c : g (lastN r) < g i
    · rcases stepR_split g i rest with h | ⟨k, row, h1, h2, h3⟩
      · refine .inl fun j r' e => ?_
        cases j with
        | zero => cases (show some r = some r' from e); exact c
        | succ j => exact h j r' e
      · refine .inr ⟨k + 1, row, fun j r' hj e => ?_, h2, h3⟩
        cases j with
        | zero => cases (show some r = some r' from e); exact c
        | succ j => exact h1 j r' (by omega) e
    · exact .inr ⟨0, r, fun j r' hj => absurd hj (Nat.not_lt_zero j), rfl, c⟩
structure RowsOk (g : Nat → Int) (rws : List (List Nat)) (n : Nat) : Prop where
  ne : ∀ r, r ∈ rws → r ≠ []
  down : ∀ r, r ∈ rws → r.Pairwise fun a b => a < b ∧ g b ≤ g a
  part : rws.flatten.Perm (List.range n)
  back : ∀ (k : Nat) (row prev : List Nat), rws[k + 1]? = some row → rws[k]? = some prev → ∀ x, x ∈ row → ∃ y, y ∈ prev ∧ y < x ∧ g y < g x ∧ ∀ z, z ∈ prev → z < x → z ≤ y
theorem RowsOk.lt {g : Nat → Int} {rws : List (List Nat)} {n : Nat} (h : RowsOk g rws n) {r : List Nat} (hr : r ∈ rws) {x : Nat} (hx : x ∈ r) : x < n :=
  List.mem_range.mp (h.part.mem_iff.mp (List.mem_flatten.mpr ⟨r, hr, hx⟩))
theorem last_up {R : Nat → Nat → Prop} {r : List Nat} (h : r.Pairwise R) {x : Nat} (hx : x ∈ r) : x = lastN r ∨ R x (lastN r) := by
  rcases List.eq_nil_or_concat r with e | ⟨s, z, e⟩
  · rw [e] at hx
    cases hx
  · rw [List.concat_eq_append] at e
    rw [e, lastN_snoc]
    rw [e] at h hx
    rcases List.mem_append.mp hx with q | q
    · exact .inr ((List.pairwise_append.mp h).2.2 x q z (List.mem_singleton.mpr rfl))
    · exact .inl (List.mem_singleton.mp q)
theorem set_flatten {α : Type} {x : α} : ∀ {l : List (List α)} {k : Nat} {row : List α}, l[k]? = some row → (l.set k (row ++ [x])).flatten.Perm (l.flatten ++ [x])
  | [], _, _, h => by cases h
  | r :: rest, 0, row, h => by
    cases (show some r = some row from h)
    show ((r ++ [x]) ++ rest.flatten).Perm (r ++ rest.flatten ++ [x])
    rw [List.append_assoc, List.append_assoc]
    exact List.Perm.append_left r List.perm_append_comm
  | r :: rest, k + 1, row, h => by
    have ih := set_flatten (x := x) (l := rest) (k := k) h
    show (r ++ (rest.set k (row ++ [x])).flatten).Perm (r ++ rest.flatten ++ [x])
    rw [List.append_assoc]
    exact List.Perm.append_left r ih
theorem rows_ok (g : Nat → Int) : ∀ n, RowsOk g (rowsOf g n) n
  | 0 => ⟨fun r h => (by cases h), fun r h => (by cases h), .nil, fun k row prev h => (by cases h)⟩
  | n + 1 => by
    have ih := rows_ok g n
    show RowsOk g (stepR g (rowsOf g n) n) (n + 1)
    generalize rowsOf g n = rws at ih
    have prevBack : ∀ prev, prev ∈ rws → g (lastN prev) < g n → ∃ y, y ∈ prev ∧ y < n ∧ g y < g n ∧ ∀ z, z ∈ prev → z < n → z ≤ y := fun prev hp hg => by
      have ne := ih.ne prev hp
      refine ⟨lastN prev, lastN_mem ne, ih.lt hp (lastN_mem ne), hg, fun z hz _ => ?_⟩
      rcases last_up (ih.down prev hp) hz with e | ⟨e, _⟩ <;> omega
    rcases stepR_split g n rws with h | ⟨k, row, h1, h2, h3⟩
    · rw [stepR_end h]
      refine ⟨fun r hr => ?_, fun r hr => ?_, ?_, fun k row prev e1 e2 x hx => ?_⟩
      · rcases List.mem_append.mp hr with q | q
        · exact ih.ne r q
        · rw [List.mem_singleton.mp q]; exact List.cons_ne_nil _ _
      · rcases List.mem_append.mp hr with q | q
        · exact ih.down r q
        · rw [List.mem_singleton.mp q]; exact List.pairwise_singleton _ _
      · rw [List.flatten_append, List.range_succ]
        exact List.Perm.append_right _ ih.part
      · by_cases c : k + 1 < rws.length
        · rw [List.getElem?_append_left c] at e1
          rw [List.getElem?_append_left (by omega)] at e2
          exact ih.back k row prev e1 e2 x hx
        · have c2 : k + 1 < (rws ++ [[n]]).length := (List.getElem?_eq_some_iff.mp e1).1
          rw [List.length_append, List.length_singleton] at c2
          have c3 : k + 1 = rws.length := by omega
          rw [List.getElem?_append_right (by omega), c3, Nat.sub_self] at e1
          cases (show some [n] = some row from e1)
          rw [List.mem_singleton.mp hx]
          rw [List.getElem?_append_left (by omega)] at e2
          exact prevBack prev (List.mem_of_getElem? e2) (h k prev e2)
    · rw [stepR_at h1 h2 h3]
      have hk := (List.getElem?_eq_some_iff.mp h2).1
      have hrow := List.mem_of_getElem? h2
      have ne := ih.ne row hrow
      have newDown : (row ++ [n]).Pairwise fun a b => a < b ∧ g b ≤ g a := by
        refine List.pairwise_append.mpr ⟨ih.down row hrow, List.pairwise_singleton _ _, fun a ha b hb => ?_⟩
        rw [List.mem_singleton.mp hb]
        refine ⟨ih.lt hrow ha, ?_⟩
        rcases last_up (ih.down row hrow) ha with e | ⟨_, e⟩
        · rw [e]; omega
        · omega
      refine ⟨fun r hr => ?_, fun r hr => ?_, ?_, fun j r2 prev e1 e2 x hx => ?_⟩
      · rcases List.mem_or_eq_of_mem_set hr with q | q
        · exact ih.ne r q
        · rw [q]; exact List.append_ne_nil_of_right_ne_nil _ (List.cons_ne_nil _ _)
      · rcases List.mem_or_eq_of_mem_set hr with q | q
        · exact ih.down r q
        · rw [q]; exact newDown
      · rw [List.range_succ]
        exact (set_flatten h2).trans (List.Perm.append_right _ ih.part)
      · have old : ∀ prev0, rws[j]? = some prev0 → ∃ z0, prev = prev0 ∨ (z0 = n ∧ prev = prev0 ++ [z0] ∧ j = k) := fun prev0 e => by
          by_cases c : k = j
          · refine ⟨n, .inr ⟨rfl, ?_, c.symm⟩⟩
            rw [← c] at e e2
            rw [List.getElem?_set_self hk] at e2
            rw [h2] at e
            cases e
            cases e2
            rfl
          · refine ⟨0, .inl ?_⟩
            rw [List.getElem?_set_ne c] at e2
            exact Option.some.inj (e2.symm.trans e)
        by_cases c : k = j + 1
        · rw [c, List.getElem?_set_self (by omega)] at e1
          cases (show some (row ++ [n]) = some r2 from e1)
          rw [List.getElem?_set_ne (by omega)] at e2
          rcases List.mem_append.mp hx with q | q
          · exact ih.back j row prev (by rw [← c]; exact h2) e2 x q
          · rw [List.mem_singleton.mp q]
            exact prevBack prev (List.mem_of_getElem? e2) (h1 j prev (by omega) e2)
        · rw [List.getElem?_set_ne c] at e1
          have hj : j < rws.length := by
            have := (List.getElem?_eq_some_iff.mp e1).1
            omega
          obtain ⟨prev0, hp0⟩ : ∃ p, rws[j]? = some p := ⟨_, List.getElem?_eq_getElem hj⟩
          obtain ⟨y, hy, y1, y2, y3⟩ := ih.back j r2 prev0 e1 hp0 x hx
          have xn := ih.lt (List.mem_of_getElem? e1) hx
          obtain ⟨z0, q | ⟨q1, q2, _⟩⟩ := old prev0 hp0
          · rw [q]
            exact ⟨y, hy, y1, y2, y3⟩
          · refine ⟨y, by rw [q2]; exact List.mem_append_left _ hy, y1, y2, fun z hz hz2 => ?_⟩
            rw [q2] at hz
            rcases List.mem_append.mp hz with q | q
            · exact y3 z q hz2
            · have := List.mem_singleton.mp q
              omega
/-! ### the rising row -/
def takeS (taken row : List Nat) : List Nat := taken ++ [lastN (row.filter fun x => taken.isEmpty || decide (x < lastN taken))]
def takenOf (rws : List (List Nat)) (j : Nat) : List Nat := (rws.reverse.take j).foldl takeS []
def risingOf (rws : List (List Nat)) : List Nat := (takenOf rws rws.length).reverse
theorem taken_succ (rws : List (List Nat)) (j : Nat) {row : List Nat} (h : rws.reverse[j]? = some row) : takenOf rws (j + 1) = takeS (takenOf rws j) row := by
  unfold takenOf
  rw [List.take_add_one, h, List.foldl_append]
  rfl
structure TakenOk (g : Nat → Int) (rws : List (List Nat)) (j : Nat) (tk : List Nat) : Prop where
  len : tk.length = j
  down : tk.Pairwise fun a b => b < a ∧ g b < g a
  inn : ∀ x, x ∈ tk → ∃ r, r ∈ rws ∧ x ∈ r
  top : ∀ row, j ≠ 0 → rws.reverse[j - 1]? = some row → lastN tk ∈ row
theorem rev_get {α : Type} {l : List α} {j : Nat} {x : α} (h : l.reverse[j]? = some x) : j < l.length ∧ l[l.length - 1 - j]? = some x := by
  have hj := (List.getElem?_eq_some_iff.mp h).1
  rw [List.length_reverse] at hj
  rw [List.getElem?_reverse hj] at h
  exact ⟨hj, h⟩
/-- what is picked from the next row -/
theorem taken_pick {g : Nat → Int} {rws : List (List Nat)} {n j : Nat} (ok : RowsOk g rws n) (t : TakenOk g rws j (takenOf rws j)) {row : List Nat} (h : rws.reverse[j]? = some row) :
    row.filter (fun x => (takenOf rws j).isEmpty || decide (x < lastN (takenOf rws j))) ≠ [] ∧ TakenOk g rws (j + 1) (takenOf rws (j + 1)) := by
  obtain ⟨hj, hr⟩ := rev_get h
  have hrow := List.mem_of_getElem? hr
  rw [taken_succ rws j h]
  unfold takeS
  generalize takenOf rws j = tk at t ⊢
  have base : ∀ (fl : List Nat), fl = row.filter (fun x => tk.isEmpty || decide (x < lastN tk)) → fl ≠ [] → (∀ a, a ∈ tk → lastN fl < a ∧ g (lastN fl) < g a) → TakenOk g rws (j + 1) (tk ++ [lastN fl]) := fun fl hf hne hlt => by
    have mem : lastN fl ∈ row := by
      have := lastN_mem hne
      rw [hf] at this
      rw [hf]
      exact (List.mem_filter.mp this).1
    refine ⟨by rw [List.length_append, List.length_singleton, t.len], List.pairwise_append.mpr ⟨t.down, List.pairwise_singleton _ _, fun a ha b hb => ?_⟩, fun x hx => ?_, fun r2 _ e => ?_⟩
    · rw [List.mem_singleton.mp hb]
      exact hlt a ha
    · rcases List.mem_append.mp hx with q | q
      · exact t.inn x q
      · rw [List.mem_singleton.mp q]
        exact ⟨row, hrow, mem⟩
    · rw [Nat.add_sub_cancel, h] at e
      cases e
      rw [lastN_snoc]
      exact mem
  cases j with
  | zero =>
    have e : tk = [] := List.length_eq_zero_iff.mp t.len
    have ef : row.filter (fun x => tk.isEmpty || decide (x < lastN tk)) = row := by
      rw [e]
      exact List.filter_eq_self.mpr fun _ _ => rfl
    have ne := ok.ne row hrow
    refine ⟨by rw [ef]; exact ne, base _ rfl (by rw [ef]; exact ne) fun a ha => ?_⟩
    rw [e] at ha
    cases ha
  | succ j =>
    obtain ⟨up, hup⟩ : ∃ up, rws.reverse[j]? = some up := ⟨_, List.getElem?_eq_getElem (by rw [List.length_reverse]; omega)⟩
    obtain ⟨hj2, hr2⟩ := rev_get hup
    have tm : lastN tk ∈ up := t.top up (Nat.succ_ne_zero j) (by rw [Nat.add_sub_cancel]; exact hup)
    have e1 : rws[rws.length - 1 - (j + 1) + 1]? = some up := by
      rw [show rws.length - 1 - (j + 1) + 1 = rws.length - 1 - j by omega]
      exact hr2
    obtain ⟨y, hy, y1, y2, y3⟩ := ok.back _ up row e1 hr _ tm
    have nemp : tk.isEmpty = false := by
      cases tk with
      | nil => cases t.len
      | cons => rfl
    have ef : row.filter (fun x => tk.isEmpty || decide (x < lastN tk)) = row.filter fun x => decide (x < lastN tk) := by
      rw [nemp]
      rfl
    have hy2 : y ∈ row.filter (fun x => tk.isEmpty || decide (x < lastN tk)) := by
      rw [ef]
      exact List.mem_filter.mpr ⟨hy, decide_eq_true y1⟩
    have ne : row.filter (fun x => tk.isEmpty || decide (x < lastN tk)) ≠ [] := fun z => by rw [z] at hy2; cases hy2
    have ly : lastN (row.filter (fun x => tk.isEmpty || decide (x < lastN tk))) = y := by
      have h1 := lastN_mem ne
      have h2 := h1
      rw [ef] at h2
      obtain ⟨h3, h4⟩ := List.mem_filter.mp h2
      rw [← ef] at h3 h4
      have h5 := y3 _ h3 (of_decide_eq_true h4)
      have pw : (row.filter (fun x => tk.isEmpty || decide (x < lastN tk))).Pairwise fun a b => a < b ∧ g b ≤ g a := (ok.down row hrow).sublist List.filter_sublist
      rcases last_up pw hy2 with e | ⟨e, _⟩ <;> omega
    refine ⟨ne, base _ rfl ne fun a ha => ?_⟩
    rw [ly]
    rcases last_up t.down ha with e | ⟨e, e'⟩
    · rw [e]
      exact ⟨y1, y2⟩
    · constructor <;> omega
theorem taken_ok {g : Nat → Int} {rws : List (List Nat)} {n : Nat} (ok : RowsOk g rws n) : ∀ j, j ≤ rws.length → TakenOk g rws j (takenOf rws j)
  | 0, _ => ⟨rfl, .nil, fun x h => (by cases h), fun _ h => absurd rfl h⟩
  | j + 1, h => by
    obtain ⟨row, hrow⟩ : ∃ row, rws.reverse[j]? = some row := ⟨_, List.getElem?_eq_getElem (by rw [List.length_reverse]; omega)⟩
    exact (taken_pick ok (taken_ok ok j (by omega)) hrow).2
/-- a rising row -/
def Rising (g : Nat → Int) (n : Nat) (c : List Nat) : Prop := (c.Pairwise fun a b => a < b ∧ g a < g b) ∧ ∀ x, x ∈ c → x < n
theorem rising_ok {g : Nat → Int} {rws : List (List Nat)} {n : Nat} (ok : RowsOk g rws n) : Rising g n (risingOf rws) ∧ (risingOf rws).length = rws.length := by
  have t := taken_ok ok rws.length (Nat.le_refl _)
  unfold risingOf
  refine ⟨⟨List.pairwise_reverse.mpr t.down, fun x hx => ?_⟩, by rw [List.length_reverse, t.len]⟩
  obtain ⟨r, h1, h2⟩ := t.inn x (List.mem_reverse.mp hx)
  exact ok.lt h1 h2
/-- a rising row has at most one of each row that does not rise -/
theorem rising_le {g : Nat → Int} : ∀ (rws : List (List Nat)) (c : List Nat), (∀ r, r ∈ rws → r.Pairwise fun a b => a < b ∧ g b ≤ g a) → (c.Pairwise fun a b => a < b ∧ g a < g b) → (∀ x, x ∈ c → x ∈ rws.flatten) → c.length ≤ rws.length
  | [], c, _, _, h => by
    cases c with
    | nil => exact Nat.le_refl _
    | cons x r => exact absurd (h x List.mem_cons_self) (by simp)
  | row :: rest, c, hd, hc, h => by
    have ih := rising_le rest (c.filter fun x => !decide (x ∈ row)) (fun r hr => hd r (List.mem_cons_of_mem _ hr)) (hc.sublist List.filter_sublist) fun x hx => by
      obtain ⟨h1, h2⟩ := List.mem_filter.mp hx
      have h3 : ¬ x ∈ row := by simpa using h2
      rcases List.mem_append.mp (show x ∈ row ++ rest.flatten from h x h1) with q | q
      · exact absurd q h3
      · exact q
    have few : ∀ c : List Nat, (c.Pairwise fun a b => a < b ∧ g a < g b) → c.length ≤ (c.filter fun x => !decide (x ∈ row)).length + 1 := fun c hc => by
      induction c with
      | nil => exact Nat.zero_le _
      | cons x r ih2 =>
        obtain ⟨p1, p2⟩ := List.pairwise_cons.mp hc
        rw [List.filter_cons, List.length_cons]
        by_cases m : x ∈ row
        · rw [decide_eq_true m]
          show r.length + 1 ≤ (r.filter fun x => !decide (x ∈ row)).length + 1
          have all : (r.filter fun x => !decide (x ∈ row)) = r := List.filter_eq_self.mpr fun y hy => by
            have q := p1 y hy
            have no : ¬ y ∈ row := fun hy2 => by
              have dn := hd row List.mem_cons_self
              obtain ⟨i, hi, ei⟩ := List.mem_iff_getElem.mp m
              obtain ⟨j, hj, ej⟩ := List.mem_iff_getElem.mp hy2
              have pw := List.pairwise_iff_getElem.mp dn
              rcases Nat.lt_trichotomy i j with c | c | c
              · have := pw i j hi hj c
                rw [ei, ej] at this
                omega
              · subst c
                omega
              · have := pw j i hj hi c
                rw [ei, ej] at this
                omega
            rw [decide_eq_false no]
            rfl
          rw [all]
          exact Nat.le_refl _
        · rw [decide_eq_false m]
          have := ih2 p2
          show r.length + 1 ≤ (r.filter fun x => !decide (x ∈ row)).length + 1 + 1
          omega
    have := few c hc
    rw [List.length_cons]
    omega
theorem rising_most {g : Nat → Int} {n : Nat} {c : List Nat} (h : Rising g n c) : c.length ≤ (rowsOf g n).length := by
  have ok := rows_ok g n
  exact rising_le _ c ok.down h.1 fun x hx => ok.part.mem_iff.mpr (List.mem_range.mpr (h.2 x hx))
theorem rows_le (g : Nat → Int) (n : Nat) : (rowsOf g n).length ≤ n := by
  have ok := rows_ok g n
  have h := ok.part.length_eq
  rw [List.length_range] at h
  have key : ∀ l : List (List Nat), (∀ r, r ∈ l → r ≠ []) → l.length ≤ l.flatten.length := fun l => by
    induction l with
    | nil => intro _; exact Nat.le_refl _
    | cons r t ih =>
      intro hn
      have h1 := ih fun x hx => hn x (List.mem_cons_of_mem _ hx)
      have h2 := List.length_pos_iff.mpr (hn r List.mem_cons_self)
      rw [List.flatten_cons, List.length_append, List.length_cons]
      omega
  have := key _ ok.ne
  omega
/-! ### the tree that finds a rising row -/
def gaps : Nat → List Nat → Nat → List Nat
  | s, [], n => [n - s]
  | s, x :: r, n => (x - s) :: gaps (x + 1) r n
def seps : Nat → List Tr → List Nat
  | _, [] => []
  | _, [_] => []
  | f, t :: u :: r => (f + t.size) :: seps (f + t.size + 1) (u :: r)
theorem gaps_ne (s : Nat) (c : List Nat) (n : Nat) : gaps s c n ≠ [] := by
  cases c <;> exact List.cons_ne_nil _ _
theorem gaps_len : ∀ (s : Nat) (c : List Nat) (n : Nat), (gaps s c n).length = c.length + 1
  | _, [], _ => rfl
  | s, x :: r, n => by
    show (gaps (x + 1) r n).length + 1 = _
    rw [gaps_len (x + 1) r n]
    rfl
theorem gaps_small : ∀ (s : Nat) (c : List Nat) (n : Nat), (∀ x, x ∈ c → x < n) → ∀ m, m ∈ gaps s c n → m ≤ n
  | s, [], n, _, m, h => by
    have := List.mem_singleton.mp h
    omega
  | s, x :: r, n, hc, m, h => by
    have hx := hc x List.mem_cons_self
    rcases List.mem_cons.mp h with q | q
    · omega
    · exact gaps_small (x + 1) r n (fun y hy => hc y (List.mem_cons_of_mem _ hy)) m q
theorem gaps_tree {k : Nat} : ∀ (s : Nat) (c : List Nat) (n : Nat), s ≤ n → n < 2 ^ k → (c.Pairwise (· < ·)) → (∀ x, x ∈ c → s ≤ x ∧ x < n) → s + wide ((gaps s c n).map (halv (k + 1))) = n ∧ seps s ((gaps s c n).map (halv (k + 1))) = c
  | s, [], n, hs, hk, _, _ => by
    show s + (halv (k + 1) (n - s)).size = n ∧ [] = []
    rw [halv_size k _ (by omega)]
    exact ⟨by omega, rfl⟩
  | s, x :: r, n, hs, hk, hp, hx => by
    obtain ⟨h1, h2⟩ := hx x List.mem_cons_self
    obtain ⟨p1, p2⟩ := List.pairwise_cons.mp hp
    obtain ⟨w, e⟩ := gaps_tree (x + 1) r n (by omega) hk p2 fun y hy => ⟨p1 y hy, (hx y (List.mem_cons_of_mem _ hy)).2⟩
    have hm : (halv (k + 1) (x - s)).size = x - s := halv_size k _ (by omega)
    have ne := gaps_ne (x + 1) r n
    show s + wide (halv (k + 1) (x - s) :: (gaps (x + 1) r n).map (halv (k + 1))) = n ∧ seps s (halv (k + 1) (x - s) :: (gaps (x + 1) r n).map (halv (k + 1))) = x :: r
    cases eg : (gaps (x + 1) r n).map (halv (k + 1)) with
    | nil => exact absurd (List.map_eq_nil_iff.mp eg) ne
    | cons u v =>
      rw [eg] at w e
      show s + ((halv (k + 1) (x - s)).size + 1 + wide (u :: v)) = n ∧ (s + (halv (k + 1) (x - s)).size) :: seps (s + (halv (k + 1) (x - s)).size + 1) (u :: v) = x :: r
      rw [hm, show s + (x - s) = x by omega, e]
      exact ⟨by omega, rfl⟩
theorem seps_app : ∀ (a b : List Tr) (f : Nat), a ≠ [] → b ≠ [] → seps f (a ++ b) = seps f a ++ (f + wide a) :: seps (f + wide a + 1) b
  | [], _, _, h, _ => absurd rfl h
  | [t], [], _, _, h => absurd rfl h
  | [t], u :: r, f, _, _ => rfl
  | t :: u :: r, b, f, _, hb => by
    have ih := seps_app (u :: r) b (f + t.size + 1) (List.cons_ne_nil _ _) hb
    show (f + t.size) :: seps (f + t.size + 1) ((u :: r) ++ b) = ((f + t.size) :: seps (f + t.size + 1) (u :: r)) ++ (f + (t.size + 1 + wide (u :: r))) :: seps (f + (t.size + 1 + wide (u :: r)) + 1) b
    rw [ih, show f + t.size + 1 + wide (u :: r) = f + (t.size + 1 + wide (u :: r)) by omega]
    rfl
theorem sep_hit {g : Nat → Int} (n : Nat) (ts : List Tr) (hne : ts ≠ []) (hl : ts.length ≤ 2 ^ n) (f x : Nat) (up : (seps f ts).Pairwise fun a b => g a < g b) (hx : x ∈ seps f ts) : sEnd g (2 * g x) .fin (joinT (n + 1) ts) f = (true, x) := by
  have z := join_ind (P := fun _ ts t => t.size = wide ts ∧ ∀ f x, ((seps f ts).Pairwise fun a b => g a < g b) → x ∈ seps f ts → sEnd g (2 * g x) .fin t f = (true, x)) (fun _ t => ⟨rfl, fun f x _ h => by cases h⟩) (fun k a b s t ha hb ⟨z1, h1⟩ ⟨z2, h2⟩ => by
    refine ⟨by show s.size + 1 + t.size = wide (a ++ b); rw [wide_app a b ha hb, z1, z2], fun f x up hx => ?_⟩
    rw [seps_app a b f ha hb] at up hx
    obtain ⟨u1, u2, u3⟩ := List.pairwise_append.mp up
    obtain ⟨u4, u5⟩ := List.pairwise_cons.mp u2
    rw [sEnd_nod, z1]
    rcases List.mem_append.mp hx with q | q
    · have lt := u3 x q _ List.mem_cons_self
      have w : wayOf (2 * g x) (g (f + wide a)) .fin = .lft := by
        unfold wayOf
        rw [if_neg (by omega), if_pos (by omega)]
      rw [w]
      exact h1 f x u1 q
    · rcases List.mem_cons.mp q with q | q
      · rw [q, way_fin]
      · have lt := u4 x q
        have w : wayOf (2 * g x) (g (f + wide a)) .fin = .rgt := by
          unfold wayOf
          rw [if_neg (by omega), if_neg (by omega)]
        rw [w]
        exact h2 (f + wide a + 1) x u5 q) n ts hne hl
  exact z.2 f x up hx
def mostT (g : Nat → Int) (n : Nat) : Tr := joinT 8 ((gaps 0 (risingOf (rowsOf g n)) n).map (halv 8))
theorem most_tree {g : Nat → Int} {n : Nat} (hn : n ≤ 64) : (mostT g n).size = n ∧ (mostT g n).ht ≤ 15 ∧ ∀ x, x ∈ risingOf (rowsOf g n) → hits g x (mostT g n) = true := by
  obtain ⟨⟨up, inn⟩, len⟩ := rising_ok (rows_ok g n)
  have few := rows_le g n
  have hne : (gaps 0 (risingOf (rowsOf g n)) n).map (halv 8) ≠ [] := fun z => gaps_ne _ _ _ (List.map_eq_nil_iff.mp z)
  have hl : ((gaps 0 (risingOf (rowsOf g n)) n).map (halv 8)).length ≤ 2 ^ 7 := by
    rw [List.length_map, gaps_len]
    have e : 2 ^ 7 = 128 := rfl
    omega
  obtain ⟨w, s⟩ := gaps_tree (k := 7) 0 (risingOf (rowsOf g n)) n (Nat.zero_le _) (by have e : 2 ^ 7 = 128 := rfl; omega) (up.imp fun h => h.1) fun x hx => ⟨Nat.zero_le _, inn x hx⟩
  refine ⟨?_, ?_, fun x hx => decide_eq_true (sep_hit 7 _ hne hl 0 x ?_ ?_)⟩
  · unfold mostT
    rw [join_size 7 _ hne hl]
    have w2 : 0 + wide ((gaps 0 (risingOf (rowsOf g n)) n).map (halv 8)) = n := w
    omega
  · exact join_ht 8 7 _ hne hl fun t ht => by
      obtain ⟨m, _, rfl⟩ := List.mem_map.mp ht
      exact halv_ht 8 m
  · rw [s]
    exact up.imp fun h => h.2
  · rw [s]
    exact hx
/-! ### what a tree finds rises -/
theorem found_up {g : Nat → Int} : ∀ (t : Tr) (f i j : Nat), i < j → sEnd g (2 * g i) .fin t f = (true, i) → sEnd g (2 * g j) .fin t f = (true, j) → g i < g j
  | .nil, _, _, _, _, h, _ => by cases h
  | .nod l r, f, i, j, hij, hi, hj => by
    rw [sEnd_nod] at hi hj
    rcases way_cases (2 * g i) (g (f + l.size)) with ⟨w, c⟩ | ⟨w, c⟩ | ⟨w, c⟩ <;> rcases way_cases (2 * g j) (g (f + l.size)) with ⟨w2, c2⟩ | ⟨w2, c2⟩ | ⟨w2, c2⟩ <;> rw [w] at hi <;> rw [w2] at hj
    · have e1 := (Prod.mk.inj hi).2
      have e2 := (Prod.mk.inj hj).2
      omega
    · have e1 := (Prod.mk.inj hi).2
      have e2 := sEnd_at _ _ _ _ _ hj
      omega
    · omega
    · omega
    · exact found_up l f i j hij hi hj
    · omega
    · have e1 := (Prod.mk.inj hj).2
      have e2 := sEnd_at _ _ _ _ _ hi
      omega
    · have e1 := sEnd_at _ _ _ _ _ hi
      have e2 := sEnd_at _ _ _ _ _ hj
      omega
    · exact found_up r (f + l.size + 1) i j hij hi hj
def hitsOf (g : Nat → Int) (n : Nat) (t : Tr) : List Nat := (List.range n).filter fun i => hits g i t
theorem hits_rising (g : Nat → Int) (n : Nat) (t : Tr) : Rising g n (hitsOf g n t) := by
  refine ⟨?_, fun x hx => List.mem_range.mp (List.mem_filter.mp hx).1⟩
  unfold hitsOf
  refine List.Pairwise.imp_of_mem (fun {a b} ha hb h => ?_) ((List.pairwise_lt_range (n := n)).sublist List.filter_sublist)
  have h1 := of_decide_eq_true (List.mem_filter.mp ha).2
  have h2 := of_decide_eq_true (List.mem_filter.mp hb).2
  exact ⟨h, found_up t 0 a b h h1 h2⟩
theorem hits_le (g : Nat → Int) (n : Nat) (t : Tr) : (hitsOf g n t).length ≤ (rowsOf g n).length := rising_most (hits_rising g n t)
theorem sub_len : ∀ {a b : List Nat}, a.Pairwise (· < ·) → b.Pairwise (· < ·) → (∀ x, x ∈ a → x ∈ b) → a.length ≤ b.length
  | [], _, _, _, _ => Nat.zero_le _
  | x :: a, [], _, _, h => absurd (h x List.mem_cons_self) (by simp)
  | x :: a, y :: b, ha, hb, h => by
    obtain ⟨a1, a2⟩ := List.pairwise_cons.mp ha
    obtain ⟨b1, b2⟩ := List.pairwise_cons.mp hb
    have ih := sub_len a2 b2 fun z hz => by
      rcases List.mem_cons.mp (h z (List.mem_cons_of_mem _ hz)) with q | q
      · have h1 := a1 z hz
        rcases List.mem_cons.mp (h x List.mem_cons_self) with q2 | q2
        · omega
        · have := b1 x q2
          omega
      · exact q
    rw [List.length_cons, List.length_cons]
    omega
theorem most_hits {g : Nat → Int} {n : Nat} (hn : n ≤ 64) : (hitsOf g n (mostT g n)).length = (rowsOf g n).length := by
  obtain ⟨⟨up, inn⟩, len⟩ := rising_ok (rows_ok g n)
  obtain ⟨_, _, hit⟩ := most_tree (g := g) hn
  have h1 := hits_le g n (mostT g n)
  have h2 := sub_len (a := risingOf (rowsOf g n)) (b := hitsOf g n (mostT g n)) (up.imp fun h => h.1) ((List.pairwise_lt_range (n := n)).sublist List.filter_sublist) fun x hx => List.mem_filter.mpr ⟨List.mem_range.mpr (inn x hx), hit x hx⟩
  omega
end HSP
namespace HSP
open PySem PySem.Spec PyProof.Rows L2
section
variable {P : Program} {w : World} {K : PySem.W.Frag} {mg : Str → Option Value} {base : Heap}
/-! ### halved -/
def spHalved (n : Nat) : Sp := fun vs H Q _ => ∃ (m k : Nat), n = k + 1 ∧ vs = [natV m, .str "upper"] ∧ m < 2 ^ k ∧ ∀ (H' : Hp) (v : V), Same H H' → TrAt H' v (halv n m) → Q v H'
/-! ### joined -/
def spJoined (n : Nat) : Sp := fun vs H Q _ => ∃ (a : Addr) (xs : List V) (ts : List Tr) (k : Nat), n = k + 1 ∧ vs = [.ref a] ∧ H a = some (.lst xs) ∧ Paired (fun v t => TrAt H v t) xs ts ∧ ts ≠ [] ∧ ts.length ≤ 2 ^ k ∧ ts.length ≤ 1000 ∧ ∀ (H' : Hp) (v : V), Same H H' → TrAt H' v (joinT n ts) → Q v H'
theorem Paired.take {α β : Type} {R : α → β → Prop} : ∀ (n : Nat) {l : List α} {m : List β}, Paired R l m → Paired R (l.take n) (m.take n)
  | 0, _, _, _ => by rw [List.take_zero, List.take_zero]; exact .nil
  | _ + 1, _, _, .nil => .nil
  | n + 1, _, _, .cons h t => .cons h (Paired.take n t)
theorem Paired.drop {α β : Type} {R : α → β → Prop} : ∀ (n : Nat) {l : List α} {m : List β}, Paired R l m → Paired R (l.drop n) (m.drop n)
  | 0, _, _, h => h
  | _ + 1, _, _, .nil => .nil
  | n + 1, _, _, .cons _ t => Paired.drop n t
end
end HSP
namespace HSP
open PySem PySem.Spec PyProof.Rows L2
/-! ### rows of nodes, new ones -/
def RwsAt (H0 H : Hp) (R : Addr) (rws : List (List Nat)) : Prop := H0 R = none ∧ ∃ rs : List Addr, H R = some (.lst (rs.map V.ref)) ∧ Paired (fun r (ns : List Nat) => H r = some (.lst (ns.map natV))) rs rws ∧ rs.Nodup ∧ ∀ r, r ∈ rs → r ≠ R ∧ H0 r = none
theorem RwsAt.same {H0 H H' : Hp} {R : Addr} {rws : List (List Nat)} (h : RwsAt H0 H R rws) (s : Same H H') : RwsAt H0 H' R rws := by
  obtain ⟨n, rs, e, p, nd, o⟩ := h
  exact ⟨n, rs, s _ _ e, Paired.mapP p fun _ _ h => s _ _ h, nd, o⟩
theorem rows_push {H : Hp} {x : Nat} : ∀ {rs : List Addr} {rws : List (List Nat)}, Paired (fun r (ns : List Nat) => H r = some (.lst (ns.map natV))) rs rws → rs.Nodup → ∀ {k : Nat} {r : Addr} {row : List Nat}, rs[k]? = some r → rws[k]? = some row →
    Paired (fun b (ns : List Nat) => (upd H r (.lst ((row ++ [x]).map natV))) b = some (.lst (ns.map natV))) rs (rws.set k (row ++ [x]))
  | _, _, .nil, _, _, _, _, h, _ => by cases h
  | r0 :: rs, row0 :: rws, .cons h t, nd, 0, r, row, h1, h2 => by
    cases (show some r0 = some r from h1)
    cases (show some row0 = some row from h2)
    obtain ⟨n1, n2⟩ := List.nodup_cons.mp nd
    refine .cons upd_same ?_
    have key : ∀ {rs : List Addr} {rws : List (List Nat)}, Paired (fun r (ns : List Nat) => H r = some (.lst (ns.map natV))) rs rws → r0 ∉ rs → Paired (fun b (ns : List Nat) => (upd H r0 (.lst ((row0 ++ [x]).map natV))) b = some (.lst (ns.map natV))) rs rws := fun p => by
      induction p with
      | nil => intro _; exact .nil
      | cons h _ ih =>
        intro ni
        refine .cons ?_ (ih fun z => ni (List.mem_cons_of_mem _ z))
        rw [upd_ne fun z => ni (by rw [z]; exact List.mem_cons_self)]
        exact h
    exact key t n1
  | r0 :: rs, row0 :: rws, .cons h t, nd, k + 1, r, row, h1, h2 => by
    obtain ⟨n1, n2⟩ := List.nodup_cons.mp nd
    refine .cons ?_ (rows_push t n2 h1 h2)
    rw [upd_ne fun z => n1 (by rw [z]; exact List.mem_of_getElem? h1)]
    exact h
theorem rows_small {g : Nat → Int} {rws : List (List Nat)} {n : Nat} (ok : RowsOk g rws n) {row : List Nat} (h : row ∈ rws) : row.length ≤ n := by
  have h1 := ok.part.length_eq
  rw [List.length_range] at h1
  have : row.length ≤ rws.flatten.length := (List.sublist_flatten_of_mem h).length_le
  omega
section
variable {P : Program} {w : World} {K : PySem.W.Frag} {mg : Str → Option Value} {base : Heap}
/-! ### rows_of -/
def spRowsOf : Sp := fun vs H Q _ => ∃ (a : Addr) (ns : List Int), vs = [.ref a] ∧ H a = some (.lst (ns.map V.int)) ∧ ns.length ≤ 900 ∧ ∀ (H' : Hp) (R : Addr), Same H H' → RwsAt H H' R (rowsOf (valAt ns) ns.length) → Q (.ref R) H'
end
end HSP
namespace HSP
open PySem PySem.Spec PyProof.Rows L2
theorem isEmpty_dec {α : Type} (l : List α) : decide (V.int ((l.length : Nat) : Int) = V.int 0) = l.isEmpty := by
  cases l with
  | nil => rfl
  | cons x r => exact decide_eq_false fun z => by have := V.int.inj z; rw [List.length_cons] at this; omega
theorem lastN_at {r : List Nat} (h : r ≠ []) : atI (r.map natV) (-1) = some (natV (lastN r)) := by
  rcases List.eq_nil_or_concat r with e | ⟨s0, z, e⟩
  · exact absurd e h
  · rw [e, List.concat_eq_append, List.map_append, lastN_snoc]
    exact atI_last _ _
/-- -1, the row, n: with what lies between each two -/
def edgesL : Nat → List Nat → Nat → List Int
  | s, [], n => [(s : Int) - 1, (n : Int)]
  | s, x :: r, n => ((s : Int) - 1) :: edgesL (x + 1) r n
theorem edges_len : ∀ (s : Nat) (c : List Nat) (n : Nat), (edgesL s c n).length = c.length + 2
  | _, [], _ => rfl
  | s, x :: r, n => by
    show (edgesL (x + 1) r n).length + 1 = _
    rw [edges_len (x + 1) r n]
    rfl
theorem edges_is : ∀ (s : Nat) (c : List Nat) (n : Nat), (edgesL s c n).map V.int = V.int ((s : Int) - 1) :: c.map natV ++ [natV n]
  | s, [], n => rfl
  | s, x :: r, n => by
    have ih := edges_is (x + 1) r n
    show V.int ((s : Int) - 1) :: (edgesL (x + 1) r n).map V.int = _
    rw [ih, show (((x + 1 : Nat) : Int) - 1) = (x : Int) by omega]
    rfl
theorem edges_gap : ∀ (s : Nat) (c : List Nat) (n i : Nat) (x y : Int), s ≤ n → (c.Pairwise (· < ·)) → (∀ z, z ∈ c → s ≤ z ∧ z < n) → (edgesL s c n)[i]? = some x → (edgesL s c n)[i + 1]? = some y → ∃ m, (gaps s c n)[i]? = some m ∧ y - x - 1 = ((m : Nat) : Int)
  | s, [], n, 0, x, y, hs, _, _, h1, h2 => by
    cases (show some ((s : Int) - 1) = some x from h1)
    cases (show some (n : Int) = some y from h2)
    exact ⟨n - s, rfl, by omega⟩
  | s, [], n, i + 1, x, y, _, _, _, h1, h2 => by
    have := (List.getElem?_eq_some_iff.mp h2).1
    have e : (edgesL s [] n).length = 2 := rfl
    omega
  | s, z :: r, n, 0, x, y, hs, hp, hz, h1, h2 => by
    cases (show some ((s : Int) - 1) = some x from h1)
    obtain ⟨z1, z2⟩ := hz z List.mem_cons_self
    refine ⟨z - s, rfl, ?_⟩
    have e : (edgesL (z + 1) r n)[0]? = some (((z + 1 : Nat) : Int) - 1) := by cases r <;> rfl
    have h2' : (edgesL (z + 1) r n)[0]? = some y := h2
    cases e.symm.trans h2'
    omega
  | s, z :: r, n, i + 1, x, y, hs, hp, hz, h1, h2 => by
    obtain ⟨z1, z2⟩ := hz z List.mem_cons_self
    obtain ⟨p1, p2⟩ := List.pairwise_cons.mp hp
    exact edges_gap (z + 1) r n i x y (by omega) p2 (fun u hu => ⟨p1 u hu, (hz u (List.mem_cons_of_mem _ hu)).2⟩) h1 h2
section
variable {P : Program} {w : World} {K : PySem.W.Frag} {mg : Str → Option Value} {base : Heap}
/-! ### rising_row -/
def spRisingRow : Sp := fun vs H Q _ => ∃ (R : Addr) (rs : List Addr) (rws : List (List Nat)) (g : Nat → Int) (n : Nat), vs = [.ref R] ∧ H R = some (.lst (rs.map V.ref)) ∧ Paired (fun r (ns : List Nat) => H r = some (.lst (ns.map natV))) rs rws ∧ RowsOk g rws n ∧ rws.length ≤ n ∧ n ≤ 900 ∧
  ∀ (H' : Hp) (q : Addr), Same H H' → H q = none → H' q = some (.lst ((risingOf rws).map natV)) → Q (.ref q) H'
/-! ### most_found -/
def spMostFound : Sp := fun vs H Q _ => ∃ (a : Addr) (ns : List Int), vs = [.ref a] ∧ H a = some (.lst (ns.map V.int)) ∧ ns.length ≤ 64 ∧ ∀ (H' : Hp) (p R : Addr) (v : V), Same H H' → H' p = some (.tup [v, .ref R]) → TrAt H' v (mostT (valAt ns) ns.length) → RwsAt H H' R (rowsOf (valAt ns) ns.length) → Q (.ref p) H'
end
end HSP
namespace HSP
open PySem PySem.Spec PyProof.Rows L2
/-! ## zip of two lists whose pairs go to one name: the pair that was given out may be alive or gone -/
section
variable {prog : Program} {w : World} {A : Around} {E : Value → Shared → Prop} {s : Shared}
/-- the zip object, whatever it keeps -/
def ZipB (h : Heap) (z TI TO : Addr) (own : Value) (f : Bool) : Prop :=
  h.get? z = some { cls := .type "zip", dict := none, data := .fields #[own, .bool f, .bool false, .ref TI, .ref TO], slots := #[] }
/-- its own pair may be used again -/
def Spare (h : Heap) (own : Value) : Prop := own = .none ∨ ∃ T : Nat, own = rawInt T ∧ h.get? T = none
theorem gone {a : Addr} {Q : Option Obj → Shared → Prop} (no : s.heap.get? a = none) (k : Q none s) : wpAny (model prog w) A (loadIfAlive a) Q E s := by
  have k2 : Q (s.heap.get? a) s := by rw [no]; exact k
  exact fun _ _ _ => k2
theorem spare_free {z TI TO : Addr} {own : Value} {f : Bool} {Q : Bool → Shared → Prop} (ez : ZipB s.heap z TI TO own f) (sp : Spare s.heap own) (k : Q true s) : wpAny (model prog w) A (Builtin.SmallTypes.ownedTupleIsFree (.ref z)) Q E s := by
  unfold Builtin.SmallTypes.ownedTupleIsFree
  rcases sp with rfl | ⟨T, rfl, no⟩
  · exact wpAny_bind (wpAny_field ez rfl (x := .none) rfl (wpAny_pure k))
  · refine wpAny_bind (wpAny_field ez rfl (x := rawInt T) rfl ?_)
    show wpAny _ _ (loadIfAlive ((T : Int).toNat) >>= _) _ _ _
    rw [Int.toNat_natCast]
    refine wpAny_bind (gone no ?_)
    rw [if_pos (show (none : Option Obj).isNone = true from rfl)]
    exact wpAny_pure k
/-- the next pair, its own one being free -/
theorem spare_item {z TI TO j1 j2 m1 m2 : Addr} {n1 n2 : Nat} {us vs : Array Value} {u v p q own : Value} {f : Bool} {Q : Value → Shared → Prop} (D : ZipApart z TI TO j1 j2 m1 m2)
    (ez : ZipB s.heap z TI TO own f) (sp : Spare s.heap own) (eTI : IsPair s.heap TI (.ref j1) (.ref j2)) (eTO : IsPair s.heap TO p q) (g1 : s.heap.IsListIter j1 m1 n1) (g2 : s.heap.IsListIter j2 m2 n2)
    (e1 : s.heap.IsList m1 us) (e2 : s.heap.IsList m2 vs) (hu : us[n1]? = some u) (hv : vs[n2]? = some v)
    (k : ∀ h', ZipB h' z TI TO (rawInt s.heap.objs.size) false → IsPair h' TO u v → h'.IsListIter j1 m1 (n1 + 1) → h'.IsListIter j2 m2 (n2 + 1) → IsPair h' s.heap.objs.size u v → h'.objs.size = s.heap.objs.size + 1 →
      (∀ c o, c ∉ [z, TO, j1, j2] → s.heap.get? c = some o → h'.get? c = some o) → Q (.ref s.heap.objs.size) { s with heap := h' }) :
    wpAny (model prog w) A (Builtin.«zip.__next__» ⟨[.ref z], []⟩) (fun fin s' => ∃ r, fin = .done (.ret r) ∧ Q r s') E s := by
  show wpAny _ _ (field (.ref z) 2 >>= _) _ _ _; refine wpAny_bind (wpAny_field ez rfl (x := .bool false) rfl ?_)
  show wpAny _ _ (field (.ref z) 3 >>= _) _ _ _; refine wpAny_bind (wpAny_field ez rfl (x := .ref TI) rfl (wpAny_bind (wpAny_seqItems eTI rfl ?_)))
  show wpAny _ _ (Builtin.SmallTypes.ownedTupleIsFree (.ref z) >>= _) _ _ _; refine wpAny_bind (spare_free ez sp ?_)
  simp only [if_true]; refine wpAny_bind (wpAny_rule (wpAny_bind (wpAny_field ez rfl (x := .ref TO) rfl (wpAny_bind (wpAny_setField_rec ez (by simp) fun k1 z1 s1 => ?_)))))
  have z1 : ZipB k1 z TI TO .ellipsis f := z1
  refine wpAny_bind ?_; simp only [List.zipIdx_cons, List.zipIdx_nil, List.forIn_cons, List.forIn_nil]; refine wpAny_bind (wpAny_bind (wpAny_onRaise ?_))
  show wpAny _ _ (Builtin.SmallTypes.nextOf (.ref j1) >>= _) _ _ _; refine wpAny_bind (wpAny_nextOf_list_item (g1.extBut s1.extBut D.i1z) (e1.extBut s1.extBut D.l1z) hu fun k2 i2 s2 => wpAny_pure ?_)
  have o2 : IsPair k2 TO p q := s2.extBut _ _ D.TOi1 (s1.extBut _ _ D.TOz eTO)
  refine wpAny_bind (wpAny_seqItems o2 rfl (wpAny_bind (wpAny_updateSeq_pair o2 fun k3 o3 s3 => ?_)))
  have o3 : IsPair k3 TO u q := o3
  refine wpAny_bind (wpAny_letGo (wpAny_pure ?_)); refine wpAny_bind (wpAny_bind (wpAny_onRaise ?_))
  show wpAny _ _ (Builtin.SmallTypes.nextOf (.ref j2) >>= _) _ _ _
  refine wpAny_bind (wpAny_nextOf_list_item (((g2.extBut s1.extBut D.i2z).extBut s2.extBut D.i12.symm).extBut s3.extBut D.TOi2.symm) (((e2.extBut s1.extBut D.l2z).extBut s2.extBut D.l2i1).extBut s3.extBut D.l2TO) hv fun k4 i4 s4 => wpAny_pure ?_)
  have o4 : IsPair k4 TO u q := s4.extBut _ _ D.TOi2 o3
  refine wpAny_bind (wpAny_seqItems o4 rfl (wpAny_bind (wpAny_updateSeq_pair o4 fun k5 o5 s5 => ?_)))
  have o5 : IsPair k5 TO u v := o5
  refine wpAny_bind (wpAny_letGo (wpAny_pure (wpAny_pure ?_))); refine wpAny_bind (wpAny_seqItems o5 rfl (wpAny_bind (wpAny_newTuple ?_)))
  have many : k5.objs.size = s.heap.objs.size := by rw [s5.1, s4.1, s3.1, s2.1, s1.1]
  have z5 : ZipB k5 z TI TO .ellipsis f := s5.extBut _ _ D.TOz.symm (s4.extBut _ _ D.i2z.symm (s3.extBut _ _ D.TOz.symm (s2.extBut _ _ D.i1z.symm z1)))
  have st : ∀ c o, c ∉ [z, TO, j1, j2] → s.heap.get? c = some o → k5.get? c = some o := fun c o no e => by
    have n1 : c ≠ z := fun y => no (by simp [y])
    have n2 : c ≠ TO := fun y => no (by simp [y])
    have n3 : c ≠ j1 := fun y => no (by simp [y])
    have n4 : c ≠ j2 := fun y => no (by simp [y])
    exact s5.extBut _ _ n2 (s4.extBut _ _ n4 (s3.extBut _ _ n2 (s2.extBut _ _ n3 (s1.extBut _ _ n1 e))))
  have j15 : k5.IsListIter j1 m1 (n1 + 1) := ((i2.extBut s3.extBut D.TOi1.symm).extBut s4.extBut D.i12).extBut s5.extBut D.TOi1.symm
  have j25 : k5.IsListIter j2 m2 (n2 + 1) := i4.extBut s5.extBut D.TOi2.symm
  have zlt : z < k5.objs.size := Heap.lt_size z5
  show wpAny _ _ (Builtin.SmallTypes.ownedTupleHandOut (.ref z) (.ref k5.objs.size) >>= _) _ _ _; refine wpAny_bind ?_
  unfold Builtin.SmallTypes.ownedTupleHandOut
  have z6 : ZipB (k5.push { cls := .type "tuple", data := .seq #[u, v] }) z TI TO .ellipsis f := Heap.get?_push_of_some _ z5
  refine wpAny_bind (wpAny_setField_rec z6 (by simp) fun k7 z7 s7 => ?_)
  have z7 : ZipB k7 z TI TO (rawInt k5.objs.size) f := z7
  refine wpAny_setField_rec z7 (by simp) fun k8 z8 s8 => ?_
  have z8 : ZipB k8 z TI TO (rawInt k5.objs.size) false := z8
  have up : ∀ c o, c ≠ z → k5.get? c = some o → k8.get? c = some o := fun c o no e => s8.extBut _ _ no (s7.extBut _ _ no (Heap.get?_push_of_some _ e))
  have new : IsPair k8 k5.objs.size u v := s8.extBut _ _ (Nat.ne_of_gt zlt) (s7.extBut _ _ (Nat.ne_of_gt zlt) (Heap.get?_push_size _ rfl))
  have more : k8.objs.size = k5.objs.size + 1 := by rw [s8.1, s7.1, Heap.size_push]
  rw [many] at z8 new more
  refine wpAny_pure ⟨_, rfl, ?_⟩
  show Q (.ref k5.objs.size) _
  rw [many]
  exact k k8 z8 (up _ _ D.TOz o5) (j15.at fun o e => up _ o D.i1z e) (j25.at fun o e => up _ o D.i2z e) new more fun c o no e => up c o (fun y => no (by simp [y])) (st c o no e)
/-- there is none any more, its own pair being free -/
theorem spare_end {z TI TO j1 j2 m1 m2 : Addr} {n1 n2 : Nat} {us vs : Array Value} {p q own : Value} {f : Bool} {Q : Fin → Shared → Prop} (calm : A.handled = none) (D : ZipApart z TI TO j1 j2 m1 m2)
    (ez : ZipB s.heap z TI TO own f) (sp : Spare s.heap own) (eTI : IsPair s.heap TI (.ref j1) (.ref j2)) (eTO : IsPair s.heap TO p q) (g1 : s.heap.IsListIter j1 m1 n1) (g2 : s.heap.IsListIter j2 m2 n2)
    (e1 : s.heap.IsList m1 us) (e2 : s.heap.IsList m2 vs) (out : us[n1]? = none ∨ vs[n2]? = none)
    (k : ∀ h' e, (∀ c o, c ∉ [z, TO, j1, j2] → s.heap.get? c = some o → h'.get? c = some o) → (∃ o, h'.get? e = some o ∧ o.cls = .type "StopIteration") → E (.ref e) { s with heap := h' }) :
    wpAny (model prog w) A (Builtin.«zip.__next__» ⟨[.ref z], []⟩) Q E s := by
  show wpAny _ _ (field (.ref z) 2 >>= _) _ _ _; refine wpAny_bind (wpAny_field ez rfl (x := .bool false) rfl ?_)
  show wpAny _ _ (field (.ref z) 3 >>= _) _ _ _; refine wpAny_bind (wpAny_field ez rfl (x := .ref TI) rfl (wpAny_bind (wpAny_seqItems eTI rfl ?_)))
  show wpAny _ _ (Builtin.SmallTypes.ownedTupleIsFree (.ref z) >>= _) _ _ _; refine wpAny_bind (spare_free ez sp ?_)
  simp only [if_true]; refine wpAny_bind (wpAny_rule (wpAny_bind (wpAny_field ez rfl (x := .ref TO) rfl (wpAny_bind (wpAny_setField_rec ez (by simp) fun k1 z1 s1 => ?_)))))
  have z1 : ZipB k1 z TI TO .ellipsis f := z1
  have apart : ∀ c, c ∉ [z, TO, j1, j2] → c ≠ z ∧ c ≠ TO ∧ c ≠ j1 ∧ c ≠ j2 := fun c no => ⟨fun y => no (by simp [y]), fun y => no (by simp [y]), fun y => no (by simp [y]), fun y => no (by simp [y])⟩
  refine wpAny_bind ?_; simp only [List.zipIdx_cons, List.zipIdx_nil, List.forIn_cons, List.forIn_nil]; refine wpAny_bind (wpAny_bind (wpAny_onRaise ?_))
  show wpAny _ _ (Builtin.SmallTypes.nextOf (.ref j1) >>= _) _ _ _
  cases hu : us[n1]? with
  | none =>
    refine wpAny_bind (wpAny_nextOf_list_end calm (g1.extBut s1.extBut D.i1z) (e1.extBut s1.extBut D.l1z) hu fun k2 e s2 he => ?_)
    obtain ⟨oe, e3, e4⟩ := he
    have z2 : ZipB k2 z TI TO .ellipsis f := s2 _ _ D.i1z.symm z1
    have ne : e ≠ z := fun y => by subst y; rw [z2] at e3; cases e3; simp at e4
    exact wpAny_setField_rec z2 (by simp) fun k3 _ s3 => k k3 e (fun c o no y => s3.extBut _ _ (apart c no).1 (s2 _ _ (apart c no).2.2.1 (s1.extBut _ _ (apart c no).1 y))) ⟨oe, s3.extBut _ _ ne e3, e4⟩
  | some u =>
    have hv : vs[n2]? = none := by
      rcases out with y | y
      · rw [hu] at y
        cases y
      · exact y
    refine wpAny_bind (wpAny_nextOf_list_item (g1.extBut s1.extBut D.i1z) (e1.extBut s1.extBut D.l1z) hu fun k2 i2 s2 => wpAny_pure ?_)
    have o2 : IsPair k2 TO p q := s2.extBut _ _ D.TOi1 (s1.extBut _ _ D.TOz eTO)
    refine wpAny_bind (wpAny_seqItems o2 rfl (wpAny_bind (wpAny_updateSeq_pair o2 fun k3 o3 s3 => ?_)))
    refine wpAny_bind (wpAny_letGo (wpAny_pure ?_)); refine wpAny_bind (wpAny_bind (wpAny_onRaise ?_))
    show wpAny _ _ (Builtin.SmallTypes.nextOf (.ref j2) >>= _) _ _ _
    refine wpAny_bind (wpAny_nextOf_list_end calm (((g2.extBut s1.extBut D.i2z).extBut s2.extBut D.i12.symm).extBut s3.extBut D.TOi2.symm) (((e2.extBut s1.extBut D.l2z).extBut s2.extBut D.l2i1).extBut s3.extBut D.l2TO) hv fun k4 e s4 he => ?_)
    obtain ⟨oe, e3, e4⟩ := he
    have z4 : ZipB k4 z TI TO .ellipsis f := s4 _ _ D.i2z.symm (s3.extBut _ _ D.TOz.symm (s2.extBut _ _ D.i1z.symm z1))
    have ne : e ≠ z := fun y => by subst y; rw [z4] at e3; cases e3; simp at e4
    exact wpAny_setField_rec z4 (by simp) fun k5 _ s5 => k k5 e (fun c o no y => s5.extBut _ _ (apart c no).1 (s4 _ _ (apart c no).2.2.2 (s3.extBut _ _ (apart c no).2.1 (s2.extBut _ _ (apart c no).2.2.1 (s1.extBut _ _ (apart c no).1 y))))) ⟨oe, s5.extBut _ _ ne e3, e4⟩
/-- what a zip keeps: nothing, or a pair that it gave out -/
def ZipAny (h : Heap) (z TI TO : Addr) : Prop := ∃ own f, ZipB h z TI TO own f ∧ (own = .none ∨ ∃ T : Nat, own = rawInt T)
theorem any_item {z TI TO j1 j2 m1 m2 : Addr} {n1 n2 : Nat} {us vs : Array Value} {u v p q : Value} {Q : Option Value → Shared → Prop} (D : ZipApart z TI TO j1 j2 m1 m2)
    (ez : ZipAny s.heap z TI TO) (eTI : IsPair s.heap TI (.ref j1) (.ref j2)) (eTO : IsPair s.heap TO p q) (g1 : s.heap.IsListIter j1 m1 n1) (g2 : s.heap.IsListIter j2 m2 n2)
    (e1 : s.heap.IsList m1 us) (e2 : s.heap.IsList m2 vs) (hu : us[n1]? = some u) (hv : vs[n2]? = some v)
    (k : ∀ h', ZipAny h' z TI TO → (∃ x y, IsPair h' TO x y) → h'.IsListIter j1 m1 (n1 + 1) → h'.IsListIter j2 m2 (n2 + 1) → IsPair h' s.heap.objs.size u v →
      (∀ c o, c ∉ [z, TO, j1, j2] → s.heap.get? c = some o → h'.get? c = some o) → Q (some (.ref s.heap.objs.size)) { s with heap := h' }) :
    wpAny (model prog w) A (pyNext (.ref z)) Q E s := by
  obtain ⟨own, f, ez, ow⟩ := ez
  have ty : s.TypeIs (.ref z) "zip" := ⟨_, ez, rfl⟩
  have free : Spare s.heap own → wpAny (model prog w) A (pyNext (.ref z)) Q E s := fun sp => by
    unfold pyNext
    exact wpAny_bind (wpAny_attempt (wpAny_callSpecial?_slot (name := Str.ofString "__next__") ty F.slot_zip_next (wpAny_call_entry F.slot_zip_next ty F.entry_zip_next
      (spare_item D ez sp eTI eTO g1 g2 e1 e2 hu hv fun h' a1 a2 a3 a4 a5 _ a7 => wpAny_pure (k h' ⟨_, _, a1, .inr ⟨_, rfl⟩⟩ ⟨_, _, a2⟩ a3 a4 a5 a7)) (F.args_zip_next_1 _))))
  rcases ow with rfl | ⟨T, rfl⟩
  · exact free (.inl rfl)
  cases eT : s.heap.get? T with
  | none => exact free (.inr ⟨T, rfl, eT⟩)
  | some oT =>
    refine wpAny_pyNext_zip_item_held D ez eT eTI g1 g2 e1 e2 hu hv fun h' a1 a2 a3 a4 _ a6 => ?_
    have a6' : ∀ c o, c ∉ [z, j1, j2] → s.heap.get? c = some o → h'.get? c = some o := fun c o no => a6 c o (fun y => no (by simp [y])) (fun y => no (by simp [y])) fun y => no (by simp [y])
    exact k h' ⟨_, _, a1, .inr ⟨T, rfl⟩⟩ ⟨p, q, a6 _ _ D.TOz D.TOi1 D.TOi2 eTO⟩ a2 a3 a4 fun c o no e => a6' c o (fun y => no (by simp at y ⊢; rcases y with y | y | y <;> simp [y])) e
theorem any_end {z TI TO j1 j2 m1 m2 : Addr} {n1 n2 : Nat} {us vs : Array Value} {p q : Value} {Q : Option Value → Shared → Prop} (calm : A.handled = none) (D : ZipApart z TI TO j1 j2 m1 m2)
    (ez : ZipAny s.heap z TI TO) (eTI : IsPair s.heap TI (.ref j1) (.ref j2)) (eTO : IsPair s.heap TO p q) (g1 : s.heap.IsListIter j1 m1 n1) (g2 : s.heap.IsListIter j2 m2 n2)
    (e1 : s.heap.IsList m1 us) (e2 : s.heap.IsList m2 vs) (out : us[n1]? = none ∨ vs[n2]? = none)
    (k : ∀ h', (∀ c o, c ∉ [z, TO, j1, j2] → s.heap.get? c = some o → h'.get? c = some o) → Q none { s with heap := h' }) : wpAny (model prog w) A (pyNext (.ref z)) Q E s := by
  obtain ⟨own, f, ez, ow⟩ := ez
  have ty : s.TypeIs (.ref z) "zip" := ⟨_, ez, rfl⟩
  have free : Spare s.heap own → wpAny (model prog w) A (pyNext (.ref z)) Q E s := fun sp => by
    unfold pyNext
    refine wpAny_bind (wpAny_attempt (wpAny_callSpecial?_slot (name := Str.ofString "__next__") ty F.slot_zip_next (wpAny_call_entry F.slot_zip_next ty F.entry_zip_next
      (spare_end calm D ez sp eTI eTO g1 g2 e1 e2 out fun h' e hk he => ?_) (F.args_zip_next_1 _))))
    obtain ⟨o, ho, hc⟩ := he
    exact wpAny_bind (wpAny_isInstance (T := "StopIteration") (b := true) ⟨o, ho, hc⟩ isSubtype_stop (wpAny_pure (k _ hk)))
  rcases ow with rfl | ⟨T, rfl⟩
  · exact free (.inl rfl)
  cases eT : s.heap.get? T with
  | none => exact free (.inr ⟨T, rfl, eT⟩)
  | some oT =>
    exact wpAny_pyNext_zip_end_held calm D ez eT eTI g1 g2 e1 e2 out fun h' a => k h' fun c o no => a c o (fun y => no (by simp [y])) (fun y => no (by simp [y])) fun y => no (by simp [y])
end
theorem turn_zipN {P : Program} {w : World} {K : PySem.W.Frag} {x : Str} {tpos : Pos} {a b z TI TO i1 i2 : Addr} (D : ZipApart z TI TO i1 i2 a b) :
    Turn P w K (.Name x tpos) (Itz K a b) [z, TI, TO, i1, i2] z (fun i h => ZipAny h z TI TO ∧ IsPair h TI (.ref i1) (.ref i2) ∧ (∃ x y, IsPair h TO x y) ∧ h.IsListIter i1 a i ∧ h.IsListIter i2 b i) where
  mem := by simp
  obj := fun i h st c hc => by
    obtain ⟨⟨own, f, hz, _⟩, hTI, ⟨x, y, hTO⟩, ⟨o1, e1, _, d1⟩, ⟨o2, e2, _, d2⟩⟩ := st
    have cs : c = z ∨ c = TI ∨ c = TO ∨ c = i1 ∨ c = i2 := by simpa using hc
    rcases cs with rfl | rfl | rfl | rfl | rfl
    · exact ⟨_, hz, fun v q => nomatch q⟩
    · exact ⟨_, hTI, fun v q => nomatch q⟩
    · exact ⟨_, hTO, fun v q => nomatch q⟩
    · exact ⟨o1, e1, fun v q => by rw [d1] at q; cases q⟩
    · exact ⟨o2, e2, fun v q => by rw [d2] at q; cases q⟩
  keep := fun i h h' st k => by
    obtain ⟨⟨own, f, hz, ow⟩, hTI, ⟨x, y, hTO⟩, h1, h2⟩ := st
    exact ⟨⟨own, f, k z (by simp) _ hz, ow⟩, k TI (by simp) _ hTI, ⟨x, y, k TO (by simp) _ hTO⟩, h1.at fun o q => k i1 (by simp) o q, h2.at fun o q => k i2 (by simp) o q⟩
  item := by
    intro X hP hw hK hc i pins s σ H E I hf st hg
    subst hP hw hK
    obtain ⟨hz, hTI, ⟨x0, y0, hTO⟩, h1, h2⟩ := st
    obtain ⟨xs, ys, x, y, hqx, hqy, hx, hy⟩ := hg
    obtain ⟨us, rv, p, _⟩ := I.list hqx
    obtain ⟨us2, rv2, p2, _⟩ := I.list hqy
    obtain ⟨u, hu, ru⟩ := rv.get hx
    obtain ⟨u2, hu2, ru2⟩ := rv2.get hy
    have small : ∀ c, c ∈ [z, TI, TO, i1, i2] → c < s.heap.objs.size := fun c hcm => by
      have cs : c = z ∨ c = TI ∨ c = TO ∨ c = i1 ∨ c = i2 := by simpa using hcm
      rcases cs with rfl | rfl | rfl | rfl | rfl
      · obtain ⟨_, _, e, _⟩ := hz; exact Heap.lt_size e
      · exact Heap.lt_size hTI
      · exact Heap.lt_size hTO
      · obtain ⟨_, e, _⟩ := h1; exact Heap.lt_size e
      · obtain ⟨_, e, _⟩ := h2; exact Heap.lt_size e
    refine any_item D hz hTI hTO h1 h2 p.isList p2.isList (u := u) (v := u2) (by simpa using hu) (by simpa using hu2) fun h' z' TO' h1' h2' hT hk => ?_
    have new : ObjOk X.prog X.w (upd H s.heap.objs.size (.tup [x, y])) h' s.heap.objs.size (.tup [x, y]) :=
      ⟨by show 2 ≤ sizeLine; decide, [u, u2], .cons ru (.cons ru2 .nil), ⟨_, hT, rfl, _, rfl⟩⟩
    have I1 : Inv X pins σ (upd H s.heap.objs.size (.tup [x, y])) { s with heap := h' } :=
      I.turnedNew (t' := s.toks) (ch := [z, TI, TO, i1, i2]) (fun c o hb q => hk c o (fun y => hb (by simp at y ⊢; rcases y with y | y | y | y <;> simp [y])) q) hf (Nat.le_refl _) new
    refine ⟨_, rfl, wpAny_pure ⟨.ref s.heap.objs.size, _, I1, rfl, ⟨_, x, y, rfl, I.hok.fresh (Nat.le_refl _), rfl, fun l hl => by rw [I.list_inj hl hqx]; exact hx, fun l hl => by rw [I.list_inj hl hqy]; exact hy⟩, ⟨z', ?_, TO', h1', h2'⟩, fun c hcm => ?_⟩⟩
    · exact hk _ _ (by simp [D.TIz, D.TITO, D.TIi1, D.TIi2]) hTI
    · rw [upd_ne (Nat.ne_of_lt (small c hcm))]
      exact (hf c hcm).1
  done := by
    intro X hP hw hK hc i pins s σ H E I hf st hg
    subst hP hw hK
    obtain ⟨hz, hTI, ⟨x0, y0, hTO⟩, h1, h2⟩ := st
    obtain ⟨xs, ys, hqx, hqy, over⟩ := hg
    obtain ⟨us, rv, p, _⟩ := I.list hqx
    obtain ⟨us2, rv2, p2, _⟩ := I.list hqy
    have l1 := rv.length
    have l2 := rv2.length
    have he : us.toArray[i]? = none ∨ us2.toArray[i]? = none := by
      rcases over with q | q
      · exact .inl (by simp; omega)
      · exact .inr (by simp; omega)
    exact any_end (I.ok.hd hc) D hz hTI hTO h1 h2 p.isList p2.isList he fun h' hk => ⟨rfl, I.turnedL (t' := s.toks) (ch := [z, TI, TO, i1, i2]) (fun c o hb q => hk c o (fun y => hb (by simp at y ⊢; rcases y with y | y | y | y <;> simp [y])) q) hf⟩
  self := fun A i s Q E st h => by
    obtain ⟨⟨own, f, hz, _⟩, _⟩ := st
    have ty : s.TypeIs (.ref z) "zip" := ⟨_, hz, rfl⟩
    refine wpAny_pyIter_slot ty F.slot_zip_iter (wpAny_call_entry F.slot_zip_iter ty F.entry_zip_iter ?_ (F.args_zip_iter_1 _))
    show wpAny _ _ (ret (.ref z)) _ _ s
    exact wpAny_pure ⟨_, rfl, "zip", _, ty, F.slot_zip_next.lookup, h⟩
theorem fresh_five {X : Cx} {pins : List (Addr × Obj)} {σ : L2.St} {H : Hp} {s : Shared} (I : Inv X pins σ H s) (n : Nat) (hn : n = s.heap.objs.size) (c : Addr) (h : c ∈ [n + 4, n + 2, n + 3, n, n + 1]) : FpOk X pins H c := by
  have ge : s.heap.objs.size ≤ c := by
    have cs : c = n + 4 ∨ c = n + 2 ∨ c = n + 3 ∨ c = n ∨ c = n + 1 := by simpa using h
    rcases cs with z | z | z | z | z <;> rw [z, hn] <;> first | exact Nat.le_add_right _ _ | exact Nat.le_refl _
  exact I.fpOk ge (I.hok.fresh ge)
theorem pi_zipN {X : Cx} {e e2 : Expr} {ta : TA} {x : Str} {p pos tpos : Pos} (hg : Gl X "zip") (hm : X.mg "zip" = none) (ha : PA X [e, e2] ta)
    (hs : starEach [e, e2] X.env = (false, eval e X.env) :: starEach [e2] X.env := by rfl) (hpl : (backTo pos (starEach [e2] X.env)).any (·.1) = false := by rfl) :
    PI X (.Name x tpos) (.Call (.Name "zip" p) [e, e2] [] pos) (iZip X.K ta) := by
  refine ⟨fun pins s σ H R I h => Call_ (ld_blt I hg hm PyProof.Rows.boot_zip (PyProof.Rows.callWith_type1 (thn (ha.run pos pins s σ H _ I h) fun us s1 ⟨vs, H1, I1, r1, q1⟩ => ?_) hs hpl))⟩
  obtain ⟨a, b, xs, ys, rfl, hqx, hqy, q⟩ := q1
  rcases r1 with _ | ⟨r, _ | ⟨r', _ | _⟩⟩
  cases r
  cases r'
  obtain ⟨us1, rv, p1, _⟩ := I1.list hqx
  obtain ⟨us2, rv2, p2, _⟩ := I1.list hqy
  refine call_zip_2 p1.isList p2.isList fun h' hz hTI hTO h1 h2 hsz hk => wpAny_pyIter_zip hz ?_
  have I2 : Inv X pins σ H1 { s1 with heap := h' } := I1.kept (t' := s1.toks) hk
  exact ⟨_, _, _, _, H1, rfl, I2, turn_zipN (PySem.W.ktu_apart s1.heap.objs.size a b p1.lt p2.lt), ⟨⟨.none, false, hz, .inl rfl⟩, hTI, ⟨_, _, hTO⟩, h1, h2⟩, fresh_five I1 _ rfl, q⟩
end HSP
namespace HSP
open PySem PySem.Spec PyProof.Rows L2
/-- neighbours in a row -/
def consec (row : List Nat) : List (Nat × Nat) := row.zip (row.drop 1)
theorem consec_ok {R : Nat → Nat → Prop} {row : List Nat} (h : row.Pairwise R) {p : Nat × Nat} (hp : p ∈ consec row) : R p.1 p.2 := by
  obtain ⟨i, hi, e⟩ := List.mem_iff_getElem.mp hp
  unfold consec at e hi
  rw [List.length_zip, List.length_drop] at hi
  have h1 : i < row.length := by omega
  have h2 : i < (row.drop 1).length := by rw [List.length_drop]; omega
  rw [List.getElem_zip] at e
  rw [← e]
  show R (row[i]'h1) ((row.drop 1)[i]'h2)
  rw [List.getElem_drop]
  exact List.pairwise_iff_getElem.mp h i (1 + i) (by omega) (by omega) (by omega)
theorem consec_len (row : List Nat) : (consec row).length ≤ row.length := by
  unfold consec
  rw [List.length_zip]
  omega
theorem nats_same {l : List Nat} {n : Nat} {ns' : List Int} (h : l.Perm (List.range n)) (p : ns'.Perm (l.map Int.ofNat)) (s : ns'.Pairwise (· ≤ ·)) : ns' = (List.range n).map Int.ofNat :=
  sorted_same (p.trans (h.map _)) s (range_up n)
section
variable {P : Program} {w : World} {K : PySem.W.Frag} {mg : Str → Option Value} {base : Heap}
/-! ### is_split, where it is one -/
theorem sc_is_split : FnScope n_is_split ["thing", "nodes"] (defScope s_is_split) := ⟨rfl, rfl, rfl, by decide +kernel, rfl, by decide +kernel, by decide +kernel⟩
def spSplit : Sp := fun vs H Q _ => ∃ (R N : Addr) (rs : List Addr) (rws : List (List Nat)) (n : Nat), vs = [.ref R, .ref N] ∧ H R = some (.lst (rs.map V.ref)) ∧ Paired (fun r (ns : List Nat) => H r = some (.lst (ns.map natV))) rs rws ∧ (∀ r, r ∈ rws → r ≠ []) ∧ rws.flatten.Perm (List.range n) ∧ n ≤ 900 ∧
  H N = some (.lst ((List.range n).map natV)) ∧ ∀ H', Same H H' → Q (.bl true) H'
theorem ok_split (B : Bl mg) (Wh : Df P w K mg base "is_whole" 1 ["thing"] spWhole) (a : At K mg "is_split" s_is_split) : Df P w K mg base "is_split" 2 ["thing", "nodes"] spSplit := by
  refine Df.mk' a sc_is_split (fun vs H Q E h => ?_) (fun _ _ _ _ _ _ us hl => match us, hl with | [_, _], _ => rfl) (fun f cdv A outer s H vs Q E hr h => ?_)
  · obtain ⟨_, _, _, _, _, rfl, _⟩ := h
    rfl
  obtain ⟨R, N, rs, rws, n, rfl, eR, pR, ne, part, h900, eN, q⟩ := h
  have zero : 0 ≤ sizeLine := by show 0 ≤ sizeLine; decide
  have lr := Paired.length pR
  have total : rws.flatten.length = n := by rw [part.length_eq, List.length_range]
  refine ⟨_, (pss_cons (ps_if (pt_not (pt_val (pe_callB call_isi (by rfl) B.isinstance (by decide +kernel) (pa_cons (pv 0) (pa_cons (pe_bltn (v := .ty "list") (by rfl) B.list (by decide +kernel) rfl) pa_nil))))) (pss_one (ps_ret pe_bl)) pss_nil)
 (pss_cons (ps_set (i := 2) sc_is_split.nd rfl (.inl rfl) (pe_lst pa_nil))
 (pss_cons (ps_for PassesOwn.never rfl (pi_list (pv 0)) (pg_name (i := 3) sc_is_split.nd rfl (.inl rfl)) (pss_cons (ps_if (PW.pt (pw_or (pt_not (pt_val (pe_callB call_isi (by rfl) B.isinstance (by decide +kernel) (pa_cons (pv 3) (pa_cons (pe_bltn (v := .ty "list") (by rfl) B.list (by decide +kernel) rfl) pa_nil))))) (pw_or1 (pt_cmpR op_eq (pe_callB call_len_seq (by rfl) B.len PySem.boot_len (pa_cons (pv 3) pa_nil)) pe_int (nomark _))))) (pss_one (ps_ret pe_bl)) pss_nil)
 (pss_one (ps_for PassesOwn.never rfl (pi_list (pv 3)) (pg_name (i := 4) sc_is_split.nd rfl (.inl rfl)) (pss_cons (ps_if (pt_not (pt_val (pe_df Wh hr (pa_cons (pv 4) pa_nil)))) (pss_one (ps_ret pe_bl)) pss_nil)
 (pss_one (ps_expr (pe_bm PySem.F.plainAttrs_list PySem.F.slot_list_append PySem.F.type_list_append mt_append (pv 2) (pa_cons (pv 4) pa_nil)))))))))
 (pss_one (ps_ret (pe_cmpR (op_eqD hr.units) (pe_callB cr_sortedI (by rfl) B.sorted (by decide +kernel) (pa_cons (pv 2) pa_nil)) (pv 1) (nomark _))))))), ?_⟩
  refine ⟨_, rfl, _, _, _, _, true, rfl, .ty "list", .base (.lst eR), rfl, true, rfl, iteF ?_⟩
  refine ⟨zero, fun D hD => ?_⟩
  have sD := Same.new (o := .lst []) hD
  refine ⟨_, rfl, R, rfl, ⟨_, .of (sD _ _ eR)⟩, for_list (xs := rs.map V.ref) (fun i σ H' => ∃ y3 y4 : Option V, σ = [some (.ref R), some (.ref N), some (.ref D), y3, y4] ∧ Same H H' ∧ H' D = some (.lst ((rws.take i).flatten.map natV))) ⟨none, none, rfl, sD, upd_same⟩ (fun i σ H' _ h' => ?_) (fun i x σ H2 hx h2 => ?_) (fun σ H2 h2 => ?_)⟩
  · obtain ⟨_, _, _, s', _⟩ := h'
    exact .of (s' _ _ eR)
  · obtain ⟨y3, y4, rfl, s2, e2⟩ := h2
    rw [List.getElem?_map] at hx
    obtain ⟨r, hr2, rfl⟩ := Option.map_eq_some_iff.mp hx
    obtain ⟨row, hrow, er⟩ := Paired.getL pR hr2
    have er2 := s2 _ _ er
    have rne := ne row (List.mem_of_getElem? hrow)
    have lpos : 0 < row.length := List.length_pos_iff.mpr rne
    have et : rws.take (i + 1) = rws.take i ++ [row] := by
      rw [List.take_add_one, hrow]
      rfl
    have sub : (rws.take i).flatten.length + row.length ≤ n := by
      have h1 : rws.flatten = (rws.take (i + 1)).flatten ++ (rws.drop (i + 1)).flatten := by rw [← List.flatten_append, List.take_append_drop]
      have h2 := congrArg List.length h1
      rw [List.length_append, total, et, List.flatten_append, List.length_append] at h2
      have h3 : [row].flatten.length = row.length := by simp
      omega
    refine ⟨_, rfl, _, _, _, _, true, rfl, .ty "list", .base (.lst er2), rfl, true, rfl, iteF ?_⟩
    refine ⟨_, rfl, r, _, rfl, .inl (.of er2), rfl, _, rfl, ite_no (fun z => by have := V.int.inj z; rw [List.length_map] at this; omega) ?_⟩
    refine ⟨_, rfl, r, rfl, ⟨_, .of er2⟩, for_list (xs := row.map natV) (fun j σ H' => ∃ y4 : Option V, σ = [some (.ref R), some (.ref N), some (.ref D), some (.ref r), y4] ∧ Same H H' ∧ H' D = some (.lst (((rws.take i).flatten ++ row.take j).map natV))) ⟨y4, rfl, s2, by rw [List.take_zero, List.append_nil]; exact e2⟩ (fun j σ H' _ h' => ?_) (fun j x σ H3 hx3 h3 => ?_) (fun σ H3 h3 => ?_)⟩
    · obtain ⟨_, _, s', _⟩ := h'
      exact .of (s' _ _ er)
    · obtain ⟨y5, rfl, s3, e3⟩ := h3
      rw [List.getElem?_map] at hx3
      obtain ⟨z, hz, rfl⟩ := Option.map_eq_some_iff.mp hx3
      have hj := (List.getElem?_eq_some_iff.mp hz).1
      refine ⟨_, rfl, _, rfl, true, rfl, iteF ?_⟩
      refine ⟨_, rfl, .inl ⟨rfl, _, .of e3⟩, _, rfl, D, _, _, rfl, rfl, e3, ?_, ?_⟩
      · rw [List.length_map, List.length_append, List.length_take]
        exact small1000 (by omega)
      refine ⟨_, rfl, fun b o eb => ?_, ?_⟩
      · rw [upd_ne (ne_of_none eb hD)]
        exact s3 _ _ eb
      · rw [upd_same, List.take_add_one, hz, ← List.append_assoc]
        exact congrArg (fun z => some (HO.lst z)) (List.map_append (l₂ := [z])).symm
    · obtain ⟨y5, rfl, s3, e3⟩ := h3
      rw [List.length_map, List.take_length] at e3
      refine ⟨_, _, rfl, s3, ?_⟩
      rw [et, List.flatten_append]
      rw [show [row].flatten = row by simp]
      exact e3
  · obtain ⟨y3, y4, rfl, s2, e2⟩ := h2
    rw [List.length_map, lr, List.take_length, nats_ints] at e2
    refine ⟨_, rfl, D, _, rfl, .of e2, fun ns' p perm srt np => ?_⟩
    have en := nats_same part perm srt
    have sp := Same.new (o := .lst (ns'.map V.int)) np
    have eN2 := sp _ _ (s2 _ _ eN)
    have ep : (upd H2 p (.lst (ns'.map V.int))) p = some (.lst (((List.range n).map Int.ofNat).map V.int)) := by rw [upd_same, en]
    rw [nats_ints] at eN2
    refine ⟨_, rfl, intsD ((List.range n).map Int.ofNat), intsD ((List.range n).map Int.ofNat), .lst (.of ep) (ints_dpAll _), .lst (.of eN2) (ints_dpAll _), ints_shaped _, ints_shaped _, ?_⟩
    rw [SeqAt.eqv_refl _ (ints_can0 _)]
    exact q _ (s2.trans sp)
/-! ### are_rows, where they are -/
def spAreRows : Sp := fun vs H Q _ => ∃ (a R : Addr) (ns : List Int) (rs : List Addr) (rws : List (List Nat)), vs = [.ref a, .ref R] ∧ H a = some (.lst (ns.map V.int)) ∧ ns.length ≤ 900 ∧ H R = some (.lst (rs.map V.ref)) ∧ Paired (fun r (ns : List Nat) => H r = some (.lst (ns.map natV))) rs rws ∧ RowsOk (valAt ns) rws ns.length ∧
  ∀ H', Same H H' → Q (.bl true) H'
theorem pairs_le {g : Nat → Int} {rws : List (List Nat)} {n : Nat} (ok : RowsOk g rws n) (i : Nat) : ((rws.take i).map consec).flatten.length ≤ n := by
  have h1 := ok.part.length_eq
  rw [List.length_range] at h1
  have key : ∀ l : List (List Nat), (l.map consec).flatten.length ≤ l.flatten.length := fun l => by
    induction l with
    | nil => exact Nat.le_refl _
    | cons r t ih =>
      have := consec_len r
      rw [List.map_cons, List.flatten_cons, List.flatten_cons, List.length_append, List.length_append]
      omega
  have h2 := key (rws.take i)
  have h3 : (rws.take i).flatten.length ≤ rws.flatten.length := by
    have e : rws.flatten = (rws.take i).flatten ++ (rws.drop i).flatten := by rw [← List.flatten_append, List.take_append_drop]
    rw [e, List.length_append]
    omega
  omega
theorem yes_lc {σ : L2.St} {H : Hp} {A C : Hp → Prop} (h : A H) : tYes σ H fun b H3 => if b = true then A H3 else C H3 := by
  show if true = true then A H else C H
  exact iteT h
end
end HSP
namespace HSP
open PySem PySem.Spec PyProof.Rows L2
def consecI (r : List Int) : List (Int × Int) := r.zip (r.drop 1)
theorem consecI_len (r : List Int) : (consecI r).length ≤ r.length := by
  unfold consecI
  rw [List.length_zip]
  omega
def pairOk (ns : List Int) (p : Int × Int) : Bool := decide (p.1 < p.2) && decide (valAt ns p.1.toNat ≥ valAt ns p.2.toNat)
def GoodR (ns : List Int) (th : Option (List (Option (List (Option Int))))) : Prop := ∃ rws : List (List Int), th = asRows rws ∧ (∀ r, r ∈ rws → r ≠ []) ∧ rws.flatten.Perm ((List.range ns.length).map Int.ofNat) ∧ ∀ r, r ∈ rws → (consecI r).all (pairOk ns) = true
theorem flat_part {rws : List (List Int)} {n : Nat} (p : rws.flatten.Perm ((List.range n).map Int.ofNat)) {r : List Int} (hr : r ∈ rws) : r.length ≤ n ∧ ∀ i, i ∈ r → 0 ≤ i ∧ i < n := by
  have l := p.length_eq
  rw [List.length_map, List.length_range] at l
  refine ⟨?_, fun i hi => ?_⟩
  · have key : ∀ (l : List (List Int)), r ∈ l → r.length ≤ l.flatten.length := fun l => by
      induction l with
      | nil => intro h; cases h
      | cons x t ih =>
        intro h
        rw [List.flatten_cons, List.length_append]
        rcases List.mem_cons.mp h with z | z
        · rw [z]; omega
        · have := ih z; omega
    have := key rws hr
    omega
  · have := p.mem_iff.mp (List.mem_flatten.mpr ⟨r, hr, hi⟩)
    obtain ⟨m, hm, rfl⟩ := List.mem_map.mp this
    have := List.mem_range.mp hm
    exact ⟨Int.natCast_nonneg m, by show ((m : Nat) : Int) < _; omega⟩
theorem rows_le2 {rws : List (List Int)} {n : Nat} (ne : ∀ r, r ∈ rws → r ≠ []) (p : rws.flatten.Perm ((List.range n).map Int.ofNat)) : rws.length ≤ n := by
  have l := p.length_eq
  rw [List.length_map, List.length_range] at l
  have key : ∀ l : List (List Int), (∀ r, r ∈ l → r ≠ []) → l.length ≤ l.flatten.length := fun l => by
    induction l with
    | nil => intro _; exact Nat.le_refl _
    | cons r t ih =>
      intro hn
      have h1 := ih fun x hx => hn x (List.mem_cons_of_mem _ hx)
      have h2 := List.length_pos_iff.mpr (hn r List.mem_cons_self)
      rw [List.flatten_cons, List.length_append, List.length_cons]
      omega
  have := key _ ne
  omega
theorem pairsI_le : ∀ l : List (List Int), (l.map consecI).flatten.length ≤ l.flatten.length
  | [] => Nat.le_refl _
  | r :: t => by
    have ih := pairsI_le t
    have := consecI_len r
    rw [List.map_cons, List.flatten_cons, List.flatten_cons, List.length_append, List.length_append]
    omega
theorem flat_take {α : Type} (l : List (List α)) (i : Nat) : (l.take i).flatten.length ≤ l.flatten.length := by
  have e : l.flatten = (l.take i).flatten ++ (l.drop i).flatten := by rw [← List.flatten_append, List.take_append_drop]
  rw [e, List.length_append]
  omega
section
variable {P : Program} {w : World} {K : PySem.W.Frag} {mg : Str → Option Value} {base : Heap}
theorem items_ints {H : Hp} : ∀ {xs : List V} {is : List Int}, Paired (ItemAt K H) xs (is.map some) → xs = is.map V.int
  | [], [], _ => rfl
  | _ :: _, [], h => by cases h
  | [], _ :: _, h => by cases h
  | x :: xs, i :: is, h => by
    cases h with
    | cons a b => rw [show x = V.int i from a, items_ints b]; rfl
theorem rows_refs {H : Hp} : ∀ {xs : List V} {rws : List (List Int)}, Paired (RwAt K H) xs (rws.map fun r => some (r.map some)) → ∃ rs : List Addr, xs = rs.map V.ref ∧ Paired (fun r (is : List Int) => H r = some (.lst (is.map V.int))) rs rws
  | [], [], _ => ⟨[], rfl, .nil⟩
  | _ :: _, [], h => by cases h
  | [], _ :: _, h => by cases h
  | x :: xs, r :: rws, h => by
    cases h with
    | cons a b =>
      obtain ⟨rs, e, p⟩ := rows_refs b
      obtain ⟨q, ys, e2, hq, pi⟩ := a
      rw [items_ints pi] at hq
      exact ⟨q :: rs, by rw [e2, e]; rfl, .cons hq p⟩
def spAreRowsX (K : PySem.W.Frag) : Sp := fun vs H Q _ => ∃ (a : Addr) (y : V) (ns : List Int) (th : Option (List (Option (List (Option Int))))), vs = [.ref a, y] ∧ H a = some (.lst (ns.map V.int)) ∧ ns.length ≤ 100 ∧ ThingAt K H y th ∧ ThSmall th ∧ ∀ (H' : Hp) (b : Bool), Same H H' → (b = true ↔ GoodR ns th) → Q (.bl b) H'
end
end HSP
namespace HSP
open PySem PySem.Spec PyProof.Rows L2
def SplitN (th : Option (List (Option (List (Option Int))))) (Ns : List Nat) : Prop := ∃ rws : List (List Int), th = asRows rws ∧ (∀ r, r ∈ rws → r ≠ []) ∧ rws.flatten.Perm (Ns.map Int.ofNat)
section
variable {P : Program} {w : World} {K : PySem.W.Frag} {mg : Str → Option Value} {base : Heap}
def spSplitN (K : PySem.W.Frag) : Sp := fun vs H Q _ => ∃ (y : V) (N : Addr) (th : Option (List (Option (List (Option Int))))) (Ns : List Nat), vs = [y, .ref N] ∧ ThingAt K H y th ∧ ThSmall th ∧ H N = some (.lst (Ns.map natV)) ∧ Ns.Pairwise (· < ·) ∧ ∀ (H' : Hp) (b : Bool), Same H H' → (b = true ↔ SplitN th Ns) → Q (.bl b) H'
theorem ok_splitN (B : Bl mg) (Wh : Df P w K mg base "is_whole" 1 ["thing"] (spWholeX K)) (a : At K mg "is_split" s_is_split) : Df P w K mg base "is_split" 2 ["thing", "nodes"] (spSplitN K) := by
  refine Df.mk' a sc_splitX (fun vs H Q E h => ?_) (fun _ _ _ _ _ _ us hl => match us, hl with | [_, _], _ => rfl) (fun f cdv A outer s H vs Q E hr h => ?_)
  · obtain ⟨_, _, _, _, rfl, _⟩ := h
    rfl
  obtain ⟨y, N, th, Ns, rfl, hth, sm, eN, upN, q⟩ := h
  have zero : 0 ≤ sizeLine := by show 0 ≤ sizeLine; decide
  have no : ∀ H', Same H H' → ¬ SplitN th Ns → Q (.bl false) H' := fun H' s h => q H' false s ⟨fun z => (by cases z), fun z => absurd z h⟩
  refine ⟨_, (pss_cons (ps_if (pt_not (pt_val (pe_callB call_isi (by rfl) B.isinstance (by decide +kernel) (pa_cons (pv 0) (pa_cons (pe_bltn (v := .ty "list") (by rfl) B.list (by decide +kernel) rfl) pa_nil))))) (pss_one (ps_ret pe_bl)) pss_nil)
 (pss_cons (ps_set (i := 2) sc_splitX.nd rfl (.inl rfl) (pe_lst pa_nil))
 (pss_cons (ps_for PassesOwn.never rfl (pi_list (pv 0)) (pg_name (i := 3) sc_splitX.nd rfl (.inl rfl)) (pss_cons (ps_if (PW.pt (pw_or (pt_not (pt_val (pe_callB call_isi (by rfl) B.isinstance (by decide +kernel) (pa_cons (pv 3) (pa_cons (pe_bltn (v := .ty "list") (by rfl) B.list (by decide +kernel) rfl) pa_nil))))) (pw_or1 (pt_cmpR op_eq (pe_callB call_len_seq (by rfl) B.len PySem.boot_len (pa_cons (pv 3) pa_nil)) pe_int (nomark _))))) (pss_one (ps_ret pe_bl)) pss_nil)
 (pss_one (ps_for PassesOwn.never rfl (pi_list (pv 3)) (pg_name (i := 4) sc_splitX.nd rfl (.inl rfl)) (pss_cons (ps_if (pt_not (pt_val (pe_df Wh hr (pa_cons (pv 4) pa_nil)))) (pss_one (ps_ret pe_bl)) pss_nil)
 (pss_one (ps_expr (pe_bm PySem.F.plainAttrs_list PySem.F.slot_list_append PySem.F.type_list_append mt_append (pv 2) (pa_cons (pv 4) pa_nil)))))))))
 (pss_one (ps_ret (pe_cmpR (op_eqD hr.units) (pe_callB cr_sortedI (by rfl) B.sorted (by decide +kernel) (pa_cons (pv 2) pa_nil)) (pv 1) (nomark _))))))), ?_⟩
  cases th with
  | none =>
    obtain ⟨t, ty, k⟩ := hth
    refine ⟨_, rfl, _, _, _, _, false, rfl, .ty "list", ty, k, false, rfl, iteT ?_⟩
    exact no H (Same.refl _) fun ⟨_, h, _⟩ => by cases h
  | some ks =>
  obtain ⟨R, ys, rfl, eR, pR⟩ := hth
  obtain ⟨sm1, sm2⟩ := sm
  have lr := Paired.length pR
  refine ⟨_, rfl, _, _, _, _, true, rfl, .ty "list", .base (.lst eR), rfl, true, rfl, iteF ?_⟩
  refine ⟨zero, fun D hD => ?_⟩
  have sD := Same.new (o := .lst []) hD
  refine ⟨_, rfl, R, rfl, ⟨_, .of (sD _ _ eR)⟩, for_list (xs := ys) (fun i σ H' => ∃ y3 y4 : Option V, σ = [some (.ref R), some (.ref N), some (.ref D), y3, y4] ∧ Same H H' ∧ ∃ rws : List (List Int), ks.take i = rws.map (fun r => some (r.map some)) ∧ (∀ r, r ∈ rws → r ≠ []) ∧ H' D = some (.lst (rws.flatten.map V.int))) ⟨none, none, rfl, sD, [], rfl, fun r h => (by cases h), upd_same⟩ (fun i σ H' _ h' => ?_) (fun i x σ H2 hx h2 => ?_) (fun σ H2 h2 => ?_)⟩
  · obtain ⟨_, _, _, s', _⟩ := h'
    exact .of (s' _ _ eR)
  · obtain ⟨y3, y4, rfl, s2, rws, ek, ne, e2⟩ := h2
    obtain ⟨k, hk, hkx⟩ := Paired.getL pR hx
    have hi := (List.getElem?_eq_some_iff.mp hk).1
    have len : rws.length = i := by
      have := congrArg List.length ek
      rw [List.length_take, List.length_map] at this
      omega
    have bound : ∀ r, r ∈ rws → r.length ≤ 200 := fun r hr2 => by
      have h1 : (some (r.map some) : Option (List (Option Int))) ∈ ks.take i := by rw [ek]; exact List.mem_map.mpr ⟨r, hr2, rfl⟩
      have h2 := sm2 _ (List.mem_of_mem_take h1)
      have h3 : rowLen (some (r.map some)) = r.length := List.length_map _
      omega
    have fl := flat_le 200 bound
    cases k with
    | none =>
      obtain ⟨t, ty, kk⟩ := hkx
      refine ⟨_, rfl, _, _, _, _, false, rfl, .ty "list", TyX.same s2 ty, kk, false, rfl, iteT ?_⟩
      refine no H2 s2 fun ⟨rw2, h, _⟩ => ?_
      have h := Option.some.inj h
      rw [h, List.getElem?_map] at hk
      obtain ⟨_, _, z⟩ := Option.map_eq_some_iff.mp hk
      cases z
    | some is =>
    obtain ⟨r, xs, rfl, er, pi⟩ := hkx
    have er2 := s2 _ _ er
    have lx := Paired.length pi
    have l200 : is.length ≤ 200 := sm2 _ (List.mem_of_getElem? hk)
    refine ⟨_, rfl, _, _, _, _, true, rfl, .ty "list", .base (.lst er2), rfl, true, rfl, iteF ?_⟩
    refine ⟨_, rfl, r, _, rfl, .inl (.of er2), rfl, _, rfl, ?_⟩
    by_cases z : is = []
    · rw [decide_eq_true (show V.int ((xs.length : Nat) : Int) = V.int 0 by rw [lx, z]; rfl)]
      refine iteT ?_
      refine no H2 s2 fun ⟨rw2, h, ne2, _⟩ => ?_
      have h := Option.some.inj h
      rw [h, List.getElem?_map] at hk
      obtain ⟨r2, h1, h2⟩ := Option.map_eq_some_iff.mp hk
      have h3 := Option.some.inj h2
      rw [z] at h3
      exact ne2 r2 (List.mem_of_getElem? h1) (List.map_eq_nil_iff.mp h3)
    have lpos : 0 < is.length := List.length_pos_iff.mpr z
    rw [decide_eq_false (fun z => by have := V.int.inj z; omega)]
    refine iteF ?_
    refine ⟨_, rfl, r, rfl, ⟨_, .of er2⟩, for_list (xs := xs) (fun j σ H' => ∃ y4 : Option V, σ = [some (.ref R), some (.ref N), some (.ref D), some (.ref r), y4] ∧ Same H H' ∧ ∃ js : List Int, is.take j = js.map some ∧ H' D = some (.lst ((rws.flatten ++ js).map V.int))) ⟨y4, rfl, s2, [], rfl, by rw [List.append_nil]; exact e2⟩ (fun j σ H' _ h' => ?_) (fun j x σ H3 hx3 h3 => ?_) (fun σ H3 h3 => ?_)⟩
    · obtain ⟨_, _, s', _⟩ := h'
      exact .of (s' _ _ er)
    · obtain ⟨y5, rfl, s3, js, ej, e3⟩ := h3
      obtain ⟨o, ho, hox⟩ := Paired.getL pi hx3
      have hj := (List.getElem?_eq_some_iff.mp ho).1
      have lj : js.length = j := by
        have := congrArg List.length ej
        rw [List.length_take, List.length_map] at this
        omega
      cases o with
      | none =>
        refine ⟨_, rfl, _, false, rfl, WholeV.same s3 hox, false, rfl, iteT ?_⟩
        refine no H3 s3 fun ⟨rw2, h, _⟩ => ?_
        have h := Option.some.inj h
        rw [h, List.getElem?_map] at hk
        obtain ⟨r2, _, h2⟩ := Option.map_eq_some_iff.mp hk
        rw [← Option.some.inj h2, List.getElem?_map] at ho
        obtain ⟨_, _, z⟩ := Option.map_eq_some_iff.mp ho
        cases z
      | some i2 =>
      cases (show x = V.int i2 from hox)
      refine ⟨_, rfl, _, true, rfl, whole_int, true, rfl, iteF ?_⟩
      refine ⟨_, rfl, .inl ⟨rfl, _, .of e3⟩, _, rfl, D, _, _, rfl, rfl, e3, ?_, ?_⟩
      · rw [List.length_map, List.length_append]
        show _ < 16777216
        omega
      refine ⟨_, rfl, fun b o eb => ?_, js ++ [i2], ?_, ?_⟩
      · rw [upd_ne (ne_of_none eb hD)]
        exact s3 _ _ eb
      · rw [List.take_add_one, ho, ej, List.map_append]
        rfl
      · rw [upd_same, ← List.append_assoc, List.map_append (l₂ := [i2])]
        rfl
    · obtain ⟨y5, rfl, s3, js, ej, e3⟩ := h3
      rw [lx, List.take_length] at ej
      refine ⟨_, _, rfl, s3, rws ++ [js], ?_, fun r2 hr2 => ?_, ?_⟩
      · rw [List.take_add_one, hk, ek, List.map_append, ej]
        rfl
      · rcases List.mem_append.mp hr2 with g | g
        · exact ne r2 g
        · rw [List.mem_singleton.mp g]
          intro z2
          rw [z2] at ej
          exact z ej
      · rw [List.flatten_append, show [js].flatten = js by simp]
        exact e3
  · obtain ⟨y3, y4, rfl, s2, rws, ek, ne, e2⟩ := h2
    rw [lr, List.take_length] at ek
    refine ⟨_, rfl, D, _, rfl, .of e2, fun ns' p perm srt np => ?_⟩
    have sp := Same.new (o := .lst (ns'.map V.int)) np
    have eN2 := sp _ _ (s2 _ _ eN)
    rw [nats_ints] at eN2
    refine ⟨_, rfl, intsD ns', intsD (Ns.map Int.ofNat), .lst (.of upd_same) (ints_dpAll _), .lst (.of eN2) (ints_dpAll _), ints_shaped _, ints_shaped _, ?_⟩
    rw [ints_eqv]
    refine q _ _ (s2.trans sp) ⟨fun h => ⟨rws, by rw [ek]; rfl, ne, ?_⟩, fun ⟨rw2, h, _, pm⟩ => ?_⟩
    · rw [← of_decide_eq_true h]
      exact perm.symm
    · have h := Option.some.inj h
      rw [ek] at h
      have e : rws = rw2 := by
        have key : ∀ (a b : List (List Int)), (a.map fun r => (some (r.map some) : Option (List (Option Int)))) = b.map (fun r => some (r.map some)) → a = b := fun a => by
          induction a with
          | nil => intro b hb; cases b with
            | nil => rfl
            | cons _ _ => cases hb
          | cons x r ih => intro b hb; cases b with
            | nil => cases hb
            | cons y t =>
              rw [List.map_cons, List.map_cons] at hb
              obtain ⟨h1, h2⟩ := List.cons.inj hb
              rw [some_inj (Option.some.inj h1), ih t h2]
        exact key _ _ h
      subst e
      exact decide_eq_true (sorted_same (perm.trans pm) srt (List.pairwise_map.mpr (upN.imp fun {a b} z => Int.ofNat_le.mpr (Nat.le_of_lt z))))
end
end HSP
set_option maxHeartbeats 1000000
namespace HSP
open PySem PySem.Spec PyProof.Rows L2
/-! ## are_chains of anything -/
def linkOk (row : Nat → List Nat) (p : Int × Int) : Bool := decide (p.2.toNat ∈ row p.1.toNat)
/-- a list of chains that hold each node once -/
def GoodC (row : Nat → List Nat) (N : List Nat) (th : Option (List (Option (List (Option Int))))) : Prop := ∃ rws : List (List Int), th = asRows rws ∧ (∀ r, r ∈ rws → r ≠ []) ∧ rws.flatten.Perm (N.map Int.ofNat) ∧ ∀ r, r ∈ rws → (consecI r).all (linkOk row) = true
theorem asRows_inj {a b : List (List Int)} (h : asRows a = asRows b) : a = b := by
  have h := Option.some.inj h
  have key : ∀ (a b : List (List Int)), (a.map fun r => (some (r.map some) : Option (List (Option Int)))) = b.map (fun r => some (r.map some)) → a = b := fun a => by
    induction a with
    | nil => intro b hb; cases b with
      | nil => rfl
      | cons _ _ => cases hb
    | cons x r ih => intro b hb; cases b with
      | nil => cases hb
      | cons y t =>
        rw [List.map_cons, List.map_cons] at hb
        obtain ⟨h1, h2⟩ := List.cons.inj hb
        rw [some_inj (Option.some.inj h1), ih t h2]
  exact key _ _ h
theorem flat_partN {rws : List (List Int)} {N : List Nat} (p : rws.flatten.Perm (N.map Int.ofNat)) {r : List Int} (hr : r ∈ rws) : r.length ≤ N.length ∧ ∀ i, i ∈ r → ∃ c : Nat, c ∈ N ∧ i = (c : Int) := by
  have l := p.length_eq
  rw [List.length_map] at l
  refine ⟨?_, fun i hi => ?_⟩
  · have key : ∀ (l : List (List Int)), r ∈ l → r.length ≤ l.flatten.length := fun l => by
      induction l with
      | nil => intro h; cases h
      | cons x t ih =>
        intro h
        rw [List.flatten_cons, List.length_append]
        rcases List.mem_cons.mp h with z | z
        · rw [z]; omega
        · have := ih z; omega
    have := key rws hr
    omega
  · have := p.mem_iff.mp (List.mem_flatten.mpr ⟨r, hr, hi⟩)
    obtain ⟨m, hm, rfl⟩ := List.mem_map.mp this
    exact ⟨m, hm, rfl⟩
def spAreC (K : PySem.W.Frag) : Sp := fun vs H Q _ => ∃ (v : V) (t : Tr) (a W : Addr) (ns : List Int) (ws : List Nat) (y : V) (N : List Nat) (D : Nat → Nat → Nat) (th : Option (List (Option (List (Option Int))))), vs = [v, .ref a, .ref W, y] ∧ TrAt H v t ∧ t.size ≤ 30 ∧ H a = some (.lst (ns.map V.int)) ∧ ns.length = t.size ∧ H W = some (.lst (ws.map natV)) ∧ ws.Nodup ∧ (∀ x, x ∈ ws → x < t.size) ∧
  NodesW t ws N ∧ AllL (EdW t ws) D ∧ ThingAt K H y th ∧ ThSmall th ∧ ∀ (H' : Hp) (b : Bool), Same H H' → (b = true ↔ GoodC (confOf D (valAt ns) t.size) N th) → Q (.bl b) H'
section
variable {P : Program} {w : World} {K : PySem.W.Frag} {mg : Str → Option Value} {base : Heap}
theorem sc_are_chains : FnScope n_are_chains ["tree", "values", "wished", "thing"] (defScope s_are_chains) := ⟨rfl, rfl, rfl, by decide +kernel, rfl, by decide +kernel, by decide +kernel⟩
theorem okB_areC (B : Bl mg) (Al : mg "all" = none) (Cs : Df P w K mg base "check_wishes" 4 ["tree", "values", "wished"] spChkWs) (Co : Df P w K mg base "conflicts" 6 ["tree", "values", "wished"] spConf) (Sp0 : Df P w K mg base "is_split" 2 ["thing", "nodes"] (spSplitN K)) (a : At K mg "are_chains" s_are_chains) : DfB P w K mg base "are_chains" 7 ["tree", "values", "wished", "thing"] ["thing", "wished", "values", "tree"] (spAreC K) := by
  refine DfB.mk' a sc_are_chains (fun vs H Q E h => ?_) (fun _ _ _ _ _ _ us hl => match us, hl with | [_, _, _, _], _ => rfl) (fun _ _ _ _ _ _ us hl => match us, hl with | [_, _, _, _], _ => rfl) (fun f cdv A outer s H vs Q E hr h => ?_)
  · obtain ⟨_, _, _, _, _, _, _, _, _, _, rfl, _⟩ := h
    rfl
  obtain ⟨v, t, av, W, ns, ws, y, N, D, th, rfl, ht, hz, ea, la, eW, nd, lt, hN, aD, hth, sm, q⟩ := h
  have lw : ws.length ≤ t.size := few_below t.size nd lt
  refine ⟨_, (pss_cons (ps_expr (pe_df Cs (hr.mono (by decide)) (pa_cons (pv 0) (pa_cons (pv 1) (pa_cons (pv 2) pa_nil)))))
 (pss_cons (ps_set (i := 4) sc_are_chains.nd rfl (.inr rfl) (pe_df Co hr (pa_cons (pv 0) (pa_cons (pv 1) (pa_cons (pv 2) pa_nil)))))
 (pss_cons (ps_if (pt_not (pt_val (pe_df Sp0 (hr.mono (by decide)) (pa_cons (pv 3) (pa_cons (pe_callB (call_sortedDI rfl) (by rfl) B.sorted (by decide +kernel) (pa_cons (pv 4) pa_nil)) pa_nil))))) (pss_one (ps_ret pe_bl)) pss_nil)
 (pss_one (ps_ret (pe_callB (cr_all rfl) (by rfl) Al (by decide +kernel) (pa_cons (pe_lc2 (own := [("chain", 5), ("one", 6), ("other", 7)]) (vs1 := [6, 7]) (g := (gName 5)) (g1 := (gTup K 2 (gCons (gName 6) (gCons (gName 7) gNil)))) (tt := tYes) (tt1 := tYes) (wi1 := (iZip K (tCons (tVar 5) (tCons (tSl (rSlL K) (tVar 5) (tPart (tC (V.int 1))) tNoPart) tNil)))) (by rfl) sc_are_chains.nd (pi_list (pv 3)) (blkOk_by (N := n_are_chains) (sc := defScope s_are_chains) (by decide +kernel)) (by decide) (fun _ _ _ _ _ => (pg_name (i := 5) sc_are_chains.nd rfl (.inl rfl))) (fun _ _ _ _ _ => pts_nil) (fun _ _ _ _ _ => by exact (pi_zip (by rfl) B.zip (pa_cons (pv 5) (pa_cons (pe_slice sl_list (pv 5) (po_some pe_int) po_none) pa_nil)))) (fun _ _ _ _ _ => (pg_tup rfl (pgs_cons (pg_name (i := 6) sc_are_chains.nd rfl (.inl rfl)) (pgs_cons (pg_name (i := 7) sc_are_chains.nd rfl (.inl rfl)) pgs_nil)))) (fun _ _ _ _ _ => pts_nil) (fun _ _ _ _ _ => (pe_cmpR (show OpR _ (compareOp .In) (rIn K false) from op_in_seq) (pv 7) (pe_dget (hu_of hr) (pv 4) (pv 6) (fun _ _ => rfl)) (by rfl)))) pa_nil))))))), ?_⟩
  refine ⟨_, rfl, _, rfl, _, rfl, v, t, av, W, ns, ws, rfl, ht, hz, ea, la, eW, nd, lt, fun H1 s1 => ?_⟩
  refine ⟨_, rfl, _, rfl, _, rfl, v, t, av, W, ns, ws, rfl, ht.same s1, hz, s1 _ _ ea, la, s1 _ _ eW, lw, lt, fun H2 R N2 D2 s2 nR hN2 aD2 rows => ?_⟩
  obtain rfl := hN2.uniq hN
  have eD : confOf D2 (valAt ns) t.size = confOf D (valAt ns) t.size := by
    funext a
    unfold confOf
    refine List.filter_congr fun b _ => ?_
    rw [(aD2 a).uniq (aD a) b]
  rw [eD] at rows
  obtain ⟨prs, eR, kR, rR⟩ := rows
  have s02 := s1.trans s2
  have n30 : N2.length ≤ 30 := Nat.le_trans (nodes_few hN lt) hz
  have lp : prs.length = N2.length := by
    have := congrArg List.length kR
    rw [List.length_map, List.length_reverse] at this
    exact this
  generalize confOf D (valAt ns) t.size = row at q rR
  refine ⟨_, rfl, _, rfl, R, kvN prs, prs.map (fun p => (p.1 : Int)), rfl, .inl eR, kvN_keys prs, ?_, fun ys S perm up2 hS => ?_⟩
  · rw [List.length_map]
    omega
  obtain rfl := sorted_rows (List.reverse_perm N2) hN.1 (by rw [← kR, List.map_map]; exact perm) up2
  have eS : (upd H2 S (.lst ((N2.map Int.ofNat).map V.int))) S = some (.lst (N2.map natV)) := by
    rw [upd_same, List.map_map]
    rfl
  have sS := Same.new (o := .lst ((N2.map Int.ofNat).map V.int)) hS
  have eR3 := sS _ _ eR
  have rR3 : ∀ p, p ∈ prs → (upd H2 S (.lst ((N2.map Int.ofNat).map V.int))) p.2 = some (.lst ((row p.1).map natV)) := fun p hp => sS _ _ (rR p hp)
  have s03 := s02.trans sS
  generalize upd H2 S (.lst ((N2.map Int.ofNat).map V.int)) = H3 at eS eR3 rR3 s03 ⊢
  refine ⟨y, S, th, N2, rfl, hth.same s03, sm, eS, hN.1, fun H4 b s4 ib => ?_⟩
  have s04 := s03.trans s4
  cases b with
  | false =>
    refine ⟨false, rfl, iteT ?_⟩
    refine q H4 false s04 ⟨fun z => (by cases z), fun ⟨rws, g1, g2, g3, _⟩ => ?_⟩
    exact absurd (ib.mpr ⟨rws, g1, g2, g3⟩) (by decide)
  | true =>
  obtain ⟨rws, et, ne, part⟩ := ib.mp rfl
  subst et
  have hth4 := hth.same s04
  obtain ⟨R2, ys2, rfl, eR4, pR⟩ := hth4
  obtain ⟨rs, rfl, pR2⟩ := rows_refs pR
  have lr := Paired.length pR2
  have fl := part.length_eq
  rw [List.length_map] at fl
  refine ⟨true, rfl, iteF ?_⟩
  have eRr := s4 _ _ eR3
  have rRr : ∀ p, p ∈ prs → H4 p.2 = some (.lst ((row p.1).map natV)) := fun p hp => s4 _ _ (rR3 p hp)
  refine ⟨_, rfl, R2, rfl, ⟨_, .of eR4⟩, fun L hL => ?_⟩
  have sL := Same.new (o := .lst []) hL
  have cnt : ∀ i, (((rws.take i).map consecI).flatten).length ≤ 30 := fun i => by
    have h1 := pairsI_le (rws.take i)
    have h2 := flat_take rws i
    omega
  refine lc2_it (walk_list (K := K) (a := R2) (xs := rs.map V.ref)) (fun i H' => Same H4 H' ∧ H' L = some (.lst ((((rws.take i).map consecI).flatten.map (linkOk row)).map V.bl))) ⟨sL, upd_same⟩ (fun i H' _ h' => .of (h'.1 _ _ eR4)) (fun i x H5 H6 hi h5 hy => ?_) (fun H5 h5 => ?_)
  · obtain ⟨s5, e5⟩ := h5
    obtain ⟨rfl, hx⟩ := hy
    rw [List.getElem?_map] at hx
    obtain ⟨r, hr2, rfl⟩ := Option.map_eq_some_iff.mp hx
    obtain ⟨rw1, hrow, er⟩ := Paired.getL pR2 hr2
    have er3 := s5 _ _ er
    have inn := (flat_partN part (List.mem_of_getElem? hrow)).2
    have et : ((rws.take (i + 1)).map consecI).flatten = ((rws.take i).map consecI).flatten ++ consecI rw1 := by
      rw [List.take_add_one, hrow, List.map_append, List.flatten_append]
      show _ ++ [consecI rw1].flatten = _
      simp
    have c1 := cnt (i + 1)
    rw [et, List.length_append] at c1
    refine ⟨rfl, ?_⟩
    refine yes_lcA ?_
    refine ⟨_, rfl, _, rfl, _, rfl, r, rw1.map V.int, rfl, .of er3, fun p5 hp5 => ?_⟩
    have s56 := Same.new (o := .lst (cutV (rw1.map V.int) (some 1) none)) hp5
    have e56 : (upd H6 p5 (.lst (cutV (rw1.map V.int) (some 1) none))) p5 = some (.lst ((rw1.drop 1).map V.int)) := by
      rw [upd_same, show (some (1 : Int)) = some ((1 : Nat) : Int) from rfl, cut_from, List.map_drop]
    have er5 := s56 _ _ er3
    have e35 := s56 _ _ e5
    have s47 := s5.trans s56
    generalize upd H6 p5 (.lst (cutV (rw1.map V.int) (some 1) none)) = H7 at e56 er5 e35 s47 ⊢
    refine ⟨r, p5, _, _, rfl, .of er5, .of e56, ?_⟩
    have many : (consecI rw1).length = min (rw1.map V.int).length ((rw1.drop 1).map V.int).length := by
      unfold consecI
      rw [List.length_zip, List.length_map, List.length_map]
    refine in_it (walk_zip (K := K) (a := r) (b := p5) (xs := rw1.map V.int) (ys := (rw1.drop 1).map V.int) many) (fun j H' => Same H4 H' ∧ H' r = some (.lst (rw1.map V.int)) ∧ H' p5 = some (.lst ((rw1.drop 1).map V.int)) ∧ H' L = some (.lst (((((rws.take i).map consecI).flatten ++ (consecI rw1).take j).map (linkOk row)).map V.bl)))
      ⟨s47, er5, e56, by rw [List.take_zero, List.append_nil]; exact e35⟩ (fun j H' _ h' => ⟨.of h'.2.1, .of h'.2.2.1⟩) (fun j x H8 H9 hj h8 hy => ?_) (fun H8 h8 => ?_)
    · obtain ⟨s8, er8, ep8, e8⟩ := h8
      obtain ⟨T, x1, x2, rfl, nT, rfl, g1, g2⟩ := hy
      have g1 : (rw1.map V.int)[j]? = some x1 := g1
      have g2 : ((rw1.drop 1).map V.int)[j]? = some x2 := g2
      rw [List.getElem?_map] at g1 g2
      obtain ⟨u1, h1, rfl⟩ := Option.map_eq_some_iff.mp g1
      obtain ⟨u2, h2, rfl⟩ := Option.map_eq_some_iff.mp g2
      obtain ⟨n1, in1, rfl⟩ := inn u1 (List.mem_of_getElem? h1)
      obtain ⟨n2, in2, rfl⟩ := inn u2 (List.mem_of_mem_drop (List.mem_of_getElem? h2))
      have hc : (consecI rw1)[j]? = some ((n1 : Int), (n2 : Int)) := by
        unfold consecI
        rw [List.getElem?_zip_eq_some]
        exact ⟨h1, h2⟩
      have sT := Same.new (o := .tup [V.int (n1 : Int), V.int (n2 : Int)]) nT
      have eT := sT _ _ e8
      have nrL : r ≠ L := ne_of_none er hL
      have npL : p5 ≠ L := fun z => by
        rw [z] at hp5
        rw [e5] at hp5
        cases hp5
      obtain ⟨ad, had, vad⟩ := kvN_get (prs := prs) (x := n1) (by rw [kR]; exact List.mem_reverse.mpr in1)
      have ead := rRr _ had
      have s49 := s8.trans sT
      refine ⟨T, _, rfl, .of upd_same, rfl, _, _, rfl, _, [], rfl, rfl, ?_⟩
      refine ⟨rfl, yes_lcA ?_⟩
      refine ⟨_, rfl, _, rfl, _, rfl, R, V.ref ad, rfl, .inl ⟨kvN prs, Sum.inl (n1 : Int), .inl (s49 _ _ eRr), rfl, vad.symm⟩, ?_⟩
      refine ⟨ad, _, rfl, .inl (.of (s49 _ _ ead)), rfl, flat_nats _, ?_⟩
      rw [show (if false = true then !inV (V.int (n2 : Int)) ((row n1).map natV) else inV (V.int (n2 : Int)) ((row n1).map natV)) = linkOk row ((n1 : Int), (n2 : Int)) from inV_nat n2 _]
      have lj : ((consecI rw1).take j).length ≤ (consecI rw1).length := by rw [List.length_take]; omega
      refine ⟨_, eT, ?_, fun b o eb => ?_, ?_, ?_, ?_⟩
      · rw [List.length_map, List.length_map, List.length_append]
        exact small1000 (by omega)
      · rw [upd_ne (ne_of_none eb hL)]
        exact s49 _ _ eb
      · rw [upd_ne nrL]
        exact sT _ _ er8
      · rw [upd_ne npL]
        exact sT _ _ ep8
      · rw [upd_same, List.take_add_one, hc, ← List.append_assoc]
        show _ = some (HO.lst ((((((rws.take i).map consecI).flatten ++ (consecI rw1).take j) ++ [((n1 : Int), (n2 : Int))]).map (linkOk row)).map V.bl))
        simp only [List.map_append, List.map_cons, List.map_nil]
    · obtain ⟨s8, _, _, e8⟩ := h8
      rw [List.take_length, ← et] at e8
      exact ⟨s8, e8⟩
  obtain ⟨s5, e5⟩ := h5
  rw [List.length_map, lr, List.take_length] at e5
  refine ⟨L, _, rfl, .of e5, ?_⟩
  refine q H5 _ (s04.trans s5) ⟨fun h => ⟨rws, rfl, ne, part, fun r hr2 => List.all_eq_true.mpr fun p hp => ?_⟩, fun ⟨rw2, h1, _, _, h4⟩ => ?_⟩
  · exact List.all_eq_true.mp h _ (List.mem_map.mpr ⟨p, List.mem_flatten.mpr ⟨_, List.mem_map.mpr ⟨r, hr2, rfl⟩, hp⟩, rfl⟩)
  · rw [← asRows_inj h1] at h4
    refine List.all_eq_true.mpr fun b hb => ?_
    obtain ⟨p, hp, rfl⟩ := List.mem_map.mp hb
    obtain ⟨c, hc, hx2⟩ := List.mem_flatten.mp hp
    obtain ⟨row1, hrow, rfl⟩ := List.mem_map.mp hc
    exact List.all_eq_true.mp (h4 row1 hrow) p hx2
end
end HSP
namespace HSP
open PySem PySem.Spec PyProof.Rows L2
/-! ## what the laws' right sides share -/
theorem Mid.of {ns : List Int} (h : Near ns) : Mid ns := fun v hv => by
  have := h v hv
  omega
def spRight : Sp := fun vs H Q _ => ∃ (p : Addr) (k : Nat), vs = [.ref p] ∧ DrAt H p k ∧ k ≤ 1000 ∧ ∀ H' : Hp, Keep p H H' → DrAt H' p (k + 200) → Q (.bl true) H'
end HSP
namespace HSP
open PySem PySem.Spec PyProof.Rows L2
section
variable {P : Program} {w : World} {K : PySem.W.Frag} {mg : Str → Option Value} {base : Heap}
theorem sc_found : FnScope n_found ["tree", "values"] (defScope s_found) := ⟨rfl, rfl, rfl, by decide +kernel, rfl, by decide +kernel, by decide +kernel⟩
theorem okB_found (C : Df P w K mg base "check_values" 3 ["tree", "values"] spChkV) (L : Df P w K mg base "found_of" 5 ["tree", "values"] spFound) (a : At K mg "found" s_found) : DfB P w K mg base "found" 6 ["tree", "values"] ["values", "tree"] spFound := by
  refine DfB.mk' a sc_found (fun vs H Q E h => ?_) (fun _ _ _ _ _ _ us hl => match us, hl with | [_, _], _ => rfl) (fun _ _ _ _ _ _ us hl => match us, hl with | [_, _], _ => rfl) (fun f cdv A outer s H vs Q E hr h => ?_)
  · obtain ⟨v, t, a, ns, rfl, _⟩ := h
    rfl
  obtain ⟨v, t, a, ns, rfl, ht, hz, ha, hn, q⟩ := h
  refine ⟨_, (pss_cons (ps_expr (pe_df C (hr.mono (by decide)) (pa_cons (pv 0) (pa_cons (pv 1) pa_nil))))
 (pss_one (ps_ret (pe_df L hr (pa_cons (pv 0) (pa_cons (pv 1) pa_nil)))))), ?_⟩
  refine ⟨v, rfl, _, rfl, v, t, a, ns, rfl, ht, by omega, ha, hn, fun H1 s1 => ?_⟩
  exact ⟨v, rfl, _, rfl, v, t, a, ns, rfl, ht.same s1, hz, s1 _ _ ha, hn, fun H2 q0 s2 n2 e2 => q H2 q0 (s1.trans s2) (s1.free n2) e2⟩
end
end HSP
namespace HSP
open PySem PySem.Spec PyProof.Rows L2
theorem chains_thing {K : PySem.W.Frag} {H : Hp} {C : Addr} {as : List Addr} {css : List (List Nat)} (e : H C = some (.lst (as.map V.ref))) (p : Paired (fun a (c : List Nat) => H a = some (.lst (c.map natV))) as css) : ThingAt K H (.ref C) (asRows (css.map fun c => c.map Int.ofNat)) := by
  refine ⟨C, as.map V.ref, rfl, e, ?_⟩
  have items : ∀ c : List Nat, Paired (ItemAt K H) (c.map natV) ((c.map Int.ofNat).map some) := fun c => by
    induction c with
    | nil => exact .nil
    | cons x r ih => exact .cons rfl ih
  clear e
  induction p with
  | nil => exact .nil
  | cons h _ ih => exact .cons ⟨_, _, rfl, h, items _⟩ ih
theorem ints_rows {H : Hp} {as : List Addr} {css : List (List Nat)} (p : Paired (fun a (c : List Nat) => H a = some (.lst (c.map natV))) as css) : Paired (fun a (r : List Int) => H a = some (.lst (r.map V.int))) as (css.map fun c => c.map Int.ofNat) := by
  induction p with
  | nil => exact .nil
  | cons h _ ih => exact .cons (h.trans (by rw [nats_ints])) ih
theorem chains_small {css : List (List Nat)} (l : css.length ≤ 20) (h : ∀ c, c ∈ css → c.length ≤ 20) : ThSmall (asRows (css.map fun c => c.map Int.ofNat)) := by
  refine ⟨by rw [List.length_map, List.length_map]; omega, fun k hk => ?_⟩
  obtain ⟨r, hr, rfl⟩ := List.mem_map.mp hk
  obtain ⟨c, hc, rfl⟩ := List.mem_map.mp hr
  show ((c.map Int.ofNat).map some).length ≤ 200
  rw [List.length_map, List.length_map]
  have := h c hc
  omega
theorem good_chains {row : Nat → List Nat} {M : Bef} {N : List Nat} {css : List (List Nat)} (bF : BefF row M N) (up : N.Pairwise (· < ·)) (ch : ChOf M N css) : GoodC row N (asRows (css.map fun c => c.map Int.ofNat)) := by
  refine ⟨_, rfl, fun r hr => ?_, ?_, fun r hr => ?_⟩
  · obtain ⟨c, hc, rfl⟩ := List.mem_map.mp hr
    intro z
    have h1 : c.head? ∈ css.map List.head? := List.mem_map.mpr ⟨c, hc, rfl⟩
    rw [ch.1, List.map_eq_nil_iff.mp z] at h1
    obtain ⟨x, _, e⟩ := List.mem_map.mp h1
    cases e
  · rw [← List.map_flatten]
    exact (ch.perm bF up).map _
  · obtain ⟨c, hc, rfl⟩ := List.mem_map.mp hr
    refine List.all_eq_true.mpr fun q hq => ?_
    obtain ⟨i, hi⟩ := List.mem_iff_getElem?.mp hq
    unfold consecI at hi
    rw [List.getElem?_zip_eq_some] at hi
    obtain ⟨h1, h2⟩ := hi
    rw [List.getElem?_drop, List.getElem?_map] at h2
    rw [List.getElem?_map] at h1
    obtain ⟨a, ha, e1⟩ := Option.map_eq_some_iff.mp h1
    obtain ⟨b, hb, e2⟩ := Option.map_eq_some_iff.mp h2
    have := bF.edge b a ((ch.2 c hc).1 i a b ha (by rw [Nat.add_comm]; exact hb))
    unfold linkOk
    rw [← e1, ← e2]
    exact decide_eq_true this
section
variable {P : Program} {w : World} {K : PySem.W.Frag} {mg : Str → Option Value} {base : Heap}
theorem sc_law_right : FnScope n_law_right ["draws"] (defScope s_law_right) := ⟨rfl, rfl, rfl, by decide +kernel, rfl, by decide +kernel, by decide +kernel⟩
set_option maxHeartbeats 2000000 in
theorem ok_right (B : Bl mg) (N0 : Df P w K mg base "_law_next" 1 ["draws"] spNext) (T : Df P w K mg base "_law_tree" 22 ["draws", "room"] (spDraw 21)) (Z : Df P w K mg base "_law_size" 21 n_law_size (spSize 21)) (Va : Df P w K mg base "_law_values" 2 ["draws", "many"] spValues)
    (So : Df P w K mg base "_law_some" 2 ["draws", "many"] spSome) (No : Df P w K mg base "_law_nodes_of" 23 p_law_nodes_of (spNodes 21)) (Lo : Df P w K mg base "_law_longest" 1 ["values"] spLongest) (Fo : DfB P w K mg base "found" 6 ["tree", "values"] ["values", "tree"] spFound) (Ck : DfB P w K mg base "can_keep" 7 ["tree", "values", "wished", "kept"] ["kept", "wished", "values", "tree"] (spCanKeep K))
    (Re : DfB P w K mg base "repair" 33 ["tree", "values", "wished"] ["wished", "values", "tree"] spRepair) (Rd : DfB P w K mg base "repaired" 34 ["tree", "values", "wished"] ["wished", "values", "tree"] spRepaired) (Ar : DfB P w K mg base "are_chains" 7 ["tree", "values", "wished", "thing"] ["thing", "wished", "values", "tree"] (spAreC K)) (a : At K mg "_law_right" s_law_right) : DfG P w K mg base "_law_right" 35 ["draws"] spRight := by
  refine DfG.mk' a sc_law_right (fun vs H Q E h => ?_) (fun _ _ _ _ _ _ us hl => match us, hl with | [_], _ => rfl) (fun f cdv A outer s H vs Q E hg hr h => ?_)
  · obtain ⟨p, k, rfl, _⟩ := h
    rfl
  obtain ⟨p, k, rfl, hd, hk, q⟩ := h
  have zero : 0 ≤ sizeLine := by show 0 ≤ sizeLine; decide
  refine ⟨_, PSs.nox (pss_cons (ps_set (i := 1) sc_law_right.nd rfl (.inr rfl) (pe_df T (hr.mono (by decide)) (pa_cons (pv 0) (pa_cons (pe_op op_mod (pe_callTy call_int1 (by rfl) B.int (by decide +kernel) (pa_cons (pe_df N0 (hr.mono (by decide)) (pa_cons (pv 0) pa_nil)) pa_nil)) pe_int) pa_nil))))
 (pss_cons (ps_set (i := 2) sc_law_right.nd rfl (.inl rfl) (pe_df Z (hr.mono (by decide)) (pa_cons (pv 1) pa_nil)))
 (pss_cons (ps_set (i := 3) sc_law_right.nd rfl (.inr rfl) (pe_df Va (hr.mono (by decide)) (pa_cons (pv 0) (pa_cons (pv 2) pa_nil))))
 (C8.pss_cut (ps_if (pt_cmpR op_eq (pe_op op_mod (pe_callTy call_int1 (by rfl) B.int (by decide +kernel) (pa_cons (pe_df N0 (hr.mono (by decide)) (pa_cons (pv 0) pa_nil)) pa_nil)) pe_int) pe_int (nomark _)) (pss_one (ps_set (i := 3) sc_law_right.nd rfl (.inr rfl) (pe_lc (own := [("value", 10)]) (g := (gName 10)) (tt := tYes) (by rfl) sc_law_right.nd (pi_list (pv 3)) (blkOk_by (N := n_law_right) (sc := defScope s_law_right) (by decide +kernel)) (fun _ _ _ _ _ => (pg_name (i := 10) sc_law_right.nd rfl (.inl rfl))) (fun _ _ _ _ _ => pts_nil) (fun _ _ _ _ _ => (pe_op op_sub (pe_op op_mul (pv 10) (pe_op op_pow pe_int pe_int)) (pe_op op_pow pe_int pe_int)))))) pss_nil)
 (C8.pss_cut (ps_set (i := 4) sc_law_right.nd rfl (.inl rfl) (pe_ifExp (pt_cmpR op_eq (pe_op op_mod (pe_callTy call_int1 (by rfl) B.int (by decide +kernel) (pa_cons (pe_df N0 (hr.mono (by decide)) (pa_cons (pv 0) pa_nil)) pa_nil)) pe_int) pe_int (nomark _)) (pe_df So (hr.mono (by decide)) (pa_cons (pv 0) (pa_cons (pv 2) pa_nil))) (pe_listRg rfl (by rfl) B.list (prg_1 (by rfl) B.range (pv 2)))))
 (pss_cons (ps_asg (pe_df Re.df (hr.mono (by decide)) (pa_cons (pv 1) (pa_cons (pv 3) (pa_cons (pv 4) pa_nil)))) (pg_tup rfl (pgs_cons (pg_name (i := 5) sc_law_right.nd rfl (.inl rfl)) (pgs_cons (pg_name (i := 6) sc_law_right.nd rfl (.inl rfl)) pgs_nil))))
 (C8.pss_cut (ps_if (PW.pt (pw_or (pt_cmpR op_ne (pe_callB call_len_seq (by rfl) B.len PySem.boot_len (pa_cons (pv 5) pa_nil)) (pe_callB call_len_seq (by rfl) B.len PySem.boot_len (pa_cons (pv 6) pa_nil)) (nomark _)) (pw_or1 (pt_not (pt_val (pe_df Ck.df (hr.mono (by decide)) (pa_cons (pv 1) (pa_cons (pv 3) (pa_cons (pv 4) (pa_cons (pv 5) pa_nil)))))))))) (pss_one (ps_ret pe_bl)) pss_nil)
 (C8.pss_cut (ps_if (PW.pt (pw_or (pt_not (pt_val (pe_df Ar.df (hr.mono (by decide)) (pa_cons (pv 1) (pa_cons (pv 3) (pa_cons (pv 4) (pa_cons (pv 6) pa_nil))))))) (pw_or1 (pt_cmpR (op_neD hr.units) (pe_callB cr_sortedI (by rfl) B.sorted (by decide +kernel) (pa_cons (pe_callB (cr_sumL rfl) (by rfl) B.sum (by decide +kernel) (pa_cons (pv 6) (pa_cons (pe_lst pa_nil) pa_nil))) pa_nil)) (pe_df No (hr.mono (by decide)) (pa_cons (pv 1) (pa_cons (pv 4) pa_nil))) (nomark _))))) (pss_one (ps_ret pe_bl)) pss_nil)
 (pss_cons (ps_set (i := 7) sc_law_right.nd rfl (.inr rfl) (pe_df Rd.df hr (pa_cons (pv 1) (pa_cons (pv 3) (pa_cons (pv 4) pa_nil)))))
 (C8.pss_cut (ps_setLc (i := 8) (own := [("node", 9)]) (g := (gName 9)) (by rfl) sc_law_right.nd rfl rfl (sw_true rfl rfl rfl (by decide +kernel)) (pi_range1 (by rfl) B.range (pa_cons (pv 2) pa_nil)) (blkOk_by (N := n_law_right) (sc := defScope s_law_right) (by decide +kernel)) (fun _ _ _ _ _ => (pg_name (i := 9) sc_law_right.nd rfl (.inl rfl))) (fun _ _ _ _ _ => (pts_one (pt_cmpR op_ne (pe_ix (show IxR _ (rIxL K) from ix_list) (pv 7) (pv 9) (fun _ _ => rfl)) (pe_ix (show IxR _ (rIxL K) from ix_list) (pv 3) (pv 9) (fun _ _ => rfl)) (nomark _)))) (fun _ _ _ _ _ => (pv 9)))
 (C8.pss_cut (ps_if (pt_cmpR op_ne (pe_callB call_len_seq (by rfl) B.len PySem.boot_len (pa_cons (pv 8) pa_nil)) (pe_op op_sub (pe_callB call_len_seq (by rfl) B.len PySem.boot_len (pa_cons (pe_df No (hr.mono (by decide)) (pa_cons (pv 1) (pa_cons (pv 4) pa_nil))) pa_nil)) (pe_callB call_len_seq (by rfl) B.len PySem.boot_len (pa_cons (pv 5) pa_nil))) (nomark _)) (pss_one (ps_ret pe_bl)) pss_nil)
 (C8.pss_cut (ps_if (pt_cmpR (op_neN (Nat.lt_of_succ_lt (hu_of hr))) (pe_lc (own := [("node", 9)]) (g := (gName 9)) (by rfl) sc_law_right.nd (pi_list (pv 4)) (blkOk_by (N := n_law_right) (sc := defScope s_law_right) (by decide +kernel)) (fun _ _ _ _ _ => (pg_name (i := 9) sc_law_right.nd rfl (.inl rfl))) (fun _ _ _ _ _ => (pts_one (pt_cmpR (show OpR _ (compareOp .NotIn) (rIn K true) from op_notIn_seq) (pv 9) (pe_df Fo.df (hr.mono (by decide)) (pa_cons (pv 1) (pa_cons (pv 7) pa_nil))) (by rfl)))) (fun _ _ _ _ _ => (pv 9))) (pe_lst pa_nil) (nomark _)) (pss_one (ps_ret pe_bl)) pss_nil)
 (pss_one (ps_ret (pe_or (pe_cmpR op_lt (pe_callB call_len_seq (by rfl) B.len PySem.boot_len (pa_cons (pv 4) pa_nil)) (pv 2) (nomark _)) (pe_one (pe_cmpR op_eq (pe_callB call_len_seq (by rfl) B.len PySem.boot_len (pa_cons (pv 5) pa_nil)) (pe_df Lo (hr.mono (by decide)) (pa_cons (pv 3) pa_nil)) (nomark _)))))))))))))))))), ?_⟩
  refine ⟨_, rfl, _, rfl, p, k, rfl, hd, by omega, fun H1 r1 kp1 d1 a1 a2 => .inl ⟨_, rfl, _, _, rfl, rfl, (by show (0 : Int) < 21; decide), ?_⟩⟩
  have m1 := Int.emod_nonneg r1 (show (21 : Int) ≠ 0 by decide)
  have m2 := Int.emod_lt_of_pos r1 (show (0 : Int) < 21 by decide)
  refine ⟨p, (r1 % 21).toNat, k + 1, congrArg (fun z => [V.ref p, V.int z]) (by omega : r1 % 21 = (((r1 % 21).toNat : Nat) : Int)), by omega, d1, by omega, fun H2 v t kp2 d2 ht2 hs => ?_⟩
  have hht : t.ht < 21 := Nat.lt_of_le_of_lt t.ht_le (by omega)
  have d2' := d2.mono (show _ ≤ k + 45 by omega)
  have kpA := kp1.trans kp2
  have sz : t.size ≤ 20 := by omega
  refine ⟨v, rfl, v, t, rfl, ht2, hht, ?_⟩
  refine ⟨_, rfl, _, rfl, p, t.size, k + 45, rfl, by omega, d2', by omega, fun H3 A0 ns0 kp3 d3 nA eA lA0 near => ?_⟩
  have ht3 := d2'.tree kp3 ht2
  have kp4 := kpA.trans kp3
  have d3' := d3.mono (show _ ≤ k + 80 by omega)
  clear kp1 kp2 kp3 kpA d1 d2 d2' d3 ht2 near nA
  refine ⟨fun σ H' => ∃ (A : Addr) (ns : List Int), σ = [some (.ref p), some v, some (natV t.size), some (.ref A), none, none, none, none, none, none, none] ∧ Keep p H H' ∧ DrAt H' p (k + 81) ∧ TrAt H' v t ∧ H' A = some (.lst (ns.map V.int)) ∧ ns.length = t.size, ?_, fun σ H4 hX => ?_⟩
  · refine ⟨_, rfl, p, k + 80, rfl, d3', by omega, fun H4 r2 kp4' d4 b1 b2 => .inl ⟨_, rfl, _, _, rfl, rfl, (by show (0 : Int) < 4; decide), rfl, _, rfl, ?_⟩⟩
    have ht4 := d3'.tree kp4' ht3
    have eA4 := kp4' A0 _ (d3'.neOf eA) eA
    refine ite2 (fun _ => ?_) (fun _ => ⟨A0, ns0, rfl, kp4.trans kp4', d4, ht4, eA4, lA0⟩)
    refine ⟨_, rfl, A0, rfl, ⟨_, .of eA4⟩, fun C hC => ?_⟩
    refine lc_it (walk_list (K := K) (a := A0) (xs := ns0.map V.int)) (fun i H' => Same H4 H' ∧ H' C = some (.lst (((ns0.take i).map fun x => x * (10 : Int) ^ (13 : Int).toNat - (10 : Int) ^ (15 : Int).toNat).map V.int))) ⟨Same.new hC, upd_same⟩ (fun i H' _ h' => .of (h'.1 _ _ eA4)) (fun i x G1 G2 hi h5 hy => ?_) (fun G1 h5 => ?_)
    · obtain ⟨s5, e5⟩ := h5
      obtain ⟨rfl, hx⟩ := hy
      rw [List.getElem?_map] at hx
      obtain ⟨c, hc, rfl⟩ := Option.map_eq_some_iff.mp hx
      refine ⟨rfl, yes_lcA ?_⟩
      refine ⟨_, rfl, _, _, rfl, rfl, ⟨by decide, by decide, by decide⟩, _, _, rfl, rfl, .inr ⟨by decide +kernel, by decide +kernel⟩, _, _, rfl, rfl, ⟨by decide, by decide, by decide⟩, _, _, rfl, rfl, _, e5, ?_, fun b o eb => ?_, ?_⟩
      · rw [List.length_map, List.length_map, List.length_take]
        exact small1000 (by omega)
      · rw [upd_ne (ne_of_none eb hC)]
        exact s5 _ _ eb
      · rw [upd_same, List.take_add_one, hc, List.map_append, List.map_append]
        rfl
    · obtain ⟨s5, e5⟩ := h5
      rw [List.length_map, List.take_length] at e5
      exact ⟨C, _, rfl, (kp4.trans kp4').trans (.of s5), d4.same s5, ht4.same s5, e5, by rw [List.length_map]; exact lA0⟩
  obtain ⟨A, ns, rfl, kp, dr, ht, eA4, lA⟩ := hX
  clear eA lA0 kp4 d3' ht3
  refine ⟨fun σ H' => ∃ (W : Addr) (ws : List Nat), σ = [some (.ref p), some v, some (natV t.size), some (.ref A), some (.ref W), none, none, none, none, none, none] ∧ Keep p H H' ∧ DrAt H' p (k + 110) ∧ TrAt H' v t ∧ H' A = some (.lst (ns.map V.int)) ∧ H' W = some (.lst (ws.map natV)) ∧ ws.Nodup ∧ (∀ x, x ∈ ws → x < t.size), ?_, fun σ H5 hX => ?_⟩
  · refine ⟨_, rfl, p, k + 81, rfl, dr, by omega, fun H5 r2 kp5 d5 b1 b2 => .inl ⟨_, rfl, _, _, rfl, rfl, (by show (0 : Int) < 2; decide), rfl, _, rfl, ?_⟩⟩
    have ht5 := dr.tree kp5 ht
    have eA5 := kp5 A _ (dr.neOf eA4) eA4
    refine ite2 (fun _ => ?_) (fun _ => ?_)
    · refine ⟨_, rfl, _, rfl, p, t.size, k + 82, rfl, by omega, d5, by omega, fun H6 W ws kp6 d6 nW eW up lt => ?_⟩
      exact ⟨W, ws, rfl, (kp.trans kp5).trans kp6, d6.mono (by omega), d5.tree kp6 ht5, kp6 _ _ (d5.neOf eA5) eA5, eW, up.imp fun {a b} z => Nat.ne_of_lt z, lt⟩
    · refine ⟨_, rfl, _, rfl, RgOk.of_le (by omega) (by omega) (by omega) (by omega), fun W hW => ?_⟩
      have e0 : rgV 0 ((t.size : Nat) : Int) = (List.range t.size).map natV := by
        unfold rgV
        rw [show (((t.size : Nat) : Int) - 0).toNat = t.size by omega]
        exact List.map_congr_left fun i _ => congrArg V.int (by omega)
      rw [e0]
      have sW := Same.new (o := .lst ((List.range t.size).map natV)) hW
      exact ⟨W, List.range t.size, rfl, (kp.trans kp5).trans (.of sW), (d5.same sW).mono (by omega), ht5.same sW, sW _ _ eA5, upd_same, List.nodup_range, fun x hx => List.mem_range.mp hx⟩
  clear eA4 kp dr ht
  obtain ⟨W, ws, rfl, kp, dr, ht, eA, eW, nd, lt⟩ := hX
  refine ⟨_, rfl, _, rfl, _, rfl, v, t, A, W, ns, ws, rfl, ht, by omega, eA, lA, eW, nd, lt, fun H6 Tp Kp C as css ks N D M s6 hN aD bF eT eK kF eC pC ch nda fresh nKC fK fC fT => ?_⟩
  refine ⟨Tp, _, rfl, .of eT, rfl, _, _, rfl, _, [], rfl, rfl, ?_⟩
  obtain ⟨upK, inK, freeK, _⟩ := kF.all bF hN.1 ch
  have mk := most_kept aD hN bF kF ch
  have ndK : ks.Nodup := upK.imp fun {a b} z => Nat.ne_of_lt z
  have ltN : ∀ x, x ∈ N → x < t.size := fun x hx => (List.mem_append.mp ((hN.2 x).mp hx)).elim (lt x) anc_in
  have N20 : N.length ≤ 20 := Nat.le_trans (nodes_few hN lt) sz
  have lK : ks.length ≤ 20 := by
    have := nodup_sub ndK inK
    omega
  have lC := Paired.length pC
  have kpA := kp.trans (.of s6)
  have drA := dr.same s6
  have htA := ht.same s6
  have eAA := s6 _ _ eA
  have eWA := s6 _ _ eW
  clear kp dr ht eA eW s6 eT nda fresh nKC fK fC fT
  have freeT : freeOf D (valAt ns) t.size ks = true := (freeOf_iff fun x hx => ltN x (inK x hx)).mpr fun a ha b hb ⟨d, l⟩ => freeK a ha b hb (confOf_mem.mpr ⟨ltN b (inK b hb), d, l⟩)
  refine ⟨fun σ H' => σ = [some (.ref p), some v, some (natV t.size), some (.ref A), some (.ref W), some (.ref Kp), some (.ref C), none, none, none, none] ∧ Same H6 H', ?_, fun σ H7 hX => ?_⟩
  · refine ⟨_, rfl, Kp, _, rfl, .inl (.of eK), _, rfl, C, _, rfl, .inl (.of eC), rfl, _, rfl, ?_⟩
    rw [List.length_map, List.length_map, lC, ← mk.1, decide_eq_true (show V.int ((ks.length : Nat) : Int) = V.int ((ks.length : Nat) : Int) from rfl)]
    refine iteF ?_
    refine ⟨_, rfl, _, rfl, _, rfl, _, rfl, v, t, A, W, ns, ws, .ref Kp, N, D, true, rfl, htA, by omega, eAA, lA, eWA, nd, lt, hN, aD, .inr ⟨Kp, ks, rfl, by omega, ndK, inK, .inl ⟨eK, freeT.symm⟩⟩, fun H7 s7 => ⟨true, rfl, iteF ⟨rfl, s7⟩⟩⟩
  obtain ⟨rfl, s7⟩ := hX
  have ht7 := htA.same s7
  have eA7 := s7 _ _ eAA
  have eW7 := s7 _ _ eWA
  have eC7 := s7 _ _ eC
  have pC7 := Paired.mapP pC fun _ _ h => s7 _ _ h
  have l20 : css.length ≤ 20 := by rw [← mk.1]; exact lK
  refine ⟨fun σ H' => σ = [some (.ref p), some v, some (natV t.size), some (.ref A), some (.ref W), some (.ref Kp), some (.ref C), none, none, none, none] ∧ Same H7 H', ?_, fun σ H8 hX => ?_⟩
  · refine ⟨_, rfl, _, rfl, _, rfl, _, rfl, v, t, A, W, ns, ws, .ref C, N, D, asRows (css.map fun c => c.map Int.ofNat), rfl, ht7, by omega, eA7, lA, eW7, nd, lt, hN, aD, chains_thing eC7 pC7, chains_small l20 fun c hc => by have := (ch.2 c hc).2.2.2; omega, fun H8 b s8 ib => ?_⟩
    rw [ib.mpr (good_chains bF hN.1 ch)]
    refine ⟨true, rfl, iteF ?_⟩
    refine ⟨_, rfl, zero, fun Y hY => ?_⟩
    have sY := Same.new (o := .lst []) hY
    have s8Y := s8.trans sY
    have pI := ints_rows (Paired.mapP pC7 fun a c h => s8Y _ _ h)
    have flen : (css.map fun c => c.map Int.ofNat).flatten.length ≤ 100 := by
      have := ((ch.perm bF hN.1).map Int.ofNat).length_eq
      rw [← List.map_flatten, this, List.length_map]
      omega
    refine ⟨C, Y, as, _, [], rfl, s8Y _ _ eC7, upd_same, pI, ?_, fun H9 p3 s9 e3 => ?_⟩
    · show 0 + _ ≤ 16777216
      omega
    rw [List.nil_append] at e3
    refine ⟨p3, _, rfl, .of e3, fun ns' p4 perm srt n4 => ?_⟩
    have s4 := Same.new (o := .lst (ns'.map V.int)) n4
    have e4 : (upd H9 p4 (.lst (ns'.map V.int))) p4 = some (.lst (ns'.map V.int)) := upd_same
    have s78 := s8Y.trans (s9.trans s4)
    have en : ns' = N.map Int.ofNat := by
      refine sorted_same (perm.trans ?_) srt (List.pairwise_map.mpr (hN.1.imp fun {a b} z => Int.ofNat_le.mpr (Nat.le_of_lt z)))
      rw [← List.map_flatten]
      exact (ch.perm bF hN.1).map _
    generalize upd H9 p4 (.lst (ns'.map V.int)) = H10 at e4 s78 ⊢
    refine ⟨_, rfl, _, rfl, v, t, W, ws, rfl, ht7.same s78, hht, by omega, s78 _ _ eW7, nd, lt, fun H11 Nl N2 s11 nN eN hN2 => ?_⟩
    obtain rfl := hN2.uniq hN
    rw [nats_ints] at eN
    refine ⟨intsD ns', intsD (N2.map Int.ofNat), .lst (.of (s11 _ _ e4)) (ints_dpAll _), .lst (.of eN) (ints_dpAll _), ints_shaped _, ints_shaped _, _, rfl, ?_⟩
    rw [en, SeqAt.eqv_refl _ (ints_can0 _)]
    exact iteF ⟨rfl, s78.trans s11⟩
  obtain ⟨rfl, s8⟩ := hX
  have s68 := s7.trans s8
  have ht8 := htA.same s68
  have eA8 := s68 _ _ eAA
  have eW8 := s68 _ _ eWA
  have eK8 := s68 _ _ eK
  refine ⟨_, rfl, _, rfl, _, rfl, v, t, A, W, ns, ws, rfl, ht8, by omega, eA8, lA, eW8, nd, lt, fun H9 Rw r css2 ks2 N2 D2 M2 s9 nR eR lr hN2 aD2 bF2 kF2 ch2 out keptR upR => ?_⟩
  obtain rfl := hN2.uniq hN
  have eD : confOf D2 (valAt ns) t.size = confOf D (valAt ns) t.size := by
    funext a
    unfold confOf
    refine List.filter_congr fun b _ => ?_
    rw [(aD2 a).uniq (aD a) b]
  have cl := changed_len lt aD2 hN2 bF2 kF2 ch2 out keptR upR
  have lk2 : ks2.length = ks.length := by
    obtain ⟨upK2, inK2, freeK2, _⟩ := kF2.all bF2 hN2.1 ch2
    have l1 := mk.2 ks2 (upK2.imp fun {a b} z => Nat.ne_of_lt z) inK2 (by rw [← eD]; exact freeK2)
    have l2 := (most_kept aD2 hN2 bF2 kF2 ch2).2 ks ndK inK (by rw [eD]; exact freeK)
    omega
  rw [lk2] at cl
  have s69 := s68.trans s9
  have ht9 := ht8.same s9
  have eA9 := s9 _ _ eA8
  have eW9 := s9 _ _ eW8
  have eK9 := s9 _ _ eK8
  have fnd : ∀ x, x ∈ ws → x ∈ foundOf (valAt r) t t.size := fun x hx => by
    unfold foundOf
    refine List.mem_filter.mpr ⟨List.mem_range.mpr (lt x hx), ?_⟩
    rw [wished_found upR hx]
    rfl
  clear keptR upR out kF2 ch2 bF2 eD aD2 hN2 htA eAA eWA eK eC pC ht8 eA8 eW8 eK8 ht7 eA7 eW7 eC7 pC7
  refine ⟨fun σ H' => ∃ X : Addr, σ = [some (.ref p), some v, some (natV t.size), some (.ref A), some (.ref W), some (.ref Kp), some (.ref C), some (.ref Rw), some (.ref X), none, none] ∧ Same H9 H' ∧ H' X = some (.lst (((List.range t.size).filter fun x => !decide (valAt r x = valAt ns x)).map natV)), ?_, fun σ H10 hX => ?_⟩
  · refine ⟨_, rfl, _, rfl, by omega, by omega, fun X hX => ?_⟩
    refine lc_range (lo := 0) (n := t.size) (fun i H' => Same H9 H' ∧ H' X = some (.lst (((List.range i).filter fun x => !decide (valAt r x = valAt ns x)).map natV))) ⟨Same.new hX, upd_same⟩ (fun i H3 hi h3 => ?_) (fun H3 h3 => ?_)
    · obtain ⟨s3, e3⟩ := h3
      have ei : V.int (0 + (i : Int)) = natV i := congrArg V.int (by omega)
      rw [ei]
      have et : (List.range (i + 1)).filter (fun x => !decide (valAt r x = valAt ns x)) = (List.range i).filter (fun x => !decide (valAt r x = valAt ns x)) ++ [i].filter fun x => !decide (valAt r x = valAt ns x) := by
        rw [List.range_succ, List.filter_append]
      have few := List.length_filter_le (fun x => !decide (valAt r x = valAt ns x)) (List.range i)
      rw [List.length_range] at few
      refine ⟨rfl, ?_⟩
      refine ⟨_, rfl, _, rfl, Rw, _, _, _, rfl, rfl, .of (s3 _ _ eR), atI_nat (valAt_get (by omega)), _, rfl, _, rfl, A, _, _, _, rfl, rfl, .of (s3 _ _ eA9), atI_nat (valAt_get (by omega)), rfl, _, rfl, ?_⟩
      have ed : decide (V.int (valAt r i) = V.int (valAt ns i)) = decide (valAt r i = valAt ns i) := decide_eq_decide.mpr ⟨V.int.inj, congrArg V.int⟩
      rw [ed]
      by_cases c : valAt r i = valAt ns i
      · rw [decide_eq_true c]
        refine iteF ⟨s3, ?_⟩
        rw [et, List.filter_cons_of_neg (by rw [decide_eq_true c]; exact Bool.false_ne_true), List.filter_nil, List.append_nil]
        exact e3
      · rw [decide_eq_false c]
        refine iteT ⟨_, rfl, _, e3, ?_, fun b o eb => ?_, ?_⟩
        · rw [List.length_map]
          exact small1000 (by omega)
        · rw [upd_ne (ne_of_none eb hX)]
          exact s3 _ _ eb
        · rw [upd_same, et, List.filter_cons_of_pos (by rw [decide_eq_false c]; rfl), List.filter_nil, List.map_append]
          rfl
    · obtain ⟨s3, e3⟩ := h3
      exact ⟨X, rfl, s3, e3⟩
  obtain ⟨X, rfl, s10, eX⟩ := hX
  have ht10 := ht9.same s10
  have eW10 := s10 _ _ eW9
  have eK10 := s10 _ _ eK9
  have eR10 := s10 _ _ eR
  have eA10 := s10 _ _ eA9
  refine ⟨fun σ H' => σ = [some (.ref p), some v, some (natV t.size), some (.ref A), some (.ref W), some (.ref Kp), some (.ref C), some (.ref Rw), some (.ref X), none, none] ∧ Same H10 H', ?_, fun σ H11 hX => ?_⟩
  · refine ⟨_, rfl, X, _, rfl, .inl (.of eX), ?_⟩
    refine ⟨_, rfl, _, rfl, v, t, W, ws, rfl, ht10, hht, by omega, eW10, nd, lt, fun H11 Nl N3 s11 nN eN hN3 => ?_⟩
    obtain rfl := hN3.uniq hN
    refine ⟨Nl, _, rfl, .inl (.of eN), _, rfl, Kp, _, rfl, .inl (.of (s11 _ _ eK10)), _, _, rfl, rfl, rfl, _, rfl, ?_⟩
    rw [List.length_map, List.length_map, List.length_map, decide_eq_true (show V.int ((((List.range t.size).filter fun x => !decide (valAt r x = valAt ns x)).length : Nat) : Int) = V.int (((N3.length : Nat) : Int) - ((ks.length : Nat) : Int)) from congrArg V.int (by omega))]
    exact iteF ⟨rfl, s11⟩
  obtain ⟨rfl, s11⟩ := hX
  refine ⟨fun σ H' => σ = [some (.ref p), some v, some (natV t.size), some (.ref A), some (.ref W), some (.ref Kp), some (.ref C), some (.ref Rw), some (.ref X), none, none] ∧ Same H11 H', ?_, fun σ H12 hX => ?_⟩
  · refine ⟨_, rfl, W, rfl, ⟨_, .of (s11 _ _ eW10)⟩, fun Y hY => ?_⟩
    refine lc_it (walk_list (K := K) (a := W) (xs := ws.map natV)) (fun i H' => Same H11 H' ∧ H' Y = some (.lst [])) ⟨Same.new hY, upd_same⟩ (fun i H' _ h' => .of (h'.1 _ _ (s11 _ _ eW10))) (fun i x G1 G2 hi h5 hy => ?_) (fun G1 h5 => ?_)
    · obtain ⟨s5, e5⟩ := h5
      obtain ⟨rfl, hx⟩ := hy
      rw [List.getElem?_map] at hx
      obtain ⟨c, hc, rfl⟩ := Option.map_eq_some_iff.mp hx
      have s15 := s11.trans s5
      refine ⟨rfl, ?_⟩
      refine ⟨_, rfl, _, rfl, _, rfl, v, t, Rw, r, rfl, ht10.same s15, by omega, s15 _ _ eR10, lr, fun H13 Fq s13 nF eF => ⟨Fq, _, rfl, .inl (.of eF), rfl, flat_nats _, _, rfl, ?_⟩⟩
      rw [show (if true = true then !inV (natV c) ((foundOf (valAt r) t t.size).map natV) else inV (natV c) ((foundOf (valAt r) t t.size).map natV)) = !decide (c ∈ foundOf (valAt r) t t.size) from congrArg (!·) (inV_nat c _), decide_eq_true (fnd c (List.mem_of_getElem? hc))]
      exact iteF ⟨s5.trans s13, s13 _ _ e5⟩
    · obtain ⟨s5, e5⟩ := h5
      refine ⟨zero, fun Zl hZ => ⟨Y, Zl, [], rfl, rfl, .of ((Same.new hZ) _ _ e5), .of upd_same, _, rfl, ?_⟩⟩
      exact iteF ⟨rfl, s5.trans (Same.new hZ)⟩
  obtain ⟨rfl, s12⟩ := hX
  have sE := s10.trans (s11.trans s12)
  have fin : ∀ H', Same H9 H' → Q (.bl true) H' := fun H' s => q H' (kpA.trans (.of (s69.trans s))) (((drA.same s69).same s).mono (by omega))
  refine ⟨_, rfl, W, _, rfl, .inl (.of (sE _ _ eW9)), _, rfl, _, _, rfl, rfl, _, rfl, ?_⟩
  rw [List.length_map]
  by_cases c : ws.length < t.size
  · rw [decide_eq_true (show ((ws.length : Nat) : Int) < (t.size : Int) by omega)]
    exact iteT (fin _ sE)
  · rw [decide_eq_false (show ¬ ((ws.length : Nat) : Int) < (t.size : Int) by omega)]
    have all : ∀ x, x < t.size → x ∈ ws := fun x hx => by
      refine Classical.byContradiction fun no => ?_
      have nd' : (x :: ws).Nodup := List.nodup_cons.mpr ⟨no, nd⟩
      have le := few_below _ nd' (fun y hy => (List.mem_cons.mp hy).elim (fun e => e ▸ hx) fun h => lt y h)
      rw [List.length_cons] at le
      omega
    refine iteF ⟨_, rfl, Kp, _, rfl, .inl (.of (sE _ _ eK9)), _, rfl, A, ns, rfl, sE _ _ eA9, by omega, fun H13 L s13 hL => ⟨rfl, ?_⟩⟩
    rw [lA] at hL
    have kl := kept_long lt all aD hN bF kF ch hL
    rw [List.length_map, kl, decide_eq_true (show V.int ((L : Nat) : Int) = natV L from rfl)]
    exact fin _ (sE.trans s13)
end
end HSP
namespace HSP
open PySem PySem.Spec PyProof.Rows L2
section
variable {P : Program} {w : World} {K : PySem.W.Frag} {mg : Str → Option Value} {base : Heap}
/-! ### law -/
theorem sc_law : FnScope n_law ["script"] (defScope s_law) := ⟨rfl, rfl, rfl, by decide +kernel, rfl, by decide +kernel, by decide +kernel⟩
def spLaw (K : PySem.W.Frag) : Sp := fun vs H Q _ => ∃ (a : Addr) (ns : List Int), vs = [.ref a] ∧ SqL K H a (ns.map V.int) ∧ ns.length ≤ 63 ∧ ∀ H', Q (.bl true) H'
theorem ok_law {f : Addr} {fd : FuncData} (B : Bl mg) (F : Fun K "law" "law" s_law f fd) (D : Df P w K mg base "_law_draws" 1 ["cell"] spDraws) (R : DfG P w K mg base "_law_right" 35 ["draws"] spRight) : FnG P w K mg base CX0 36 f fd ["script"] (spLaw K) := by
  refine FnG.mk' F sc_law (fun vs H Q E h => ?_) (fun cdv A outer s H vs Q E hg hr h => ?_)
  · obtain ⟨a, ns, rfl, _⟩ := h
    rfl
  obtain ⟨a, ns, rfl, hS, h63, q⟩ := h
  refine ⟨_, PSs.nox (pss_cons (ps_for PassesOwn.never rfl (pi_list (pe_op op_cat (pe_slice sl_list (pv 0) po_none (po_some pe_int)) (pe_lst (pa_cons pe_int pa_nil)))) (pg_name (i := 1) sc_law.nd rfl (.inl rfl)) (pss_cons (ps_set (i := 2) sc_law.nd rfl (.inl rfl) (pe_df D (hr.mono (by decide)) (pa_cons (pv 1) pa_nil)))
 (pss_one (ps_for PassesOwn.never rfl (pi_range1 (by rfl) B.range (pa_cons pe_int pa_nil)) (pg_name (i := 3) sc_law.nd rfl (.inl rfl)) (pss_one (ps_if (pt_not (pt_val (pe_dfG R hg hr (pa_cons (pv 2) pa_nil)))) (pss_one (ps_ret pe_bl)) pss_nil))))))
 (pss_one (ps_ret pe_bl))), ?_⟩
  refine ⟨_, rfl, 6, rfl, a, _, rfl, hS, fun c1 hc1 => ?_⟩
  refine ⟨(by show 1 ≤ sizeLine; decide), fun c2 hc2 => ?_⟩
  have s1 := Same.new (o := .lst (cutV (ns.map V.int) none (some 6))) hc1
  have s2 := Same.new (o := .lst [V.int 0]) hc2
  refine ⟨c1, c2, _, _, rfl, rfl, s2 _ _ upd_same, upd_same, ?_, fun C hC => ?_⟩
  · have z := cutV_length (ns.map V.int) none (some 6)
    rw [List.length_map] at z
    show _ + 1 ≤ sizeLine
    exact Nat.le_of_lt (small1000 (by omega))
  have cells : ∀ x, x ∈ cutV (ns.map V.int) none (some 6) ++ [V.int 0] → ∃ z, x = V.int z := fun x hx => by
    rcases List.mem_append.mp hx with hx | hx
    · have h1 := List.mem_of_mem_take hx
      have h2 := List.mem_of_mem_drop h1
      obtain ⟨z, _, rfl⟩ := List.mem_map.mp h2
      exact ⟨z, rfl⟩
    · exact ⟨0, List.mem_singleton.mp hx⟩
  have eC : (upd (upd (upd H c1 (.lst (cutV (ns.map V.int) none (some 6)))) c2 (.lst [V.int 0])) C (.lst (cutV (ns.map V.int) none (some 6) ++ [V.int 0]))) C = some (.lst (cutV (ns.map V.int) none (some 6) ++ [V.int 0])) := upd_same
  generalize cutV (ns.map V.int) none (some 6) ++ [V.int 0] = xs at cells eC ⊢
  generalize upd (upd (upd H c1 (.lst (cutV (ns.map V.int) none (some 6)))) c2 (.lst [V.int 0])) C (.lst xs) = H1 at eC ⊢
  refine ⟨C, rfl, ⟨_, .of eC⟩, for_list (xs := xs) (fun i σ H' => ∃ y0 y1 y2 y3, σ = [y0, y1, y2, y3] ∧ H' C = some (.lst xs)) ⟨_, _, _, _, rfl, eC⟩ (fun i σ H2 _ h2 => ?_) (fun i x σ H2 hx h2 => ?_) (fun σ H2 _ => q H2)⟩
  · obtain ⟨_, _, _, _, _, e2⟩ := h2
    exact .of e2
  · obtain ⟨y0, y1, y2, y3, rfl, e2⟩ := h2
    obtain ⟨z, rfl⟩ := cells x (List.mem_of_getElem? hx)
    refine ⟨_, rfl, z, rfl, fun H3 p s3 np d3 => ?_⟩
    have nC : C ≠ p := ne_of_none e2 np
    refine ⟨2, rfl, by decide, by decide, ?_⟩
    refine for_range (lo := 0) (n := 2) (fun j σ H' => ∃ y0 y1 y3, σ = [y0, y1, some (.ref p), y3] ∧ H' C = some (.lst xs) ∧ DrAt H' p (200 * j)) ⟨_, _, _, rfl, s3 _ _ e2, d3⟩ (fun j σ H4 hj h4 => ?_) (fun σ H4 h4 => ?_)
    · obtain ⟨y0, y1, y3, rfl, e4, d4⟩ := h4
      refine ⟨_, rfl, p, 200 * j, rfl, d4, by omega, fun H5 k5 d5 => ⟨true, rfl, iteF ?_⟩⟩
      exact ⟨_, _, _, rfl, k5 C _ nC e4, d5.mono (by omega)⟩
    · obtain ⟨y0, y1, y3, rfl, e4, _⟩ := h4
      exact ⟨_, _, _, _, rfl, e4⟩
end
/-! ## what the top has written -/
theorem all_mk {l : PySem.W.OpenLaw} {w : World} {K : PySem.W.Frag} {h : Heap} {mg : Str → Option Value} {fa : Addr} (X : K.In h) (G : h.Ns mainGlobals mg) (hfa : mg "law" = some (.ref fa))
    {f1 : Addr} {od1 an1 : Option Addr} {sl1 : Array (Option Value)} {oc1 kV1 dc1 pm1 cd1 ct1 : Value}
    (a1 : PySem.W.nsIn K mainGlobals "is_whole" = some (some (.ref f1))) (l1 : K.lookup f1 = some ⟨oc1, od1, .func (PySem.W.fnOf "is_whole" "is_whole" (defArgs s_is_whole) (defBody s_is_whole) (defScope s_is_whole) .none kV1 dc1 pm1 an1 cd1 ct1), sl1⟩) (c1 : PySem.W.codeIn K cd1 "is_whole" = true) (k1 : PySem.W.keepIn K (.ref f1) = true)
    {f2 : Addr} {od2 an2 : Option Addr} {sl2 : Array (Option Value)} {oc2 kV2 dc2 pm2 cd2 ct2 : Value}
    (a2 : PySem.W.nsIn K mainGlobals "is_node" = some (some (.ref f2))) (l2 : K.lookup f2 = some ⟨oc2, od2, .func (PySem.W.fnOf "is_node" "is_node" (defArgs s_is_node) (defBody s_is_node) (defScope s_is_node) .none kV2 dc2 pm2 an2 cd2 ct2), sl2⟩) (c2 : PySem.W.codeIn K cd2 "is_node" = true) (k2 : PySem.W.keepIn K (.ref f2) = true)
    {f3 : Addr} {od3 an3 : Option Addr} {sl3 : Array (Option Value)} {oc3 kV3 dc3 pm3 cd3 ct3 : Value}
    (a3 : PySem.W.nsIn K mainGlobals "is_split" = some (some (.ref f3))) (l3 : K.lookup f3 = some ⟨oc3, od3, .func (PySem.W.fnOf "is_split" "is_split" (defArgs s_is_split) (defBody s_is_split) (defScope s_is_split) .none kV3 dc3 pm3 an3 cd3 ct3), sl3⟩) (c3 : PySem.W.codeIn K cd3 "is_split" = true) (k3 : PySem.W.keepIn K (.ref f3) = true)
    {f4 : Addr} {od4 an4 : Option Addr} {sl4 : Array (Option Value)} {oc4 kV4 dc4 pm4 cd4 ct4 : Value}
    (a4 : PySem.W.nsIn K mainGlobals "is_tree" = some (some (.ref f4))) (l4 : K.lookup f4 = some ⟨oc4, od4, .func (PySem.W.fnOf "is_tree" "is_tree" (defArgs s_is_tree) (defBody s_is_tree) (defScope s_is_tree) .none kV4 dc4 pm4 an4 cd4 ct4), sl4⟩) (c4 : PySem.W.codeIn K cd4 "is_tree" = true) (k4 : PySem.W.keepIn K (.ref f4) = true)
    {f5 : Addr} {od5 an5 : Option Addr} {sl5 : Array (Option Value)} {oc5 kV5 dc5 pm5 cd5 ct5 : Value}
    (a5 : PySem.W.nsIn K mainGlobals "count_nodes" = some (some (.ref f5))) (l5 : K.lookup f5 = some ⟨oc5, od5, .func (PySem.W.fnOf "count_nodes" "count_nodes" (defArgs s_count_nodes) (defBody s_count_nodes) (defScope s_count_nodes) .none kV5 dc5 pm5 an5 cd5 ct5), sl5⟩) (c5 : PySem.W.codeIn K cd5 "count_nodes" = true) (k5 : PySem.W.keepIn K (.ref f5) = true)
    {f6 : Addr} {od6 an6 : Option Addr} {sl6 : Array (Option Value)} {oc6 kV6 dc6 pm6 cd6 ct6 : Value}
    (a6 : PySem.W.nsIn K mainGlobals "walk" = some (some (.ref f6))) (l6 : K.lookup f6 = some ⟨oc6, od6, .func (PySem.W.fnOf "walk" "walk" (defArgs s_walk) (defBody s_walk) (defScope s_walk) .none kV6 dc6 pm6 an6 cd6 ct6), sl6⟩) (c6 : PySem.W.codeIn K cd6 "walk" = true) (k6 : PySem.W.keepIn K (.ref f6) = true)
    {f7 : Addr} {od7 an7 : Option Addr} {sl7 : Array (Option Value)} {oc7 kV7 dc7 pm7 cd7 ct7 : Value}
    (a7 : PySem.W.nsIn K mainGlobals "paths_of" = some (some (.ref f7))) (l7 : K.lookup f7 = some ⟨oc7, od7, .func (PySem.W.fnOf "paths_of" "paths_of" (defArgs s_paths_of) (defBody s_paths_of) (defScope s_paths_of) .none kV7 dc7 pm7 an7 cd7 ct7), sl7⟩) (c7 : PySem.W.codeIn K cd7 "paths_of" = true) (k7 : PySem.W.keepIn K (.ref f7) = true)
    {f8 : Addr} {od8 an8 : Option Addr} {sl8 : Array (Option Value)} {oc8 kV8 dc8 pm8 cd8 ct8 : Value}
    (a8 : PySem.W.nsIn K mainGlobals "check_tree" = some (some (.ref f8))) (l8 : K.lookup f8 = some ⟨oc8, od8, .func (PySem.W.fnOf "check_tree" "check_tree" (defArgs s_check_tree) (defBody s_check_tree) (defScope s_check_tree) .none kV8 dc8 pm8 an8 cd8 ct8), sl8⟩) (c8 : PySem.W.codeIn K cd8 "check_tree" = true) (k8 : PySem.W.keepIn K (.ref f8) = true)
    {f9 : Addr} {od9 an9 : Option Addr} {sl9 : Array (Option Value)} {oc9 kV9 dc9 pm9 cd9 ct9 : Value}
    (a9 : PySem.W.nsIn K mainGlobals "check_row" = some (some (.ref f9))) (l9 : K.lookup f9 = some ⟨oc9, od9, .func (PySem.W.fnOf "check_row" "check_row" (defArgs s_check_row) (defBody s_check_row) (defScope s_check_row) .none kV9 dc9 pm9 an9 cd9 ct9), sl9⟩) (c9 : PySem.W.codeIn K cd9 "check_row" = true) (k9 : PySem.W.keepIn K (.ref f9) = true)
    {f10 : Addr} {od10 an10 : Option Addr} {sl10 : Array (Option Value)} {oc10 kV10 dc10 pm10 cd10 ct10 : Value}
    (a10 : PySem.W.nsIn K mainGlobals "check_values" = some (some (.ref f10))) (l10 : K.lookup f10 = some ⟨oc10, od10, .func (PySem.W.fnOf "check_values" "check_values" (defArgs s_check_values) (defBody s_check_values) (defScope s_check_values) .none kV10 dc10 pm10 an10 cd10 ct10), sl10⟩) (c10 : PySem.W.codeIn K cd10 "check_values" = true) (k10 : PySem.W.keepIn K (.ref f10) = true)
    {f11 : Addr} {od11 an11 : Option Addr} {sl11 : Array (Option Value)} {oc11 kV11 dc11 pm11 cd11 ct11 : Value}
    (a11 : PySem.W.nsIn K mainGlobals "check_wished" = some (some (.ref f11))) (l11 : K.lookup f11 = some ⟨oc11, od11, .func (PySem.W.fnOf "check_wished" "check_wished" (defArgs s_check_wished) (defBody s_check_wished) (defScope s_check_wished) .none kV11 dc11 pm11 an11 cd11 ct11), sl11⟩) (c11 : PySem.W.codeIn K cd11 "check_wished" = true) (k11 : PySem.W.keepIn K (.ref f11) = true)
    {f12 : Addr} {od12 an12 : Option Addr} {sl12 : Array (Option Value)} {oc12 kV12 dc12 pm12 cd12 ct12 : Value}
    (a12 : PySem.W.nsIn K mainGlobals "check_wishes" = some (some (.ref f12))) (l12 : K.lookup f12 = some ⟨oc12, od12, .func (PySem.W.fnOf "check_wishes" "check_wishes" (defArgs s_check_wishes) (defBody s_check_wishes) (defScope s_check_wishes) .none kV12 dc12 pm12 an12 cd12 ct12), sl12⟩) (c12 : PySem.W.codeIn K cd12 "check_wishes" = true) (k12 : PySem.W.keepIn K (.ref f12) = true)
    {f13 : Addr} {od13 an13 : Option Addr} {sl13 : Array (Option Value)} {oc13 kV13 dc13 pm13 cd13 ct13 : Value}
    (a13 : PySem.W.nsIn K mainGlobals "greater_nodes" = some (some (.ref f13))) (l13 : K.lookup f13 = some ⟨oc13, od13, .func (PySem.W.fnOf "greater_nodes" "greater_nodes" (defArgs s_greater_nodes) (defBody s_greater_nodes) (defScope s_greater_nodes) .none kV13 dc13 pm13 an13 cd13 ct13), sl13⟩) (c13 : PySem.W.codeIn K cd13 "greater_nodes" = true) (k13 : PySem.W.keepIn K (.ref f13) = true)
    {f14 : Addr} {od14 an14 : Option Addr} {sl14 : Array (Option Value)} {oc14 kV14 dc14 pm14 cd14 ct14 : Value}
    (a14 : PySem.W.nsIn K mainGlobals "distances" = some (some (.ref f14))) (l14 : K.lookup f14 = some ⟨oc14, od14, .func (PySem.W.fnOf "distances" "distances" (defArgs s_distances) (defBody s_distances) (defScope s_distances) .none kV14 dc14 pm14 an14 cd14 ct14), sl14⟩) (c14 : PySem.W.codeIn K cd14 "distances" = true) (k14 : PySem.W.keepIn K (.ref f14) = true)
    {f15 : Addr} {od15 an15 : Option Addr} {sl15 : Array (Option Value)} {oc15 kV15 dc15 pm15 cd15 ct15 : Value}
    (a15 : PySem.W.nsIn K mainGlobals "conflicts" = some (some (.ref f15))) (l15 : K.lookup f15 = some ⟨oc15, od15, .func (PySem.W.fnOf "conflicts" "conflicts" (defArgs s_conflicts) (defBody s_conflicts) (defScope s_conflicts) .none kV15 dc15 pm15 an15 cd15 ct15), sl15⟩) (c15 : PySem.W.codeIn K cd15 "conflicts" = true) (k15 : PySem.W.keepIn K (.ref f15) = true)
    {f16 : Addr} {od16 an16 : Option Addr} {sl16 : Array (Option Value)} {oc16 kV16 dc16 pm16 cd16 ct16 : Value}
    (a16 : PySem.W.nsIn K mainGlobals "gains_next" = some (some (.ref f16))) (l16 : K.lookup f16 = some ⟨oc16, od16, .func (PySem.W.fnOf "gains_next" "gains_next" (defArgs s_gains_next) (defBody s_gains_next) (defScope s_gains_next) .none kV16 dc16 pm16 an16 cd16 ct16), sl16⟩) (c16 : PySem.W.codeIn K cd16 "gains_next" = true) (k16 : PySem.W.keepIn K (.ref f16) = true)
    {f17 : Addr} {od17 an17 : Option Addr} {sl17 : Array (Option Value)} {oc17 kV17 dc17 pm17 cd17 ct17 : Value}
    (a17 : PySem.W.nsIn K mainGlobals "fewest_chains" = some (some (.ref f17))) (l17 : K.lookup f17 = some ⟨oc17, od17, .func (PySem.W.fnOf "fewest_chains" "fewest_chains" (defArgs s_fewest_chains) (defBody s_fewest_chains) (defScope s_fewest_chains) .none kV17 dc17 pm17 an17 cd17 ct17), sl17⟩) (c17 : PySem.W.codeIn K cd17 "fewest_chains" = true) (k17 : PySem.W.keepIn K (.ref f17) = true)
    {f18 : Addr} {od18 an18 : Option Addr} {sl18 : Array (Option Value)} {oc18 kV18 dc18 pm18 cd18 ct18 : Value}
    (a18 : PySem.W.nsIn K mainGlobals "chains_of" = some (some (.ref f18))) (l18 : K.lookup f18 = some ⟨oc18, od18, .func (PySem.W.fnOf "chains_of" "chains_of" (defArgs s_chains_of) (defBody s_chains_of) (defScope s_chains_of) .none kV18 dc18 pm18 an18 cd18 ct18), sl18⟩) (c18 : PySem.W.codeIn K cd18 "chains_of" = true) (k18 : PySem.W.keepIn K (.ref f18) = true)
    {f19 : Addr} {od19 an19 : Option Addr} {sl19 : Array (Option Value)} {oc19 kV19 dc19 pm19 cd19 ct19 : Value}
    (a19 : PySem.W.nsIn K mainGlobals "keepers" = some (some (.ref f19))) (l19 : K.lookup f19 = some ⟨oc19, od19, .func (PySem.W.fnOf "keepers" "keepers" (defArgs s_keepers) (defBody s_keepers) (defScope s_keepers) .none kV19 dc19 pm19 an19 cd19 ct19), sl19⟩) (c19 : PySem.W.codeIn K cd19 "keepers" = true) (k19 : PySem.W.keepIn K (.ref f19) = true)
    {f20 : Addr} {od20 an20 : Option Addr} {sl20 : Array (Option Value)} {oc20 kV20 dc20 pm20 cd20 ct20 : Value}
    (a20 : PySem.W.nsIn K mainGlobals "can_keep" = some (some (.ref f20))) (l20 : K.lookup f20 = some ⟨oc20, od20, .func (PySem.W.fnOf "can_keep" "can_keep" (defArgs s_can_keep) (defBody s_can_keep) (defScope s_can_keep) .none kV20 dc20 pm20 an20 cd20 ct20), sl20⟩) (c20 : PySem.W.codeIn K cd20 "can_keep" = true) (k20 : PySem.W.keepIn K (.ref f20) = true)
    {f21 : Addr} {od21 an21 : Option Addr} {sl21 : Array (Option Value)} {oc21 kV21 dc21 pm21 cd21 ct21 : Value}
    (a21 : PySem.W.nsIn K mainGlobals "repair" = some (some (.ref f21))) (l21 : K.lookup f21 = some ⟨oc21, od21, .func (PySem.W.fnOf "repair" "repair" (defArgs s_repair) (defBody s_repair) (defScope s_repair) .none kV21 dc21 pm21 an21 cd21 ct21), sl21⟩) (c21 : PySem.W.codeIn K cd21 "repair" = true) (k21 : PySem.W.keepIn K (.ref f21) = true)
    {f22 : Addr} {od22 an22 : Option Addr} {sl22 : Array (Option Value)} {oc22 kV22 dc22 pm22 cd22 ct22 : Value}
    (a22 : PySem.W.nsIn K mainGlobals "repaired" = some (some (.ref f22))) (l22 : K.lookup f22 = some ⟨oc22, od22, .func (PySem.W.fnOf "repaired" "repaired" (defArgs s_repaired) (defBody s_repaired) (defScope s_repaired) .none kV22 dc22 pm22 an22 cd22 ct22), sl22⟩) (c22 : PySem.W.codeIn K cd22 "repaired" = true) (k22 : PySem.W.keepIn K (.ref f22) = true)
    {f23 : Addr} {od23 an23 : Option Addr} {sl23 : Array (Option Value)} {oc23 kV23 dc23 pm23 cd23 ct23 : Value}
    (a23 : PySem.W.nsIn K mainGlobals "are_chains" = some (some (.ref f23))) (l23 : K.lookup f23 = some ⟨oc23, od23, .func (PySem.W.fnOf "are_chains" "are_chains" (defArgs s_are_chains) (defBody s_are_chains) (defScope s_are_chains) .none kV23 dc23 pm23 an23 cd23 ct23), sl23⟩) (c23 : PySem.W.codeIn K cd23 "are_chains" = true) (k23 : PySem.W.keepIn K (.ref f23) = true)
    {f24 : Addr} {od24 an24 : Option Addr} {sl24 : Array (Option Value)} {oc24 kV24 dc24 pm24 cd24 ct24 : Value}
    (a24 : PySem.W.nsIn K mainGlobals "bounds_below" = some (some (.ref f24))) (l24 : K.lookup f24 = some ⟨oc24, od24, .func (PySem.W.fnOf "bounds_below" "bounds_below" (defArgs s_bounds_below) (defBody s_bounds_below) (defScope s_bounds_below) .none kV24 dc24 pm24 an24 cd24 ct24), sl24⟩) (c24 : PySem.W.codeIn K cd24 "bounds_below" = true) (k24 : PySem.W.keepIn K (.ref f24) = true)
    {f25 : Addr} {od25 an25 : Option Addr} {sl25 : Array (Option Value)} {oc25 kV25 dc25 pm25 cd25 ct25 : Value}
    (a25 : PySem.W.nsIn K mainGlobals "label_of" = some (some (.ref f25))) (l25 : K.lookup f25 = some ⟨oc25, od25, .func (PySem.W.fnOf "label_of" "label_of" (defArgs s_label_of) (defBody s_label_of) (defScope s_label_of) .none kV25 dc25 pm25 an25 cd25 ct25), sl25⟩) (c25 : PySem.W.codeIn K cd25 "label_of" = true) (k25 : PySem.W.keepIn K (.ref f25) = true)
    {f26 : Addr} {od26 an26 : Option Addr} {sl26 : Array (Option Value)} {oc26 kV26 dc26 pm26 cd26 ct26 : Value}
    (a26 : PySem.W.nsIn K mainGlobals "labels_of" = some (some (.ref f26))) (l26 : K.lookup f26 = some ⟨oc26, od26, .func (PySem.W.fnOf "labels_of" "labels_of" (defArgs s_labels_of) (defBody s_labels_of) (defScope s_labels_of) .none kV26 dc26 pm26 an26 cd26 ct26), sl26⟩) (c26 : PySem.W.codeIn K cd26 "labels_of" = true) (k26 : PySem.W.keepIn K (.ref f26) = true)
    {f27 : Addr} {od27 an27 : Option Addr} {sl27 : Array (Option Value)} {oc27 kV27 dc27 pm27 cd27 ct27 : Value}
    (a27 : PySem.W.nsIn K mainGlobals "found_of" = some (some (.ref f27))) (l27 : K.lookup f27 = some ⟨oc27, od27, .func (PySem.W.fnOf "found_of" "found_of" (defArgs s_found_of) (defBody s_found_of) (defScope s_found_of) .none kV27 dc27 pm27 an27 cd27 ct27), sl27⟩) (c27 : PySem.W.codeIn K cd27 "found_of" = true) (k27 : PySem.W.keepIn K (.ref f27) = true)
    {f28 : Addr} {od28 an28 : Option Addr} {sl28 : Array (Option Value)} {oc28 kV28 dc28 pm28 cd28 ct28 : Value}
    (a28 : PySem.W.nsIn K mainGlobals "found" = some (some (.ref f28))) (l28 : K.lookup f28 = some ⟨oc28, od28, .func (PySem.W.fnOf "found" "found" (defArgs s_found) (defBody s_found) (defScope s_found) .none kV28 dc28 pm28 an28 cd28 ct28), sl28⟩) (c28 : PySem.W.codeIn K cd28 "found" = true) (k28 : PySem.W.keepIn K (.ref f28) = true)
    {f29 : Addr} {od29 an29 : Option Addr} {sl29 : Array (Option Value)} {oc29 kV29 dc29 pm29 cd29 ct29 : Value}
    (a29 : PySem.W.nsIn K mainGlobals "_law_draws" = some (some (.ref f29))) (l29 : K.lookup f29 = some ⟨oc29, od29, .func (PySem.W.fnOf "_law_draws" "_law_draws" (defArgs s_law_draws) (defBody s_law_draws) (defScope s_law_draws) .none kV29 dc29 pm29 an29 cd29 ct29), sl29⟩) (c29 : PySem.W.codeIn K cd29 "_law_draws" = true) (k29 : PySem.W.keepIn K (.ref f29) = true)
    {f30 : Addr} {od30 an30 : Option Addr} {sl30 : Array (Option Value)} {oc30 kV30 dc30 pm30 cd30 ct30 : Value}
    (a30 : PySem.W.nsIn K mainGlobals "_law_next" = some (some (.ref f30))) (l30 : K.lookup f30 = some ⟨oc30, od30, .func (PySem.W.fnOf "_law_next" "_law_next" (defArgs s_law_next) (defBody s_law_next) (defScope s_law_next) .none kV30 dc30 pm30 an30 cd30 ct30), sl30⟩) (c30 : PySem.W.codeIn K cd30 "_law_next" = true) (k30 : PySem.W.keepIn K (.ref f30) = true)
    {f31 : Addr} {od31 an31 : Option Addr} {sl31 : Array (Option Value)} {oc31 kV31 dc31 pm31 cd31 ct31 : Value}
    (a31 : PySem.W.nsIn K mainGlobals "_law_size" = some (some (.ref f31))) (l31 : K.lookup f31 = some ⟨oc31, od31, .func (PySem.W.fnOf "_law_size" "_law_size" (defArgs s_law_size) (defBody s_law_size) (defScope s_law_size) .none kV31 dc31 pm31 an31 cd31 ct31), sl31⟩) (c31 : PySem.W.codeIn K cd31 "_law_size" = true) (k31 : PySem.W.keepIn K (.ref f31) = true)
    {f32 : Addr} {od32 an32 : Option Addr} {sl32 : Array (Option Value)} {oc32 kV32 dc32 pm32 cd32 ct32 : Value}
    (a32 : PySem.W.nsIn K mainGlobals "_law_tree" = some (some (.ref f32))) (l32 : K.lookup f32 = some ⟨oc32, od32, .func (PySem.W.fnOf "_law_tree" "_law_tree" (defArgs s_law_tree) (defBody s_law_tree) (defScope s_law_tree) .none kV32 dc32 pm32 an32 cd32 ct32), sl32⟩) (c32 : PySem.W.codeIn K cd32 "_law_tree" = true) (k32 : PySem.W.keepIn K (.ref f32) = true)
    {f33 : Addr} {od33 an33 : Option Addr} {sl33 : Array (Option Value)} {oc33 kV33 dc33 pm33 cd33 ct33 : Value}
    (a33 : PySem.W.nsIn K mainGlobals "_law_values" = some (some (.ref f33))) (l33 : K.lookup f33 = some ⟨oc33, od33, .func (PySem.W.fnOf "_law_values" "_law_values" (defArgs s_law_values) (defBody s_law_values) (defScope s_law_values) .none kV33 dc33 pm33 an33 cd33 ct33), sl33⟩) (c33 : PySem.W.codeIn K cd33 "_law_values" = true) (k33 : PySem.W.keepIn K (.ref f33) = true)
    {f34 : Addr} {od34 an34 : Option Addr} {sl34 : Array (Option Value)} {oc34 kV34 dc34 pm34 cd34 ct34 : Value}
    (a34 : PySem.W.nsIn K mainGlobals "_law_way" = some (some (.ref f34))) (l34 : K.lookup f34 = some ⟨oc34, od34, .func (PySem.W.fnOf "_law_way" "_law_way" (defArgs s_law_way) (defBody s_law_way) (defScope s_law_way) .none kV34 dc34 pm34 an34 cd34 ct34), sl34⟩) (c34 : PySem.W.codeIn K cd34 "_law_way" = true) (k34 : PySem.W.keepIn K (.ref f34) = true)
    {f35 : Addr} {od35 an35 : Option Addr} {sl35 : Array (Option Value)} {oc35 kV35 dc35 pm35 cd35 ct35 : Value}
    (a35 : PySem.W.nsIn K mainGlobals "_law_some" = some (some (.ref f35))) (l35 : K.lookup f35 = some ⟨oc35, od35, .func (PySem.W.fnOf "_law_some" "_law_some" (defArgs s_law_some) (defBody s_law_some) (defScope s_law_some) .none kV35 dc35 pm35 an35 cd35 ct35), sl35⟩) (c35 : PySem.W.codeIn K cd35 "_law_some" = true) (k35 : PySem.W.keepIn K (.ref f35) = true)
    {f36 : Addr} {od36 an36 : Option Addr} {sl36 : Array (Option Value)} {oc36 kV36 dc36 pm36 cd36 ct36 : Value}
    (a36 : PySem.W.nsIn K mainGlobals "_law_nodes_of" = some (some (.ref f36))) (l36 : K.lookup f36 = some ⟨oc36, od36, .func (PySem.W.fnOf "_law_nodes_of" "_law_nodes_of" (defArgs s_law_nodes_of) (defBody s_law_nodes_of) (defScope s_law_nodes_of) .none kV36 dc36 pm36 an36 cd36 ct36), sl36⟩) (c36 : PySem.W.codeIn K cd36 "_law_nodes_of" = true) (k36 : PySem.W.keepIn K (.ref f36) = true)
    {f37 : Addr} {od37 an37 : Option Addr} {sl37 : Array (Option Value)} {oc37 kV37 dc37 pm37 cd37 ct37 : Value}
    (a37 : PySem.W.nsIn K mainGlobals "_law_longest" = some (some (.ref f37))) (l37 : K.lookup f37 = some ⟨oc37, od37, .func (PySem.W.fnOf "_law_longest" "_law_longest" (defArgs s_law_longest) (defBody s_law_longest) (defScope s_law_longest) .none kV37 dc37 pm37 an37 cd37 ct37), sl37⟩) (c37 : PySem.W.codeIn K cd37 "_law_longest" = true) (k37 : PySem.W.keepIn K (.ref f37) = true)
    {f38 : Addr} {od38 an38 : Option Addr} {sl38 : Array (Option Value)} {oc38 kV38 dc38 pm38 cd38 ct38 : Value}
    (a38 : PySem.W.nsIn K mainGlobals "_law_right" = some (some (.ref f38))) (l38 : K.lookup f38 = some ⟨oc38, od38, .func (PySem.W.fnOf "_law_right" "_law_right" (defArgs s_law_right) (defBody s_law_right) (defScope s_law_right) .none kV38 dc38 pm38 an38 cd38 ct38), sl38⟩) (c38 : PySem.W.codeIn K cd38 "_law_right" = true) (k38 : PySem.W.keepIn K (.ref f38) = true)
    {f39 : Addr} {od39 an39 : Option Addr} {sl39 : Array (Option Value)} {oc39 kV39 dc39 pm39 cd39 ct39 : Value}
    (a39 : PySem.W.nsIn K mainGlobals "law" = some (some (.ref f39))) (l39 : K.lookup f39 = some ⟨oc39, od39, .func (PySem.W.fnOf "law" "law" (defArgs s_law) (defBody s_law) (defScope s_law) .none kV39 dc39 pm39 an39 cd39 ct39), sl39⟩) (c39 : PySem.W.codeIn K cd39 "law" = true) (k39 : PySem.W.keepIn K (.ref f39) = true)
    (z0 : PySem.W.nsIn K mainGlobals "isinstance" = some none)
    (z1 : PySem.W.nsIn K mainGlobals "int" = some none)
    (z2 : PySem.W.nsIn K mainGlobals "bool" = some none)
    (z3 : PySem.W.nsIn K mainGlobals "tuple" = some none)
    (z4 : PySem.W.nsIn K mainGlobals "list" = some none)
    (z5 : PySem.W.nsIn K mainGlobals "str" = some none)
    (z6 : PySem.W.nsIn K mainGlobals "len" = some none)
    (z7 : PySem.W.nsIn K mainGlobals "range" = some none)
    (z8 : PySem.W.nsIn K mainGlobals "enumerate" = some none)
    (z9 : PySem.W.nsIn K mainGlobals "sorted" = some none)
    (z10 : PySem.W.nsIn K mainGlobals "set" = some none)
    (z11 : PySem.W.nsIn K mainGlobals "sum" = some none)
    (z12 : PySem.W.nsIn K mainGlobals "max" = some none)
    (z13 : PySem.W.nsIn K mainGlobals "abs" = some none)
    (z14 : PySem.W.nsIn K mainGlobals "zip" = some none)
    (z15 : PySem.W.nsIn K mainGlobals "min" = some none)
    (z16 : PySem.W.nsIn K mainGlobals "any" = some none)
    (z17 : PySem.W.nsIn K mainGlobals "all" = some none)
    : ∃ fd : FuncData, (∀ (s : Shared) (v : Value), BindsTo s fd ⟨[v], []⟩ [("script", v)]) ∧ ∀ base : Heap, K.In base → base.Ns mainGlobals mg → FnG l.prog w K mg base CX0 36 fa fd ["script"] (spLaw K) := by
  cases hfa.symm.trans (PySem.W.mg_of X G a39)
  have B : Bl mg := ⟨PySem.W.mg_none_of X G z0, PySem.W.mg_none_of X G z1, PySem.W.mg_none_of X G z2, PySem.W.mg_none_of X G z3, PySem.W.mg_none_of X G z4, PySem.W.mg_none_of X G z5, PySem.W.mg_none_of X G z6, PySem.W.mg_none_of X G z7, PySem.W.mg_none_of X G z8, PySem.W.mg_none_of X G z9, PySem.W.mg_none_of X G z10, PySem.W.mg_none_of X G z11, PySem.W.mg_none_of X G z12, PySem.W.mg_none_of X G z13, PySem.W.mg_none_of X G z14, PySem.W.mg_none_of X G z15⟩
  have A1 : At K mg "is_whole" s_is_whole := ⟨_, _, PySem.W.mg_of X G a1, fun_mk l1 c1 k1⟩
  have A2 : At K mg "is_node" s_is_node := ⟨_, _, PySem.W.mg_of X G a2, fun_mk l2 c2 k2⟩
  have A3 : At K mg "is_split" s_is_split := ⟨_, _, PySem.W.mg_of X G a3, fun_mk l3 c3 k3⟩
  have A4 : At K mg "is_tree" s_is_tree := ⟨_, _, PySem.W.mg_of X G a4, fun_mk l4 c4 k4⟩
  have A5 : At K mg "count_nodes" s_count_nodes := ⟨_, _, PySem.W.mg_of X G a5, fun_mk l5 c5 k5⟩
  have A6 : At K mg "walk" s_walk := ⟨_, _, PySem.W.mg_of X G a6, fun_mk l6 c6 k6⟩
  have A7 : At K mg "paths_of" s_paths_of := ⟨_, _, PySem.W.mg_of X G a7, fun_mk l7 c7 k7⟩
  have A8 : At K mg "check_tree" s_check_tree := ⟨_, _, PySem.W.mg_of X G a8, fun_mk l8 c8 k8⟩
  have A9 : At K mg "check_row" s_check_row := ⟨_, _, PySem.W.mg_of X G a9, fun_mk l9 c9 k9⟩
  have A10 : At K mg "check_values" s_check_values := ⟨_, _, PySem.W.mg_of X G a10, fun_mk l10 c10 k10⟩
  have A11 : At K mg "check_wished" s_check_wished := ⟨_, _, PySem.W.mg_of X G a11, fun_mk l11 c11 k11⟩
  have A12 : At K mg "check_wishes" s_check_wishes := ⟨_, _, PySem.W.mg_of X G a12, fun_mk l12 c12 k12⟩
  have A13 : At K mg "greater_nodes" s_greater_nodes := ⟨_, _, PySem.W.mg_of X G a13, fun_mk l13 c13 k13⟩
  have A14 : At K mg "distances" s_distances := ⟨_, _, PySem.W.mg_of X G a14, fun_mk l14 c14 k14⟩
  have A15 : At K mg "conflicts" s_conflicts := ⟨_, _, PySem.W.mg_of X G a15, fun_mk l15 c15 k15⟩
  have A16 : At K mg "gains_next" s_gains_next := ⟨_, _, PySem.W.mg_of X G a16, fun_mk l16 c16 k16⟩
  have A17 : At K mg "fewest_chains" s_fewest_chains := ⟨_, _, PySem.W.mg_of X G a17, fun_mk l17 c17 k17⟩
  have A18 : At K mg "chains_of" s_chains_of := ⟨_, _, PySem.W.mg_of X G a18, fun_mk l18 c18 k18⟩
  have A19 : At K mg "keepers" s_keepers := ⟨_, _, PySem.W.mg_of X G a19, fun_mk l19 c19 k19⟩
  have A20 : At K mg "can_keep" s_can_keep := ⟨_, _, PySem.W.mg_of X G a20, fun_mk l20 c20 k20⟩
  have A21 : At K mg "repair" s_repair := ⟨_, _, PySem.W.mg_of X G a21, fun_mk l21 c21 k21⟩
  have A22 : At K mg "repaired" s_repaired := ⟨_, _, PySem.W.mg_of X G a22, fun_mk l22 c22 k22⟩
  have A23 : At K mg "are_chains" s_are_chains := ⟨_, _, PySem.W.mg_of X G a23, fun_mk l23 c23 k23⟩
  have A24 : At K mg "bounds_below" s_bounds_below := ⟨_, _, PySem.W.mg_of X G a24, fun_mk l24 c24 k24⟩
  have A25 : At K mg "label_of" s_label_of := ⟨_, _, PySem.W.mg_of X G a25, fun_mk l25 c25 k25⟩
  have A26 : At K mg "labels_of" s_labels_of := ⟨_, _, PySem.W.mg_of X G a26, fun_mk l26 c26 k26⟩
  have A27 : At K mg "found_of" s_found_of := ⟨_, _, PySem.W.mg_of X G a27, fun_mk l27 c27 k27⟩
  have A28 : At K mg "found" s_found := ⟨_, _, PySem.W.mg_of X G a28, fun_mk l28 c28 k28⟩
  have A29 : At K mg "_law_draws" s_law_draws := ⟨_, _, PySem.W.mg_of X G a29, fun_mk l29 c29 k29⟩
  have A30 : At K mg "_law_next" s_law_next := ⟨_, _, PySem.W.mg_of X G a30, fun_mk l30 c30 k30⟩
  have A31 : At K mg "_law_size" s_law_size := ⟨_, _, PySem.W.mg_of X G a31, fun_mk l31 c31 k31⟩
  have A32 : At K mg "_law_tree" s_law_tree := ⟨_, _, PySem.W.mg_of X G a32, fun_mk l32 c32 k32⟩
  have A33 : At K mg "_law_values" s_law_values := ⟨_, _, PySem.W.mg_of X G a33, fun_mk l33 c33 k33⟩
  have A34 : At K mg "_law_way" s_law_way := ⟨_, _, PySem.W.mg_of X G a34, fun_mk l34 c34 k34⟩
  have A35 : At K mg "_law_some" s_law_some := ⟨_, _, PySem.W.mg_of X G a35, fun_mk l35 c35 k35⟩
  have A36 : At K mg "_law_nodes_of" s_law_nodes_of := ⟨_, _, PySem.W.mg_of X G a36, fun_mk l36 c36 k36⟩
  have A37 : At K mg "_law_longest" s_law_longest := ⟨_, _, PySem.W.mg_of X G a37, fun_mk l37 c37 k37⟩
  have A38 : At K mg "_law_right" s_law_right := ⟨_, _, PySem.W.mg_of X G a38, fun_mk l38 c38 k38⟩
  refine ⟨PySem.W.fnOf "law" "law" (defArgs s_law) (defBody s_law) (defScope s_law) .none kV39 dc39 pm39 an39 cd39 ct39, fun s v => .of_eq rfl, fun base _ _ => ?_⟩
  have WhX := ok_wholeX (P := l.prog) (w := w) (base := base) B A1
  have Wh := ok_whole (P := l.prog) (w := w) (base := base) B A1
  have In := ok_isN Wh A2
  have Is0 := ok_splitN B WhX A3
  have Tr := ok_tree (P := l.prog) (w := w) (base := base) B A4
  have Co := ok_count (P := l.prog) (w := w) (base := base) A5
  have Wa := ok_walk Co A6
  have Pa := ok_paths B Co Wa A7
  have Ct := ok_chkT Tr A8
  have Cr := ok_chkR B Wh A9
  have Cv := ok_chkV B Cr Co Ct A10
  have Cd := ok_chkWd B Co In A11
  have Cs := ok_chkWs Cv Cd A12
  have Gr := ok_greater B Pa A13
  have Di := ok_dist B Gr A14
  have Cf := ok_conf B Di A15
  have Gn := ok_gains (P := l.prog) (w := w) (base := base) A16 31
  have Fe := ok_fewest B Gn A17
  have Ch := ok_chains (P := l.prog) (w := w) (base := base) B A18
  have Kep := ok_keepers (P := l.prog) (w := w) (base := base) B A19
  have Ck := okB_canKeep B (PySem.W.mg_none_of X G z16) Cs Cf WhX A20
  have Rep := okB_repair Cs Cf Fe Kep Ch A21
  have Rd := okB_repaired B Rep Gr A22
  have Ar := okB_areC B (PySem.W.mg_none_of X G z17) Cs Cf Is0 A23
  have Bo := ok_bounds (P := l.prog) (w := w) (base := base) B A24
  have Lo := ok_label (P := l.prog) (w := w) (base := base) A25
  have Lf := ok_labelsOf B Pa Bo Lo A26
  have Ff := ok_foundOf B Lf A27
  have Fo := okB_found Cv Ff A28
  have Dr := ok_draws (P := l.prog) (w := w) (base := base) B A29
  have N := ok_next (P := l.prog) (w := w) (base := base) B A30
  have Z := ok_size (P := l.prog) (w := w) (base := base) A31 21
  have T := ok_drawT B N A32 21
  have Va := ok_values B N A33
  have Wy := ok_way B Z A34
  have So := ok_some B N A35
  have No := ok_nodes B Wy A36
  have Lg := ok_longest (P := l.prog) (w := w) (base := base) B A37
  have R := ok_right B N T Z Va So No Lg Fo Ck Rep Rd Ar A38
  exact ok_law B (fun_mk l39 c39 k39) Dr R
end HSP
open PySem PySem.W PyProof.Rows
set_option maxHeartbeats 0 in
theorem PySem.Challenge.cw_halfsearch_k19_whole_as_many_stay_as_cha_holds : PySem.Challenge.rw_halfsearch_k19_whole_as_many_stay_as_cha.Holds := by
  w_on; o_law; k_head; (case hw => w_witness2)
  k_fill
  refine HSP.walk_ofG (l := PySem.Challenge.rw_halfsearch_k19_whole_as_many_stay_as_cha) (n := 63) (k := 36) (x := "script") (sp := fun w => HSP.spLaw _) rfl (by decide) rfl ⟨rfl, by decide, by decide⟩ (fun w h Y => PySem.W.kIn_of Y) ?F (fun _ _ a ns hl _ hS => ⟨a, ns, rfl, hS, hl, fun _ => rfl⟩)
  case F =>
    intro w mg fa h KX G hmg
    refine' HSP.all_mk KX G hmg ?a1 ?l1 ?c1 ?k1 ?a2 ?l2 ?c2 ?k2 ?a3 ?l3 ?c3 ?k3 ?a4 ?l4 ?c4 ?k4 ?a5 ?l5 ?c5 ?k5 ?a6 ?l6 ?c6 ?k6 ?a7 ?l7 ?c7 ?k7 ?a8 ?l8 ?c8 ?k8 ?a9 ?l9 ?c9 ?k9 ?a10 ?l10 ?c10 ?k10 ?a11 ?l11 ?c11 ?k11 ?a12 ?l12 ?c12 ?k12 ?a13 ?l13 ?c13 ?k13 ?a14 ?l14 ?c14 ?k14 ?a15 ?l15 ?c15 ?k15 ?a16 ?l16 ?c16 ?k16 ?a17 ?l17 ?c17 ?k17 ?a18 ?l18 ?c18 ?k18 ?a19 ?l19 ?c19 ?k19 ?a20 ?l20 ?c20 ?k20 ?a21 ?l21 ?c21 ?k21 ?a22 ?l22 ?c22 ?k22 ?a23 ?l23 ?c23 ?k23 ?a24 ?l24 ?c24 ?k24 ?a25 ?l25 ?c25 ?k25 ?a26 ?l26 ?c26 ?k26 ?a27 ?l27 ?c27 ?k27 ?a28 ?l28 ?c28 ?k28 ?a29 ?l29 ?c29 ?k29 ?a30 ?l30 ?c30 ?k30 ?a31 ?l31 ?c31 ?k31 ?a32 ?l32 ?c32 ?k32 ?a33 ?l33 ?c33 ?k33 ?a34 ?l34 ?c34 ?k34 ?a35 ?l35 ?c35 ?k35 ?a36 ?l36 ?c36 ?k36 ?a37 ?l37 ?c37 ?k37 ?a38 ?l38 ?c38 ?k38 ?a39 ?l39 ?c39 ?k39 ?z0 ?z1 ?z2 ?z3 ?z4 ?z5 ?z6 ?z7 ?z8 ?z9 ?z10 ?z11 ?z12 ?z13 ?z14 ?z15 ?z16 ?z17
    (case a1 => k_is)
    (case l1 => k_is)
    (case c1 => k_is)
    (case k1 => k_is)
    (case a2 => k_is)
    (case l2 => k_is)
    (case c2 => k_is)
    (case k2 => k_is)
    (case a3 => k_is)
    (case l3 => k_is)
    (case c3 => k_is)
    (case k3 => k_is)
    (case a4 => k_is)
    (case l4 => k_is)
    (case c4 => k_is)
    (case k4 => k_is)
    (case a5 => k_is)
    (case l5 => k_is)
    (case c5 => k_is)
    (case k5 => k_is)
    (case a6 => k_is)
    (case l6 => k_is)
    (case c6 => k_is)
    (case k6 => k_is)
    (case a7 => k_is)
    (case l7 => k_is)
    (case c7 => k_is)
    (case k7 => k_is)
    (case a8 => k_is)
    (case l8 => k_is)
    (case c8 => k_is)
    (case k8 => k_is)
    (case a9 => k_is)
    (case l9 => k_is)
    (case c9 => k_is)
    (case k9 => k_is)
    (case a10 => k_is)
    (case l10 => k_is)
    (case c10 => k_is)
    (case k10 => k_is)
    (case a11 => k_is)
    (case l11 => k_is)
    (case c11 => k_is)
    (case k11 => k_is)
    (case a12 => k_is)
    (case l12 => k_is)
    (case c12 => k_is)
    (case k12 => k_is)
    (case a13 => k_is)
    (case l13 => k_is)
    (case c13 => k_is)
    (case k13 => k_is)
    (case a14 => k_is)
    (case l14 => k_is)
    (case c14 => k_is)
    (case k14 => k_is)
    (case a15 => k_is)
    (case l15 => k_is)
    (case c15 => k_is)
    (case k15 => k_is)
    (case a16 => k_is)
    (case l16 => k_is)
    (case c16 => k_is)
    (case k16 => k_is)
    (case a17 => k_is)
    (case l17 => k_is)
    (case c17 => k_is)
    (case k17 => k_is)
    (case a18 => k_is)
    (case l18 => k_is)
    (case c18 => k_is)
    (case k18 => k_is)
    (case a19 => k_is)
    (case l19 => k_is)
    (case c19 => k_is)
    (case k19 => k_is)
    (case a20 => k_is)
    (case l20 => k_is)
    (case c20 => k_is)
    (case k20 => k_is)
    (case a21 => k_is)
    (case l21 => k_is)
    (case c21 => k_is)
    (case k21 => k_is)
    (case a22 => k_is)
    (case l22 => k_is)
    (case c22 => k_is)
    (case k22 => k_is)
    (case a23 => k_is)
    (case l23 => k_is)
    (case c23 => k_is)
    (case k23 => k_is)
    (case a24 => k_is)
    (case l24 => k_is)
    (case c24 => k_is)
    (case k24 => k_is)
    (case a25 => k_is)
    (case l25 => k_is)
    (case c25 => k_is)
    (case k25 => k_is)
    (case a26 => k_is)
    (case l26 => k_is)
    (case c26 => k_is)
    (case k26 => k_is)
    (case a27 => k_is)
    (case l27 => k_is)
    (case c27 => k_is)
    (case k27 => k_is)
    (case a28 => k_is)
    (case l28 => k_is)
    (case c28 => k_is)
    (case k28 => k_is)
    (case a29 => k_is)
    (case l29 => k_is)
    (case c29 => k_is)
    (case k29 => k_is)
    (case a30 => k_is)
    (case l30 => k_is)
    (case c30 => k_is)
    (case k30 => k_is)
    (case a31 => k_is)
    (case l31 => k_is)
    (case c31 => k_is)
    (case k31 => k_is)
    (case a32 => k_is)
    (case l32 => k_is)
    (case c32 => k_is)
    (case k32 => k_is)
    (case a33 => k_is)
    (case l33 => k_is)
    (case c33 => k_is)
    (case k33 => k_is)
    (case a34 => k_is)
    (case l34 => k_is)
    (case c34 => k_is)
    (case k34 => k_is)
    (case a35 => k_is)
    (case l35 => k_is)
    (case c35 => k_is)
    (case k35 => k_is)
    (case a36 => k_is)
    (case l36 => k_is)
    (case c36 => k_is)
    (case k36 => k_is)
    (case a37 => k_is)
    (case l37 => k_is)
    (case c37 => k_is)
    (case k37 => k_is)
    (case a38 => k_is)
    (case l38 => k_is)
    (case c38 => k_is)
    (case k38 => k_is)
    (case a39 => k_is)
    (case l39 => k_is)
    (case c39 => k_is)
    (case k39 => k_is)
    (case z0 => k_is)
    (case z1 => k_is)
    (case z2 => k_is)
    (case z3 => k_is)
    (case z4 => k_is)
    (case z5 => k_is)
    (case z6 => k_is)
    (case z7 => k_is)
    (case z8 => k_is)
    (case z9 => k_is)
    (case z10 => k_is)
    (case z11 => k_is)
    (case z12 => k_is)
    (case z13 => k_is)
    (case z14 => k_is)
    (case z15 => k_is)
    (case z16 => k_is)
    (case z17 => k_is)
