import PyProof.Rows.All
import Wide.All
import OpenK.AllK
import Wide.FinOn
import HandS.Base
import HandS.Call
import HandS.List
import HandS.Comp
import HandS.Ends
import HandS.Dict
import HandS.Iter
import HandS.Text
import HandS.Words
import HandS.WordsList
import HandS.Wide
import HandS.Strs
import HandS.SetFor
import HandS.SortInts
import HandS.Defaults
import HandS.IsInst
import HandS.Walk
import HandS.Codes
import HandS.ForSpec
import HandS.Exc
import HandS.ExcValue
import KE.KTryMore
import HandS.ExcField
import HandS.ExcIs
import HandS.WordsExc
import HandS.ExcOwn
import HandS.ExcInit
import HandS.SortKw
import KE.DatumOrd
import HandS.Deep
import HandS.Conv
import PyProof.NeKinds
import PySem.Challenge.RW_halfsearch_k10_patterns_checked
set_option Elab.async false
set_option maxRecDepth 100000
namespace HSP
open PySem PySem.Spec PyProof.Rows L2
/-! ## trees of pairs, as they lie in the heap -/
inductive Tr where
  | nil
  | nod (l r : Tr)
  deriving DecidableEq
def Tr.size : Tr → Nat
  | .nil => 0
  | .nod l r => l.size + 1 + r.size
def Tr.ht : Tr → Nat
  | .nil => 0
  | .nod l r => max l.ht r.ht + 1
theorem Tr.ht_le : ∀ t : Tr, t.ht ≤ t.size
  | .nil => Nat.le_refl _
  | .nod l r => by
    have h1 := l.ht_le
    have h2 := r.ht_le
    simp only [Tr.ht, Tr.size]
    omega
inductive TrAt (H : Hp) : V → Tr → Prop
  | nil : TrAt H .non .nil
  | nod {a : Addr} {x y : V} {l r : Tr} : H a = some (.tup [x, y]) → TrAt H x l → TrAt H y r → TrAt H (.ref a) (.nod l r)
theorem TrAt.keep {H H' : Hp} {v : V} {t : Tr} (h : TrAt H v t) (s : ∀ a x y, H a = some (.tup [x, y]) → H' a = some (.tup [x, y])) : TrAt H' v t := by
  induction h with
  | nil => exact .nil
  | nod e _ _ ih1 ih2 => exact .nod (s _ _ _ e) ih1 ih2
theorem TrAt.same {H H' : Hp} {v : V} {t : Tr} (h : TrAt H v t) (s : Same H H') : TrAt H' v t := h.keep fun a x y e => s a _ e
/-! ## heaps: all but one place stays -/
def Keep (p : Addr) (H H' : Hp) : Prop := ∀ b o, b ≠ p → H b = some o → H' b = some o
theorem Keep.refl (p : Addr) (H : Hp) : Keep p H H := fun _ _ _ e => e
theorem Keep.trans {p : Addr} {H H1 H2 : Hp} (a : Keep p H H1) (b : Keep p H1 H2) : Keep p H H2 := fun c o n e => b c o n (a c o n e)
theorem Keep.of {p : Addr} {H H' : Hp} (s : Same H H') : Keep p H H' := fun b o _ e => s b o e
theorem Keep.at {p : Addr} {H : Hp} {o : HO} : Keep p H (upd H p o) := fun b u n e => by
  rw [upd_ne n]; exact e
theorem Keep.new {p q : Addr} {H : Hp} {o : HO} (h : H q = none) : Keep p H (upd H q o) := fun b u _ e => by
  rw [upd_ne (ne_of_none e h)]; exact e
theorem Keep.tree {p : Addr} {H H' : Hp} {v : V} {t : Tr} {xs : List V} (k : Keep p H H') (hp : H p = some (.lst xs)) (h : TrAt H v t) : TrAt H' v t :=
  h.keep fun a x y e => k a _ (fun z => by rw [z, hp] at e; cases e) e
theorem Same.new {H : Hp} {p : Addr} {o : HO} (h : H p = none) : Same H (upd H p o) := fun b u e => by
  rw [upd_ne (ne_of_none e h)]; exact e
theorem Keep.same {p : Addr} {H H1 H' : Hp} (s : Same H H1) (n : H p = none) (k : Keep p H1 H') : Same H H' := fun b o e => k b o (ne_of_none e n) (s b o e)
/-! ## powers -/
def CPowW (i j : Int) : Prop := 0 ≤ j ∧ (Builtin.Int.intBits i : Int) * j ≤ 2 ^ 27
section
variable {X : Cx}
theorem op_powW : OpR X (binaryOp .Pow) (rI CPowW fun i j => .int (i ^ j.toNat)) :=
  opI fun _ _ _ _ _ _ _ hc q => pow_int hc.1 hc.2 q
end
end HSP
namespace HSP
open PySem PySem.Spec PyProof.Rows L2
/-! ## a def of the text that keeps a promise, called by its name -/
/-- the def stands under its own name behind the top -/
def At (K : PySem.W.Frag) (mg : Str → Option Value) (x : Str) (st : Stmt) : Prop := ∃ (f : Addr) (fd : FuncData), mg x = some (.ref f) ∧ Fun K x x st f fd
structure Df (P : Program) (w : World) (K : PySem.W.Frag) (mg : Str → Option Value) (base : Heap) (x : Str) (n : Nat) (ps : List Str) (sp : Sp) : Prop where
  ex : ∃ (f : Addr) (fd : FuncData), mg x = some (.ref f) ∧ PySem.W.keepIn K (.ref f) = true ∧ Binds K fd ps [] ∧ FnOk P w K mg base CX0 n f fd ps sp
section
variable {P : Program} {w : World} {K : PySem.W.Frag} {mg : Str → Option Value} {base : Heap}
theorem Df.mk' {x : Str} {st : Stmt} {N ps : List Str} {k : Nat} {sp : Sp} (a : At K mg x st) (S : FnScope N ps (defScope st)) (len : ∀ vs H Q E, sp vs H Q E → vs.length = ps.length)
    (hb : ∀ (kV doc pm : Value) (an : Option Addr) (cdv ct : Value) (us : List Value), us.length = ps.length → bindArgs (PySem.W.fnOf x x (defArgs st) (defBody st) (defScope st) .none kV doc pm an cdv ct) ⟨us, []⟩ = pure (ps.zip us))
    (body : ∀ (f : Addr) (cdv : Value) (A : Around) (outer : List Env) (s : Shared) (H : Hp) (vs : List V) (Q : VK) (E : XK), Room k (A.deeper (envOfC x (defScope st) s.heap.objs.size f cdv)) → sp vs H Q E →
      ∃ t, PSs (cxOf CX0 P w K mg base N x (defScope st) f cdv A outer s H E).nox (defBody st) t ∧ t { nx := fun _ H' => Q .non H', rt := Q } (start N vs) H) : Df P w K mg base x (k + 1) ps sp := by
  obtain ⟨f, fd, hm, F⟩ := a
  exact ⟨f, fd, hm, F.kp, F.binds hb, F.ok S len (body f)⟩
theorem Df.mono {x : Str} {j k : Nat} {ps : List Str} {sp : Sp} (D : Df P w K mg base x j ps sp) (h : j ≤ k) : Df P w K mg base x k ps sp := by
  obtain ⟨f, fd, a, b, c, d⟩ := D.ex
  exact ⟨f, fd, a, b, c, d.mono h⟩
theorem Df.imp {x : Str} {k : Nat} {ps : List Str} {sp sp' : Sp} (D : Df P w K mg base x k ps sp) (h : ∀ vs H Q E, sp' vs H Q E → sp vs H Q E) : Df P w K mg base x k ps sp' := by
  obtain ⟨f, fd, a, b, c, d⟩ := D.ex
  exact ⟨f, fd, a, b, c, d.imp h⟩
end
section
variable {X : Cx} {k : Nat} {ps : List Str} {sp : Sp} {x : Str} {p pos : Pos} {e : Expr} {es : List Expr} {t : TA}
theorem pe_df (D : Df X.prog X.w X.K X.mg X.base x k ps sp) (hr : Room k X.A) (ha : PA X (e :: es) t) (hg : Gl X x := by rfl) (hdb : (x == ("__debug__" : Str)) = false := by decide)
    (he : starEach (e :: es) X.env = (false, eval e X.env) :: starEach es X.env := by rfl) (hpl : (backTo pos (starEach es X.env)).any (·.1) = false := by rfl) : PE X (.Call (.Name x p) (e :: es) [] pos) (tCall sp [] E0 t) := by
  obtain ⟨f, fd, hm, hk, hb, F⟩ := D.ex
  exact pe_call F hr hg hm hk hb .nil pass0 ha hdb he hpl
end
/-! ## what a test or a value is -/
theorem int_inj {i j : Int} (h : i = j) : V.int i = V.int j := by rw [h]
/-! ## the built-ins, not shadowed -/
structure Bl (mg : Str → Option Value) : Prop where
  isinstance : mg "isinstance" = none
  int : mg "int" = none
  bool : mg "bool" = none
  tuple : mg "tuple" = none
  list : mg "list" = none
  str : mg "str" = none
  len : mg "len" = none
  range : mg "range" = none
  enumerate : mg "enumerate" = none
  sorted : mg "sorted" = none
  set : mg "set" = none
  sum : mg "sum" = none
  max : mg "max" = none
  abs : mg "abs" = none
  zip : mg "zip" = none
  min : mg "min" = none
end HSP
namespace HSP
open PySem PySem.Spec PyProof.Rows L2
def topS (i : Nat) : Stmt := PySem.Challenge.pw_halfsearch_k10_patterns_checked.main.body.getD i (.Pass ⟨0, 0, 0, 0⟩)
abbrev s_is_tree : Stmt := topS 4
abbrev p_is_tree : List Str := ["thing"]
abbrev n_is_tree : List Str := ["thing", "waiting", "part"]
abbrev s_count_nodes : Stmt := topS 5
abbrev p_count_nodes : List Str := ["tree"]
abbrev n_count_nodes : List Str := ["tree", "many", "waiting", "part"]
abbrev s_walk : Stmt := topS 6
abbrev p_walk : List Str := ["tree"]
abbrev n_walk : List Str := ["tree", "rows", "waiting", "part", "first", "above", "left", "right", "node"]
abbrev s_check_tree : Stmt := topS 7
abbrev p_check_tree : List Str := ["tree"]
abbrev n_check_tree : List Str := ["tree"]
abbrev s_killer_of : Stmt := topS 9
abbrev p_killer_of : List Str := ["pattern", "above"]
abbrev n_killer_of : List Str := ["pattern", "above", "ancestor", "side"]
abbrev s_bound_of : Stmt := topS 10
abbrev p_bound_of : List Str := ["pattern", "above", "side"]
abbrev n_bound_of : List Str := ["pattern", "above", "side", "nearest", "ancestor", "turned"]
abbrev s_is_possible : Stmt := topS 11
abbrev p_is_possible : List Str := ["pattern", "node", "above"]
abbrev n_is_possible : List Str := ["pattern", "node", "above", "label"]
abbrev s_impossible_node : Stmt := topS 12
abbrev p_impossible_node : List Str := ["tree", "pattern"]
abbrev n_impossible_node : List Str := ["tree", "pattern", "node", "above"]
abbrev s_check_strings : Stmt := topS 13
abbrev p_check_strings : List Str := ["tree", "pattern"]
abbrev n_check_strings : List Str := ["tree", "pattern", "label"]
abbrev s_check_pattern : Stmt := topS 14
abbrev p_check_pattern : List Str := ["tree", "pattern"]
abbrev n_check_pattern : List Str := ["tree", "pattern", "node"]
abbrev s_law_draws : Stmt := topS 16
abbrev p_law_draws : List Str := ["cell"]
abbrev n_law_draws : List Str := ["cell"]
abbrev s_law_next : Stmt := topS 17
abbrev p_law_next : List Str := ["draws"]
abbrev n_law_next : List Str := ["draws", "k", "number"]
abbrev s_law_size : Stmt := topS 18
abbrev p_law_size : List Str := ["a_tree"]
abbrev n_law_size : List Str := ["a_tree"]
abbrev s_law_tree : Stmt := topS 19
abbrev p_law_tree : List Str := ["draws", "room"]
abbrev n_law_tree : List Str := ["draws", "room", "at"]
abbrev s_law_way : Stmt := topS 20
abbrev p_law_way : List Str := ["a_tree", "node"]
abbrev n_law_way : List Str := ["a_tree", "node", "told", "first", "here"]
abbrev s_law_nodes : Stmt := topS 21
abbrev p_law_nodes : List Str := ["a_tree", "first"]
abbrev n_law_nodes : List Str := ["a_tree", "first", "node"]
abbrev s_law_may : Stmt := topS 22
abbrev p_law_may : List Str := ["a_tree", "a_pattern", "node"]
abbrev n_law_may : List Str := ["a_tree", "a_pattern", "node", "above", "dead", "low", "high", "ancestor", "side"]
abbrev s_law_due : Stmt := topS 23
abbrev p_law_due : List Str := ["a_tree", "a_pattern"]
abbrev n_law_due : List Str := ["a_tree", "a_pattern", "node", "label"]
abbrev s_law_told : Stmt := topS 24
abbrev p_law_told : List Str := ["a_tree", "a_pattern"]
abbrev n_law_told : List Str := ["a_tree", "a_pattern", "kept", "told", "e"]
abbrev s_law_drawn : Stmt := topS 25
abbrev p_law_drawn : List Str := ["draws", "a_tree"]
abbrev n_law_drawn : List Str := ["draws", "a_tree", "told", "node", "some"]
abbrev s_law_right : Stmt := topS 26
abbrev p_law_right : List Str := ["draws"]
abbrev n_law_right : List Str := ["draws", "a_tree", "a_pattern", "k", "odd", "kept", "other"]
abbrev s_law : Stmt := topS 27
abbrev p_law : List Str := ["script"]
abbrev n_law : List Str := ["script", "cell", "draws", "turn"]
end HSP
namespace HSP
open PySem PySem.Spec PyProof.Rows L2
section
variable {P : Program} {w : World} {K : PySem.W.Frag} {mg : Str → Option Value} {base : Heap}
/-! ### count_nodes -/
/-- what waits: trees of together n nodes -/
inductive Waits (H : Hp) : List V → List Tr → Prop
  | nil : Waits H [] []
  | cons {v : V} {t : Tr} {vs : List V} {ts : List Tr} : TrAt H v t → Waits H vs ts → Waits H (v :: vs) (t :: ts)
theorem Waits.len {H : Hp} {vs : List V} {ts : List Tr} (h : Waits H vs ts) : vs.length = ts.length := by
  induction h with
  | nil => rfl
  | cons _ _ ih => rw [List.length_cons, List.length_cons, ih]
def sizes : List Tr → Nat
  | [] => 0
  | t :: r => t.size + sizes r
def turns : List Tr → Nat
  | [] => 0
  | t :: r => 2 * t.size + 1 + turns r
/-- the list on which they wait, the last one first -/
theorem last_rev {v : V} {vs : List V} : (v :: vs).reverse[(v :: vs).reverse.length - 1]? = some v := by
  rw [List.reverse_cons, List.length_append, List.length_singleton, Nat.add_sub_cancel, List.getElem?_append_right (Nat.le_refl _), Nat.sub_self]
  all_goals rfl
theorem drop_rev {v : V} {vs : List V} : (v :: vs).reverse.dropLast = vs.reverse := by
  rw [List.reverse_cons, List.dropLast_concat]
theorem rev_push {v : V} {vs : List V} : vs.reverse ++ [v] = (v :: vs).reverse := by rw [List.reverse_cons]
theorem rev_empty {vs : List V} : (!vs.reverse.isEmpty) = !vs.isEmpty := by
  cases vs with
  | nil => rfl
  | cons v r =>
    rw [List.reverse_cons]
    cases r.reverse <;> rfl
def spCount : Sp := fun vs H Q _ => ∃ (v : V) (t : Tr), vs = [v] ∧ TrAt H v t ∧ t.size ≤ 1000 ∧ ∀ H', Same H H' → Q (.int t.size) H'
theorem sc_count : FnScope n_count_nodes ["tree"] (defScope s_count_nodes) := ⟨rfl, rfl, rfl, by decide +kernel, rfl, by decide +kernel, by decide +kernel⟩
theorem ok_count (a : At K mg "count_nodes" s_count_nodes) : Df P w K mg base "count_nodes" 1 ["tree"] spCount := by
  refine Df.mk' a sc_count (fun vs H Q E h => ?_) (fun _ _ _ _ _ _ us hl => match us, hl with | [_], _ => rfl) (fun f cdv A outer s H vs Q E hr h => ?_)
  · obtain ⟨v, t, rfl, _⟩ := h
    rfl
  obtain ⟨v, t, rfl, ht, hz, q⟩ := h
  refine ⟨_, pss_cons (ps_set (i := 1) sc_count.nd rfl (.inl rfl) pe_int)
    (pss_cons (ps_set (i := 2) sc_count.nd rfl (.inl rfl) (pe_lst (pa_cons (pv 0) pa_nil)))
    (pss_cons (ps_while PassesOwn.never (pt_truth (pv 2) (by intro _; rfl))
      (pss_cons (ps_set (i := 3) sc_count.nd rfl (.inl rfl) (pe_bm0 PySem.F.plainAttrs_list PySem.F.slot_list_pop PySem.F.type_list_pop mt_pop (pv 2)))
      (pss_one (ps_if (pt_cmpR op_notN (pv 3) pe_non (nomark _))
        (pss_cons (ps_aug (i := 1) sc_count.nd rfl (.inl rfl) pe_int ip_add)
        (pss_cons (ps_expr (pe_bm PySem.F.plainAttrs_list PySem.F.slot_list_append PySem.F.type_list_append mt_append (pv 2) (pa_cons (pe_ix ix_tup (pv 3) pe_int (fun _ _ => rfl)) pa_nil)))
        (pss_one (ps_expr (pe_bm PySem.F.plainAttrs_list PySem.F.slot_list_append PySem.F.type_list_append mt_append (pv 2) (pa_cons (pe_ix ix_tup (pv 3) pe_int (fun _ _ => rfl)) pa_nil)))))) pss_nil))))
    (pss_one (ps_ret (pv 1))))), ?_⟩
  refine ⟨v, rfl, (by show 1 ≤ sizeLine; decide), fun l hl => ?_⟩
  have s0 : Same H (upd H l (.lst [v])) := Same.new hl
  refine ⟨fun m σ H1 => ∃ (vs : List V) (ts : List Tr) (n : Nat) (y : Option V), σ = [some v, some (.int n), some (.ref l), y] ∧ Same H H1 ∧ H1 l = some (.lst vs.reverse) ∧ Waits H vs ts ∧ n + sizes ts = t.size ∧ vs.length ≤ n + 1 ∧ m = turns ts,
    ⟨_, [v], [t], 0, none, rfl, s0, upd_same, .cons ht .nil, by show 0 + (t.size + 0) = t.size; omega, by show 1 ≤ 0 + 1; omega, rfl⟩, fun m σ H1 hW => ?_⟩
  obtain ⟨vs, ts, n, y, rfl, sm, el, hw, hn, hlen, rfl⟩ := hW
  refine ⟨.ref l, rfl, !vs.reverse.isEmpty, .inl ⟨_, .of el, rfl⟩, ?_⟩
  rw [rev_empty]
  cases hw with
  | nil =>
    refine iteF ?_
    exact ⟨_, rfl, by rw [show ((n : Nat) : Int) = ((t.size : Nat) : Int) from congrArg _ hn]; exact q _ sm⟩
  | @cons x u xs us hx hxs =>
    refine iteT ⟨fun σ' H' => ∃ m', m' < turns (u :: us) ∧ ∃ (vs : List V) (ts : List Tr) (n : Nat) (y : Option V), σ' = [some v, some (.int n), some (.ref l), y] ∧ Same H H' ∧ H' l = some (.lst vs.reverse) ∧ Waits H vs ts ∧ n + sizes ts = t.size ∧ vs.length ≤ n + 1 ∧ m' = turns ts,
      fun σ' H' hN => hN, ?_⟩
    refine ⟨.ref l, rfl, .inl ⟨rfl, _, .of el⟩, l, _, x, rfl, rfl, el, last_rev, ?_⟩
    rw [drop_rev]
    have sm2 : Same H (upd H1 l (.lst xs.reverse)) := fun b o e => by rw [upd_ne (ne_of_none e hl)]; exact sm b o e
    refine ⟨x, rfl, rfl, _, rfl, ?_⟩
    cases hx with
    | nil =>
      refine iteF ?_
      refine ⟨_, ?_, xs, us, n, _, rfl, sm2, upd_same, hxs, ?_, ?_, rfl⟩
      · show turns us < 2 * 0 + 1 + turns us; omega
      · have : 0 + sizes us = sizes (Tr.nil :: us) := rfl
        omega
      · rw [List.length_cons] at hlen; omega
    | @nod a x1 y1 l1 r1 ea hl1 hr1 =>
      refine iteT ?_
      refine ⟨_, rfl, _, _, rfl, rfl, ?_⟩
      have e2 : (upd H1 l (.lst xs.reverse)) a = some (.tup [x1, y1]) := sm2 _ _ ea
      refine ⟨_, rfl, .inl ⟨rfl, _, .of upd_same⟩, _, rfl, a, _, _, y1, rfl, rfl, .of e2, atI_nat (j := 1) rfl, l, _, _, rfl, rfl, upd_same, ?_, ?_⟩
      · rw [List.length_reverse]
        rw [List.length_cons] at hlen
        exact small1000 (by omega)
      refine ⟨_, rfl, .inl ⟨rfl, _, .of upd_same⟩, _, rfl, a, _, _, x1, rfl, rfl, .of (by rw [upd_ne (ne_of_none ea hl)]; exact e2), atI_nat (xs := [x1, y1]) (j := 0) rfl, l, _, _, rfl, rfl, upd_same, ?_, ?_⟩
      · rw [List.length_append, List.length_reverse, List.length_singleton]
        rw [List.length_cons] at hlen
        have e1 : sizes (Tr.nod l1 r1 :: us) = (l1.size + 1 + r1.size) + sizes us := rfl
        exact small1000 (by omega)
      rw [rev_push, rev_push]
      refine ⟨_, ?_, x1 :: y1 :: xs, l1 :: r1 :: us, n + 1, _, rfl, fun b o e => ?_, upd_same, .cons hl1 (.cons hr1 hxs), ?_, ?_, rfl⟩
      · show 2 * l1.size + 1 + (2 * r1.size + 1 + turns us) < 2 * (l1.size + 1 + r1.size) + 1 + turns us
        omega
      · rw [upd_ne (ne_of_none e hl), upd_ne (ne_of_none e hl)]
        exact sm2 b o e
      · have e1 : sizes (Tr.nod l1 r1 :: us) = (l1.size + 1 + r1.size) + sizes us := rfl
        show n + 1 + (l1.size + (r1.size + sizes us)) = t.size
        omega
      · rw [List.length_cons] at hlen
        show xs.length + 1 + 1 ≤ n + 1 + 1
        omega
end
end HSP
namespace HSP
open PySem PySem.Spec PyProof.Rows L2
theorem Paired.app {α β : Type} {R : α → β → Prop} : ∀ {l : List α} {m : List β} {l' : List α} {m' : List β}, Paired R l m → Paired R l' m' → Paired R (l ++ l') (m ++ m')
  | _, _, _, _, .nil, h => h
  | _, _, _, _, .cons a t, h => .cons a (Paired.app t h)
theorem ixN_in {n : Nat} {i : Int} (h0 : 0 ≤ i) (h1 : i < (n : Int)) : ixN n i = some i.toNat := by
  unfold ixN
  rw [if_pos h0, if_pos h1]
def valAt (ns : List Int) (i : Nat) : Int := ns.getD i 0
theorem valAt_get {ns : List Int} {i : Nat} (h : i < ns.length) : (ns.map V.int)[i]? = some (.int (valAt ns i)) := by
  rw [List.getElem?_map, List.getElem?_eq_getElem h, valAt, List.getD_eq_getElem?_getD, List.getElem?_eq_getElem h]
  rfl
def natV (n : Nat) : V := .int (n : Int)
theorem ite_no {c A B : Prop} [Decidable c] (h : ¬ c) (b : B) : if decide c = true then A else B := by
  rw [decide_eq_false h]
  exact iteF b
theorem ite_yes {c A B : Prop} [Decidable c] (h : c) (a : A) : if decide c = true then A else B := by
  rw [decide_eq_true h]
  exact iteT a
inductive Md where
  | fin | lft | rgt
def Md.str : Md → Str
  | .fin => "end"
  | .lft => "left"
  | .rgt => "right"
/-- where a search goes on -/
def wayOf (tw v : Int) (m : Md) : Md := if tw = 2 * v then m else if tw < 2 * v then .lft else .rgt
/-! ### the search, as a function of the tree -/
/-- how it ends: is it found, and the node or the gap -/
def sEnd (g : Nat → Int) (tw : Int) (m : Md) : Tr → Nat → Bool × Nat
  | .nil, f => (false, f)
  | .nod l r, f => match wayOf tw (g (f + l.size)) m with
    | .fin => (true, f + l.size)
    | .lft => sEnd g tw m l f
    | .rgt => sEnd g tw m r (f + l.size + 1)
theorem sEnd_nod (g : Nat → Int) (tw : Int) (m : Md) (l r : Tr) (f : Nat) : sEnd g tw m (.nod l r) f = match wayOf tw (g (f + l.size)) m with | .fin => (true, f + l.size) | .lft => sEnd g tw m l f | .rgt => sEnd g tw m r (f + l.size + 1) := rfl
/-- the nodes at which it is -/
def sPath (g : Nat → Int) (tw : Int) (m : Md) : Tr → Nat → List Nat
  | .nil, _ => []
  | .nod l r, f => (f + l.size) :: match wayOf tw (g (f + l.size)) m with
    | .fin => []
    | .lft => sPath g tw m l f
    | .rgt => sPath g tw m r (f + l.size + 1)
theorem sPath_in (g : Nat → Int) (tw : Int) (m : Md) : ∀ (t : Tr) (f i : Nat), i ∈ sPath g tw m t f → f ≤ i ∧ i < f + t.size
  | .nil, _, _, h => by cases h
  | .nod l r, f, i, h => by
    have e : sPath g tw m (.nod l r) f = (f + l.size) :: match wayOf tw (g (f + l.size)) m with | .fin => [] | .lft => sPath g tw m l f | .rgt => sPath g tw m r (f + l.size + 1) := rfl
    have z : (Tr.nod l r).size = l.size + 1 + r.size := rfl
    rw [e] at h
    rw [z]
    rcases List.mem_cons.mp h with q | q
    · omega
    · cases w : wayOf tw (g (f + l.size)) m with
      | fin => rw [w] at q; cases q
      | lft =>
        rw [w] at q
        have := sPath_in g tw m l f i q
        omega
      | rgt =>
        rw [w] at q
        have := sPath_in g tw m r (f + l.size + 1) i q
        omega
theorem sPath_len (g : Nat → Int) (tw : Int) (m : Md) : ∀ (t : Tr) (f : Nat), (sPath g tw m t f).length ≤ t.size
  | .nil, _ => Nat.le_refl _
  | .nod l r, f => by
    have e : sPath g tw m (.nod l r) f = (f + l.size) :: match wayOf tw (g (f + l.size)) m with | .fin => [] | .lft => sPath g tw m l f | .rgt => sPath g tw m r (f + l.size + 1) := rfl
    have z : (Tr.nod l r).size = l.size + 1 + r.size := rfl
    rw [e, z, List.length_cons]
    cases wayOf tw (g (f + l.size)) m with
    | fin => show 0 + 1 ≤ _; omega
    | lft => have := sPath_len g tw m l f; show (sPath g tw m l f).length + 1 ≤ _; omega
    | rgt => have := sPath_len g tw m r (f + l.size + 1); show (sPath g tw m r (f + l.size + 1)).length + 1 ≤ _; omega
def optNV : Option Nat → V
  | none => .non
  | some n => natV n
def kindV (b : Bool) : V := if b = true then .str "found" else .str "gap"
end HSP
set_option maxHeartbeats 2000000
namespace HSP
open PySem PySem.Spec PyProof.Rows L2
/-! ### try: body, except (A, B) as n: suite -/
section
variable {X : Cx}
/-- a class's name is read, the state stays -/
theorem ld_name {x : Str} {c : Value} {pins : List (Addr × Obj)} {s : Shared} {σ : L2.St} {H : Hp} {q0 : Pos} {Q : Value → Shared → Prop} {E : Value → Shared → Prop} (hc : Names X x c) (I : Inv X pins σ H s) (q : Q c s) : wpAny (model X.prog X.w) X.A (eval (.Name x q0) X.env) Q E s := by
  obtain ⟨g, nd, m | ⟨m, v, n⟩⟩ := hc
  · exact ld_glob I g m q nd
  · exact ld_blt I g m v q n nd
/-- (A, B) is made anew, the heap grows by it alone -/
theorem ld_pair {x1 x2 : Str} {c1 c2 : Value} {pins : List (Addr × Obj)} {s : Shared} {σ : L2.St} {H : Hp} {p1 p2 p3 : Pos} {kk : Nat} {Q : Value → Shared → Prop} {E : Value → Shared → Prop} (h1 : Names X x1 c1) (h2 : Names X x2 c2) (I : Inv X pins σ H s)
    (q : Q (.ref s.heap.objs.size) { s with heap := s.heap.push { cls := .type "tuple", data := .seq [c1, c2].toArray } }) : wpAny (model X.prog X.w) X.A (eval (.Tuple [.Name x1 p1, .Name x2 p2] kk p3) X.env) Q E s := by
  refine wpAny_Tuple_spliced ?_
  show wpAny _ _ (spliced ((false, eval (.Name x1 p1) X.env) :: backTo p3 (starEach [.Name x2 p2] X.env))) _ _ s
  refine Calls.spliced_cons (ld_name h1 I ?_)
  show wpAny _ _ (spliced ((false, eval (.Name x2 p2) X.env) :: backTo p3 (starEach [] X.env))) _ _ s
  refine Calls.spliced_cons (ld_name h2 I ?_)
  exact Calls.spliced_nil ⟨(by show 2 ≤ sizeLine; decide), q⟩
theorem flying_push {B : Heap} {l : List Env} {e : Addr} {Z : Obj → Prop} {h : Heap} (o : Obj) (f : HandSPX.FlyingZ B l e Z h) : HandSPX.FlyingZ B l e Z (h.push o) := by
  obtain ⟨f1, f2, f3, oe, vs, T, oT, ts, g1, g2, g3, g4, g5, g6, g7, g8, g9⟩ := f
  exact ⟨fun b u z => Heap.get?_push_of_some _ (f1 b u z), f2, Heap.FunFrames.of_keeps (fun b u z _ => ⟨u, Heap.get?_push_of_some _ z, rfl⟩) f3, oe, vs, T, oT, ts, Heap.get?_push_of_some _ g1, g2, g3, g4, g5, g6, Heap.get?_push_of_some _ g7, g8, g9⟩
end
/-- a caught exception that is kept: its class, its dict -/
def exK (cls : Value) (d : Option Addr) (e : Addr) : HO := .ext fun h => ∃ (o : Obj) (vs : Array Value), h.get? e = some o ∧ Zc cls d o ∧ o.data = .fields vs
theorem exK_ok {P : Program} {w : World} {H : Hp} {h : Heap} {e : Addr} {cls : Value} {d : Option Addr} {o : Obj} {vs : Array Value} (g : h.get? e = some o) (z : Zc cls d o) (f : o.data = .fields vs) : ObjOk P w H h e (exK cls d e) :=
  ⟨⟨o, vs, g, z, f⟩, ⟨o, g⟩, fun h1 h2 q same => by
    obtain ⟨o1, v1, g1, z1, f1⟩ := q
    exact ⟨o1, v1, same o1 g1, z1, f1⟩⟩
theorem exK_at {P : Program} {w : World} {H : Hp} {h : Heap} {e : Addr} {cls : Value} {d : Option Addr} (ok : HOk P w H h) (q : H e = some (exK cls d e)) : ∃ (o : Obj) (vs : Array Value), h.get? e = some o ∧ Zc cls d o ∧ o.data = .fields vs := (ok e _ q).1
/-- what the clause wishes, the exception kept in the heap -/
def wKeep2 (K : PySem.W.Frag) (c1 c2 : Value) (i : Nat) (ts : Addr → TS) (Wo : WX) (D : Ends) : WX := fun cls d σ H =>
  ∃ b, PySem.W.exmAny K cls [c1, c2] = some b ∧
    (b = true → ∀ a, H a = none → ts a ⟨fun τ G => D.nx (τ.set i none) G, D.rt, fun τ G => D.bk (τ.set i none) G, fun τ G => D.ct (τ.set i none) G⟩ (σ.set i (some (.ref a))) (upd H a (exK cls d a))) ∧ (b = false → Wo cls d σ H)
section
variable {X : Cx} {pins : List (Addr × Obj)} {σ : L2.St} {H : Hp} {s s' sI : Shared} {B : Heap}
theorem _root_.L2.Inv.bareSuite (I : L2.Inv X pins σ H s) (e : Addr) : L2.Inv (X.suite e (X.pn ++ pins)) [] σ H s :=
  ⟨I.ok.suite _ _, I.os, I.bare, I.base, I.loc, I.cell, I.free, I.freeC, fun p hp => I.pin p (by rw [List.append_nil] at hp; exact hp), I.hok, I.len⟩
theorem _root_.L2.Inv.offSuite {e : Addr} {pn' : List (Addr × Obj)} (I : L2.Inv (X.suite e (X.pn ++ pins)) pn' σ H s) (ok : X.Ok) : L2.Inv X pins σ H s :=
  ⟨ok, I.os, I.bare, I.base, I.loc, I.cell, I.free, I.freeC, fun p hp => I.pin p (List.mem_append_left _ hp), I.hok, I.len⟩
/-- back on the ground, and the exception is of our heap -/
theorem _root_.L2.Inv.keptNew {e : Addr} {o : HO} (I : L2.Inv X pins σ H sI) (nb : ∀ b u, sI.heap.get? b = some u → b ∉ frs X.stack → B.get? b = some u) (st : B.StaysIn s'.heap) (up : sI.heap.UpToSlots s'.heap) (os : s'.os = sI.os) (ag : AllBare s'.gens)
    (new : sI.heap.get? e = none) (ne : H e = none) (k : ObjOk X.prog X.w (upd H e o) s'.heap e o) : L2.Inv X pins σ (upd H e o) s' := by
  have frame : ∀ b ∈ frs X.stack, ∀ u, sI.heap.get? b = some u → ∃ sl, s'.heap.get? b = some { u with slots := sl } := fun b m u g => by
    obtain ⟨_, u', g', plain⟩ := I.stack.mem m
    rw [g] at g'
    cases g'
    exact up b u g plain
  have other : ∀ b u, sI.heap.get? b = some u → b ≠ e := fun b u g z => by rw [z, new] at g; cases g
  have was : HOk X.prog X.w H s'.heap := (I.inGround nb).kept st
  have J := I.call (ch := []) (h' := s'.heap) (g' := s'.gens) (t' := s'.toks) (d' := s'.drawn) (H' := upd H e o)
    ⟨fun b u g _ m _ => st b u (nb b u g m), fun b u g _ m _ => frame b m u g, fun b u g n _ => by rw [upd_ne (other b u g)]; exact n, fun b u g _ => by
      by_cases m : b ∈ frs X.stack
      · exact ⟨_, (frame b m u g).choose_spec⟩
      · exact ⟨u, st b u (nb b u g m)⟩, fun b xs q => by rw [upd_ne (ne_of_none q ne)]; exact q, fun b u xs q => by rw [upd_ne (ne_of_none q ne)]; exact q, fun b ps q => ⟨#[], by rw [upd_ne (ne_of_none q ne), q]; simp⟩⟩
    (was.laidN (fun _ _ q => q) ne k) ag (fun _ z => nomatch z)
  obtain ⟨a1, a2, a3, a4, a5⟩ := s'
  have e5 : a5 = sI.os := os
  subst e5
  exact J
end
section
variable {X : Cx}
variable {x1 x2 n : Str} {c1 c2 : Value} {i kk : Nat} {body suite : List Stmt} {b₀ : Stmt} {p1 p2 p3 pos pos' : Pos} {tb : WX → TS} {ts : Addr → TS} {Wo : WX}
theorem ps_try_keep2 (stk : X.stack = X.env :: X.outer) (fr : X.env.frame = some X.env.locals) (nod : X.N.Nodup) (at_i : X.N[i]? = some n) (lc : X.env.kindOf n = some .local) (nm1 : Names X x1 c1) (nm2 : Names X x2 c2) (out : Takes X Wo)
    (does : ∀ (W : WX) (pn : List (Addr × Obj)) (xe : Value → Shared → Prop), Takes (X.tr pn xe) W → PassesOwn (model X.prog X.w) X.A X.env xe → PSs (X.tr pn xe) body (tb W))
    (then_ : ∀ (e : Addr) (pn : List (Addr × Obj)), PSs (X.suite e pn) (b₀ :: suite) (ts e)) :
    PS X (.Try body [.ExceptHandler (some (.Tuple [.Name x1 p1, .Name x2 p2] kk p3)) (some n) (b₀ :: suite) pos'] [] [] pos) (fun D σ H => tb (wKeep2 X.K c1 c2 i ts Wo D) D σ H) := by
  refine ⟨fun pins s σ H D I rd => ?_⟩
  have okX := I.ok
  have frs0 : X.A.frames = some (X.env :: X.outer) := okX.frames.trans (congrArg some stk)
  refine wpAny_Try_except ?_
  have run := (does (wKeep2 X.K c1 c2 i ts Wo D) (X.pn ++ pins) (fun v z => wpAny (model X.prog X.w) X.A (noteFrame v X.env) (fun _ z2 => wpAny (model X.prog X.w) X.A (setFlight v none) (fun _ z3 =>
    wpAny (model X.prog X.w) X.A (handleBy v X.env [.ExceptHandler (some (.Tuple [.Name x1 p1, .Name x2 p2] kk p3)) (some n) (b₀ :: suite) pos']) (SP X pins D) X.xe z3) X.xe z2) X.xe z)
    (fun u z flown => ?caught) PassesOwn.looking).run [] s σ H D (I.toTry _) rd
  case caught =>
    obtain ⟨e, B, z0, pins', τ, G, cls, d, rfl, J0, nb, up0, sky0, ne, os0, bare0, b, hit, yes, no⟩ := flown
    have J := J0.ofTry okX
    rw [show (X.tr (X.pn ++ pins) _).stack = X.env :: X.outer from stk] at sky0
    refine Sky.land Zc.steady frs0 fr sky0 fun g fl upg => ?_
    have Jg := J.landed (s' := { z with heap := g }) nb fl.1 (up0.trans upg) os0 bare0
    obtain ⟨o3, v3, got3, z3, dat3⟩ := fl.there
    have off : ∀ {h : Heap} {o : Obj} {vs : Array Value}, h.FunFrames B (X.env :: X.outer) → h.get? e = some o → o.data = .fields vs → ¬ e ∈ frs (X.env :: X.outer) := fun {h o vs} ff ge dd m => by
      obtain ⟨_, o', ge', bad⟩ := ff.mem m
      rw [ge] at ge'
      cases ge'
      exact bad vs dd
    have none_of := off fl.2.2.1 got3 dat3
    have n1 : e ≠ X.env.locals := fun z => none_of (List.mem_filterMap.mpr ⟨X.env, List.mem_cons_self, fr.trans (congrArg some z.symm)⟩)
    have n2 : e ∉ X.fs := fun m => by
      obtain ⟨y, my, ey⟩ := List.mem_filterMap.mp m
      exact none_of (List.mem_filterMap.mpr ⟨y, List.mem_cons_of_mem _ my, ey⟩)
    have Sg := Jg.suite got3 dat3 ne n1 n2
    refine wpAny_handleBy_cons (codeAny_handlers_test ?_) (fun q => by cases q)
    refine ld_pair (X := X.suite e ((e, o3) :: (X.pn ++ pins))) nm1 nm2 Sg ?_
    have keeps : ∀ b o, g.get? b = some o → (g.push { cls := .type "tuple", data := .seq [c1, c2].toArray }).get? b = some o := fun b o q => Heap.get?_push_of_some _ q
    have fl' := flying_push { cls := .type "tuple", data := .seq [c1, c2].toArray } fl
    have upg' : z.heap.UpToSlots (g.push { cls := .type "tuple", data := .seq [c1, c2].toArray }) := upg.trans (fun b o q _ => ⟨o.slots, keeps b o q⟩)
    have looks : PySem.W.Looks (model X.prog X.w) (g.push { cls := .type "tuple", data := .seq [c1, c2].toArray }) (typeOf (.ref e)) cls := fun _ _ _ _ k q => wpAny_typeOf_ref (k _ _ (keeps _ _ got3)) (by rw [z3.1]; exact q)
    have hits := PySem.W.exm_tup2 (M := model X.prog X.w) (Jg.kIn.keeps keeps) looks (Heap.get?_push_size _ rfl) hit
    refine hits.here ?_
    generalize g.push { cls := .type "tuple", data := .seq [c1, c2].toArray } = g' at keeps fl' upg' hits ⊢
    cases b with
    | true =>
      refine codeAny_handlers_suite_as ?_
      refine HandSPX.lands_againZ fl' fun g4 fl4 up4 => ?_
      have J4 := J.landed (s' := { z with heap := g4 }) nb fl4.1 ((up0.trans upg').trans up4) os0 bare0
      obtain ⟨o4, v4, got4, z4, dat4⟩ := fl4.there
      have new0 : z0.heap.get? e = none := by
        cases q : z0.heap.get? e with
        | none => rfl
        | some o =>
          have := nb e o q (by rw [show (X.tr (X.pn ++ pins) _).stack = X.env :: X.outer from stk]; exact none_of)
          rw [fl.2.1] at this
          cases this
      have K4 := J.keptNew (s' := { z with heap := g4 }) nb fl4.1 ((up0.trans upg').trans up4) os0 bare0 new0 ne (exK_ok got4 z4 dat4)
      have S4 := K4.bareSuite e
      refine store_ok (X := X.suite e (X.pn ++ pins)) (v := .ref e) S4 nod at_i (.inl lc) rfl (fun z5 S5 => ?_) (.inr lc)
      refine wpAny_mono ((then_ e (X.pn ++ pins)).run [] z5 _ (upd G e (exK cls d e)) _ S5 (yes rfl e ne)) (fun fw z6 fin => ?_) (fun _ _ q => q.elim)
      have over : ∀ {τ6 : L2.St} {G6 : Hp} {Q : Shared → Prop}, L2.Inv (X.suite e (X.pn ++ pins)) [] τ6 G6 z6 → (∀ z7, L2.Inv X pins (τ6.set i none) G6 z7 → Q z7) → wpAny (model X.prog X.w) X.A (do bindName X.env n .none; unbindBehindTheSuite X.env n pos') (fun _ z7 => Q z7) X.xe z6 :=
        fun {τ6 G6 Q} S6 q => gone_ok (S6.offSuite okX) nod at_i lc q
      cases fw with
      | ret u =>
        obtain ⟨v6, τ6, G6, S6, r6, q6⟩ := fin
        exact over S6 fun z7 J7 => ⟨_, _, _, J7, r6, q6⟩
      | _ =>
        obtain ⟨τ6, G6, S6, q6⟩ := fin
        exact over S6 fun z7 J7 => ⟨_, _, J7, q6⟩
    | false =>
      show wpAny _ X.A (handleBy (.ref e) X.env []) _ _ _
      refine wpAny_handleBy_nil ?_
      obtain ⟨_, _, _, o5, v5, T, oT, w5, got5, _, dat5, tr5, _⟩ := id fl'
      unfold PySem.passOn
      refine wpAny_bind (wpAny_field got5 dat5 tr5 ?_)
      rw [if_neg (by simp : ¬ ((Value.ref T == Value.none) = true))]
      have flies : wpAny (model X.prog X.w) X.A (setFlight (.ref e) X.env.frame) (fun _ z4 => wpAny (model X.prog X.w) X.A (throw (.ref e) : Sem Flow) (SP X pins D) X.xe z4) X.xe { z with heap := g' } := by
        rw [fr]
        exact HandSPX.setFlight_upZ fl' fun g4 held up4 => wpAny_throw (out _ _ ⟨e, B, z0, pins, τ, G, cls, d, rfl, J, nb, (up0.trans upg').trans up4, .inr (.inr (by rw [stk]; exact held)), ne, os0, bare0, no rfl⟩)
      first
        | exact wpAny_bind (wpAny_pure (wpAny_bind flies))
        | exact wpAny_bind flies
  refine wpAny_mono run (fun fw z6 fin => ?_) (fun v z6 q => q)
  cases fw with
  | next =>
    obtain ⟨τ, G, J, q⟩ := fin
    exact wpAny_execs_nil ⟨τ, G, J.ofTry okX, q⟩
  | ret u =>
    obtain ⟨v, τ, G, J, r, q⟩ := fin
    exact ⟨v, τ, G, J.ofTry okX, r, q⟩
  | _ =>
    obtain ⟨τ, G, J, q⟩ := fin
    exact ⟨τ, G, J.ofTry okX, q⟩
end
end HSP
set_option maxHeartbeats 2000000
namespace HSP
open PySem PySem.Spec PyProof.Rows L2
/-! ### a kept exception: its fields, its class -/
/-! the class of an exception that has its dict -/
section
open PySem.W PySem.Calls
variable {prog : Program} {w : World} {A : Around} {E : Value → Shared → Prop} {z : Shared} {K : Frag} {x D : Addr} {o : Obj} {od : Option Obj}
theorem found_class (C : ExcC K D) : findObj K D od "__class__" = some (.bind (.builtin "getset_descriptor.__get__") (.builtin "object.__class__")) := by
  obtain ⟨cd, hc, _⟩ := any_some C.hd
  unfold findObj
  rw [hc, Option.bind_some, C.ha, Option.bind_some]
  dsimp only
  rw [C.hn, Option.bind_some]
  dsimp only
  rw [C.ht, Option.bind_some]
theorem asked_class {Q : Option Value → Shared → Prop} (C : ExcC K D) (I : K.In z.heap) (J : InstAt z.heap x o D od) (q : Q (some (.ref D)) { z with toks := z.toks + 1 }) : wpAny (model prog w) A (getAttr? (.ref x) "__class__") Q E z := by
  have found := found_class (od := od) C
  obtain ⟨h, gs, dr, tk, os⟩ := z
  have type := J.type (M := model prog w)
  have by1 := looks_findIn (M := model prog w) I C.hg
  have by2 := looks_findIn (M := model prog w) I C.hk
  have by3 := looks_find (M := model prog w) I J found
  have isExc : Looks (model prog w) h (isInstance (.ref x) (.type "BaseException")) true := type.andThen (looks_subIn I C.hs)
  have no1 : (Value.builtin "BaseException.__getattribute__" == Value.builtin "object.__getattribute__") = false := by decide +kernel
  have no2 : (onTheHeap (Value.ref D) && Value.builtin "BaseException.__getattribute__" == Value.builtin "object.__getattribute__") = false := by rw [no1] <;> rfl
  have no3 : (false && onTheHeap (Value.builtin "BaseException.__getattribute__")) = false := rfl
  unfold getAttr? getAttrBy? getAttrBy
  refine wpAny_bind (wpAny_mkText (wpAny_bind (wpAny_attempt (wpAny_holding (wpAny_bind (type.at (wpAny_bind (by1.at ?_))))))))
  show wpAny _ _ (if (onTheHeap (Value.ref D) && Value.builtin "BaseException.__getattribute__" == Value.builtin "object.__getattribute__") = true then _ else _) _ _ _
  rw [no2, if_neg (fun q => nomatch q)]
  unfold getAttrByItsOwn hookBefore
  refine wpAny_bind ?_
  rw [if_pos (by rfl : onTheHeap (Value.ref D) = true)]
  refine by2.at (wpAny_bind (wpAny_attempt (wpAny_holding ?_)))
  unfold callGetattribute
  rw [no3, if_neg (fun q => nomatch q)]
  unfold boundAndCalled
  rw [PySem.F.excAttr_ValueError.ga.bind (Value.ref x)]
  refine wpAny_bind (wpAny_pure (show wpAny _ _ (call (.builtin "BaseException.__getattribute__") [.ref x, .str "__class__" tk]) _ _ _ from wpAny_call (codeAny_call_builtin PySem.F.excAttr_ValueError.ga.plain PySem.F.entry_bexc_ga ?_)))
  have kind := PySem.F.args_bexc_ga (.ref x) (.str "__class__" tk)
  refine @check_slot (model prog w) _ _ ⟨h, gs, dr, tk + 1, os⟩
    "BaseException.__getattribute__" "BaseException"
    "__getattribute__" (.ref x)
    [.str "__class__" tk] [] _ (by decide +kernel) (by decide +kernel)
    isExc kind ?_
  unfold Builtin.«object.__getattribute__»
  refine wpAny_bind (wpAny_of_eq (a := ((Value.ref x : Value), [Value.str "__class__" tk])) (by first | rfl | (simp only [slotArgs]; rfl)) (wpAny_bind (wpAny_pure (wpAny_bind (type.at (wpAny_bind (by3.at ?_)))))))
  show wpAny _ _ (holding [Value.builtin "object.__class__"] (call (.builtin "getset_descriptor.__get__") [.builtin "object.__class__", .ref x, .ref D]) >>= ret) _ _ _
  refine wpAny_bind (wpAny_holding (wpAny_call (class_get (s := ⟨h, gs, dr, tk + 1, os⟩) (ox := o) (od := od) I J C.hm (wpAny_pure ?_))))
  show wpAny _ _ (handedOut (.ref D)) _ _ _
  rw [handedOut_of (v := Value.ref D) rfl]
  first
    | exact wpAny_pure (wpAny_pure q)
    | exact wpAny_pure q
    | exact wpAny_pure (wpAny_bind (wpAny_pure (wpAny_pure q)))
theorem kitK (C : ExcC K D) : KitX K (.ref x) (.ref D) (fun h => InstAt h x o D od) where
  ty := fun _ _ _ J => J.type
  it := fun _ _ I _ => by
    obtain ⟨cd, is, _⟩ := any_some C.hd
    unfold clsIn at is
    split at is
    case h_2 => cases is
    case h_1 there =>
      intro A0 Q0 E0 s0 k q
      unfold isType loadHead
      exact wpAny_bind (wpAny_loadPart (k _ _ (I _ _ there)) (wpAny_pure q))
  ne := (handS_kitx_exc (x := x) (ox := o) C.hg C.hk C.hs C.hd C.ha C.hn C.ht C.hm).ne
  ca := fun I J q => asked_class C I J q
end
section
variable {X : Cx}
/-- e.f of a kept exception of the class C -/
def tXfK (K : PySem.W.Frag) (f : Str) (te : TE) : TE := fun σ H Q => te σ H fun x G => ∃ (e C dd : Addr) (fs : List (Str × V)) (v : V), x = .ref e ∧ G e = some (exK (.ref C) (some dd) e) ∧ XfC K C ∧ PySem.W.findIn K (.ref C) f = some none ∧ G dd = some (.xd fs) ∧ fs.lookup f = some v ∧ Q v G
theorem pe_xfK {b : Expr} {te : TE} {pos : Pos} {f : Str} (hb : PE X b te) (base : attributeBase b f X.env (eval b X.env) = eval b X.env := by rfl) : PE X (.Attribute b f pos) (tXfK X.K f te) := by
  refine ⟨fun pins s σ H Q I rd => ?_⟩
  refine attr_of base (thn (hb.run pins s σ H _ I rd) fun u z got => ?_)
  obtain ⟨x, G, J, ru, e, C, dd, fs, v, rfl, here, T, free, own, has, q⟩ := got
  cases (show u = Value.ref e from ru)
  obtain ⟨o, vs, go, ⟨cl, di⟩, da⟩ := exK_at J.hok here
  obtain ⟨mA, ns, vals⟩ : ObjOk X.prog X.w G z.heap dd (.xd fs) := J.hok dd _ own
  obtain ⟨od, god, look⟩ := lookIn_ns ns
  obtain ⟨y, ey, ry⟩ := RelO.some_of (v := v) (o := mA f) (has ▸ vals f)
  have inst : PySem.W.InstAt z.heap e o C (some od) := ⟨go, cl, by unfold PySem.W.notCls; rw [da] <;> rfl, by rw [di]; exact god⟩
  exact HandSPX.exc_get J.kIn inst T.ga T.gg T.exC (PySem.W.findObj_own T.hdC free rfl ((look f).trans (congrArg some ey))) (handed_of ry) ⟨v, G, J.tok _, ry, q⟩
/-- isinstance(e, c) of a kept exception of the class D; a dict that it has is in our heap -/
def rIsK (K : PySem.W.Frag) : List V → Hp → VK → Prop := fun xs H Q => ∃ (e D : Addr) (c : V) (cv : Value) (b : Bool), xs = [.ref e, c] ∧ (∃ d, H e = some (exK (.ref D) d e) ∧ ∀ dd, d = some dd → ∃ fs, H dd = some (.xd fs)) ∧ ExcC K D ∧ (∀ u, RelV c u → u = cv) ∧ PySem.W.kitOne K (.ref D) cv = some b ∧ Q (.bl b) H
theorem call_isK : CallR X (.builtin "isinstance") (rIsK X.K) := by
  intro pins s σ H xs us Q I r rd
  obtain ⟨e, D, c, cv, b, rfl, ⟨d, here, own⟩, C, only, says, q⟩ := rd
  obtain ⟨u1, u2, rfl, r1, r2⟩ := vals2 r
  cases (show u1 = Value.ref e from r1)
  cases only _ r2
  obtain ⟨o, vs, go, ⟨cl, di⟩, da⟩ := exK_at I.hok here
  obtain ⟨od, inst⟩ : ∃ od, PySem.W.InstAt s.heap e o D od := by
    cases d with
    | none => exact ⟨none, go, cl, by unfold PySem.W.notCls; rw [da] <;> rfl, by rw [di]; trivial⟩
    | some dd =>
      obtain ⟨fs, has⟩ := own dd rfl
      obtain ⟨mA, ns, _⟩ : ObjOk X.prog X.w H s.heap dd (.xd fs) := I.hok dd _ has
      obtain ⟨od, god, _⟩ := lookIn_ns ns
      exact ⟨some od, go, cl, by unfold PySem.W.notCls; rw [da] <;> rfl, by rw [di]; exact god⟩
  exact PySem.W.kia_one (kitK C) I.kIn inst says (fun z => nomatch z) fun tk => ⟨.bl b, H, I.kept (t' := tk) fun _ _ z => z, rfl, q⟩
end
end HSP
namespace HSP
open PySem PySem.Spec PyProof.Rows L2
/-! ## a def that may raise, called by its name -/
structure DfX (P : Program) (w : World) (K : PySem.W.Frag) (mg : Str → Option Value) (base : Heap) (x : Str) (n : Nat) (ps : List Str) (sp : Sp) : Prop where
  ex : ∃ (f : Addr) (fd : FuncData), mg x = some (.ref f) ∧ PySem.W.keepIn K (.ref f) = true ∧ Binds K fd ps [] ∧ FnOk P w K mg base (L2.CX P w) n f fd ps sp
section
variable {P : Program} {w : World} {K : PySem.W.Frag} {mg : Str → Option Value} {base : Heap}
theorem DfX.mk' {x : Str} {st : Stmt} {N ps : List Str} {k : Nat} {sp : Sp} (a : At K mg x st) (S : FnScope N ps (defScope st)) (len : ∀ vs H Q E, sp vs H Q E → vs.length = ps.length)
    (hb : ∀ (kV doc pm : Value) (an : Option Addr) (cdv ct : Value) (us : List Value), us.length = ps.length → bindArgs (PySem.W.fnOf x x (defArgs st) (defBody st) (defScope st) .none kV doc pm an cdv ct) ⟨us, []⟩ = pure (ps.zip us))
    (body : ∀ (f : Addr) (cdv : Value) (A : Around) (outer : List Env) (s : Shared) (H : Hp) (vs : List V) (Q : VK) (E : XK), Room k (A.deeper (envOfC x (defScope st) s.heap.objs.size f cdv)) → sp vs H Q E →
      ∃ t, PSs (cxOf (L2.CX P w) P w K mg base N x (defScope st) f cdv A outer s H E) (defBody st) t ∧ t { nx := fun _ H' => Q .non H', rt := Q } (start N vs) H) : DfX P w K mg base x (k + 1) ps sp := by
  obtain ⟨f, fd, named, F⟩ := a
  exact ⟨f, fd, named, F.kp, F.binds hb, F.okX S len (body f)⟩
theorem DfX.mono {x : Str} {j k : Nat} {ps : List Str} {sp : Sp} (D : DfX P w K mg base x j ps sp) (h : j ≤ k) : DfX P w K mg base x k ps sp := by
  obtain ⟨f, fd, a, b, c, d⟩ := D.ex
  exact ⟨f, fd, a, b, c, d.mono h⟩
end
section
variable {X : Cx} {k : Nat} {ps : List Str} {sp : Sp} {x : Str} {p pos : Pos} {e : Expr} {es : List Expr} {t : TA} {W : WX}
theorem pe_dfX (D : DfX X.prog X.w X.K X.mg X.base x k ps sp) (hr : Room k X.A) (tk : Takes X W) (ha : PA X (e :: es) t) (hg : Gl X x := by rfl) (hdb : (x == ("__debug__" : Str)) = false := by decide)
    (he : starEach (e :: es) X.env = (false, eval e X.env) :: starEach es X.env := by rfl) (hpl : (backTo pos (starEach es X.env)).any (·.1) = false := by rfl) : PE X (.Call (.Name x p) (e :: es) [] pos) (tCallS sp (WE W) t) := by
  obtain ⟨f, fd, named, kept, binds, F⟩ := D.ex
  exact pe_callS F hr hg named kept binds (fun σ => passAt tk σ) ha hdb he hpl
end
end HSP
namespace HSP
open PySem PySem.Spec PyProof.Rows L2
/-! ### is_tree of anything -/
/-- a thing: None; a pair of things; anything else -/
inductive Th where
  | nil
  | bad
  | nod (l r : Th)
def Th.size : Th → Nat
  | .nil => 0
  | .bad => 0
  | .nod l r => l.size + 1 + r.size
def Th.good : Th → Bool
  | .nil => true
  | .bad => false
  | .nod l r => l.good && r.good
def BadV (K : PySem.W.Frag) (H : Hp) (v : V) : Prop := v ≠ .non ∧ ((∃ t, TyX K H v t ∧ PySem.W.kitOne K t (.type "tuple") = some false) ∨ ∃ a xs, v = .ref a ∧ H a = some (.tup xs) ∧ xs.length ≠ 2)
theorem TyX.same {K : PySem.W.Frag} {H H' : Hp} {v : V} {t : Value} (s : Same H H') (h : TyX K H v t) : TyX K H' v t := by
  cases h with
  | base b =>
    refine .base ?_
    cases b with
    | non => exact .non
    | bl x => exact .bl x
    | int x => exact .int x
    | str x => exact .str x
    | flt x => exact .flt x
    | lst e => exact .lst (s _ _ e)
    | frz e => exact .frz (s _ _ e)
    | tup e => exact .tup (s _ _ e)
    | dK e => exact .dK (s _ _ e)
    | dT e => exact .dT (s _ _ e)
    | ins e a b c d f => exact .ins (s _ _ e) a b c d f
  | byt b => exact .byt b
  | set e => exact .set (s _ _ e)
  | kList e c => exact .kList e c
  | kTuple e c => exact .kTuple e c
  | kDict e c => exact .kDict e c
  | fTuple e => exact .fTuple (s _ _ e)
  | fDict e => exact .fDict (s _ _ e)
inductive ThAt (K : PySem.W.Frag) (H : Hp) : V → Th → Prop
  | nil : ThAt K H .non .nil
  | bad {v : V} (b : BadV K H v) : ThAt K H v .bad
  | nod {a : Addr} {x y : V} {l r : Th} : H a = some (.tup [x, y]) → ThAt K H x l → ThAt K H y r → ThAt K H (.ref a) (.nod l r)
inductive WaitT (K : PySem.W.Frag) (H : Hp) : List V → List Th → Prop
  | nil : WaitT K H [] []
  | cons {v : V} {t : Th} {vs : List V} {ts : List Th} : ThAt K H v t → WaitT K H vs ts → WaitT K H (v :: vs) (t :: ts)
def sizesT : List Th → Nat
  | [] => 0
  | t :: r => t.size + sizesT r
def turnsT : List Th → Nat
  | [] => 0
  | t :: r => 2 * t.size + 1 + turnsT r
section
variable {P : Program} {w : World} {K : PySem.W.Frag} {mg : Str → Option Value} {base : Heap}
def spTreeX (K : PySem.W.Frag) : Sp := fun vs H Q _ => ∃ (v : V) (t : Th), vs = [v] ∧ ThAt K H v t ∧ t.size ≤ 1000 ∧ ∀ H', Same H H' → Q (.bl t.good) H'
theorem sc_treeX : FnScope n_is_tree ["thing"] (defScope s_is_tree) := ⟨rfl, rfl, rfl, by decide +kernel, rfl, by decide +kernel, by decide +kernel⟩
theorem ok_treeX (B : Bl mg) (a : At K mg "is_tree" s_is_tree) : Df P w K mg base "is_tree" 1 ["thing"] (spTreeX K) := by
  refine Df.mk' a sc_treeX (fun vs H Q E h => ?_) (fun _ _ _ _ _ _ us hl => match us, hl with | [_], _ => rfl) (fun f cdv A outer s H vs Q E hr h => ?_)
  · obtain ⟨v, t, rfl, _⟩ := h
    rfl
  obtain ⟨v, t, rfl, ht, hz, q⟩ := h
  refine ⟨_, (pss_cons (ps_set (i := 1) sc_treeX.nd rfl (.inl rfl) (pe_lst (pa_cons (pv 0) pa_nil)))
 (pss_cons (ps_while PassesOwn.never (pt_truth (pv 1) (by intro _; rfl)) (pss_cons (ps_set (i := 2) sc_treeX.nd rfl (.inl rfl) (pe_bm0 PySem.F.plainAttrs_list PySem.F.slot_list_pop PySem.F.type_list_pop mt_pop (pv 1)))
 (pss_one (ps_if (pt_cmpR op_notN (pv 2) pe_non (nomark _)) (pss_cons (ps_if (PW.pt (pw_or (pt_not (pt_val (pe_callB call_isi (by rfl) B.isinstance (by decide +kernel) (pa_cons (pv 2) (pa_cons (pe_bltn (v := .ty "tuple") (by rfl) B.tuple (by decide +kernel) rfl) pa_nil))))) (pw_or1 (pt_cmpR op_ne (pe_callB call_len_seq (by rfl) B.len PySem.boot_len (pa_cons (pv 2) pa_nil)) pe_int (nomark _))))) (pss_one (ps_ret pe_bl)) pss_nil)
 (pss_cons (ps_expr (pe_bm PySem.F.plainAttrs_list PySem.F.slot_list_append PySem.F.type_list_append mt_append (pv 1) (pa_cons (pe_ix ix_tup (pv 2) pe_int (fun _ _ => rfl)) pa_nil)))
 (pss_one (ps_expr (pe_bm PySem.F.plainAttrs_list PySem.F.slot_list_append PySem.F.type_list_append mt_append (pv 1) (pa_cons (pe_ix ix_tup (pv 2) pe_int (fun _ _ => rfl)) pa_nil)))))) pss_nil))))
 (pss_one (ps_ret pe_bl)))), ?_⟩
  refine ⟨v, rfl, (by show 1 ≤ sizeLine; decide), fun l hl => ?_⟩
  have s0 : Same H (upd H l (.lst [v])) := Same.new hl
  refine ⟨fun m σ H1 => ∃ (vs : List V) (ts : List Th) (n : Nat) (y : Option V), σ = [some v, some (.ref l), y] ∧ Same H H1 ∧ H1 l = some (.lst vs.reverse) ∧ WaitT K H vs ts ∧ n + sizesT ts = t.size ∧ vs.length ≤ n + 1 ∧ ts.all Th.good = t.good ∧ m = turnsT ts,
    ⟨_, [v], [t], 0, none, rfl, s0, upd_same, .cons ht .nil, by show 0 + (t.size + 0) = t.size; omega, by show 1 ≤ 0 + 1; omega, by show (t.good && true) = t.good; rw [Bool.and_true], rfl⟩, fun m σ H1 hW => ?_⟩
  obtain ⟨vs, ts, n, y, rfl, sm, el, hw, hn, hlen, good, rfl⟩ := hW
  refine ⟨.ref l, rfl, !vs.reverse.isEmpty, .inl ⟨_, .of el, rfl⟩, ?_⟩
  rw [rev_empty]
  cases hw with
  | nil =>
    rw [← good] at q
    exact iteF (q _ sm)
  | @cons x u xs us hx hxs =>
    refine iteT ⟨fun σ' H' => ∃ m', m' < turnsT (u :: us) ∧ ∃ (vs : List V) (ts : List Th) (n : Nat) (y : Option V), σ' = [some v, some (.ref l), y] ∧ Same H H' ∧ H' l = some (.lst vs.reverse) ∧ WaitT K H vs ts ∧ n + sizesT ts = t.size ∧ vs.length ≤ n + 1 ∧ ts.all Th.good = t.good ∧ m' = turnsT ts,
      fun σ' H' hN => hN, ?_⟩
    refine ⟨.ref l, rfl, .inl ⟨rfl, _, .of el⟩, l, _, x, rfl, rfl, el, last_rev, ?_⟩
    rw [drop_rev]
    have sm2 : Same H (upd H1 l (.lst xs.reverse)) := fun b o e => by rw [upd_ne (ne_of_none e hl)]; exact sm b o e
    refine ⟨x, rfl, rfl, _, rfl, ?_⟩
    cases hx with
    | nil =>
      refine iteF ?_
      refine ⟨_, ?_, xs, us, n, _, rfl, sm2, upd_same, hxs, ?_, ?_, good, rfl⟩
      · show turnsT us < 2 * 0 + 1 + turnsT us; omega
      · have : 0 + sizesT us = sizesT (Th.nil :: us) := rfl
        omega
      · rw [List.length_cons] at hlen; omega
    | bad b =>
      have is : t.good = false := good.symm
      rw [is] at q
      obtain ⟨not, b⟩ := b
      rw [show (!decide (x = V.non)) = true by rw [decide_eq_false not]; rfl]
      refine iteT ?_
      rcases b with ⟨ty, k, no⟩ | ⟨a, xs2, rfl, e, two⟩
      · refine ⟨_, rfl, _, _, _, _, false, rfl, .ty "tuple", TyX.same sm2 k, no, false, rfl, iteT ?_⟩
        exact q _ sm2
      · refine ⟨_, rfl, _, _, _, _, true, rfl, .ty "tuple", .base (.tup (sm2 _ _ e)), rfl, true, rfl, iteF ?_⟩
        refine ⟨_, rfl, a, _, rfl, .inr (.of (sm2 _ _ e)), rfl, _, rfl, ?_⟩
        rw [show (!decide (V.int ((xs2.length : Nat) : Int) = V.int 2)) = true by rw [decide_eq_false (fun z => two (by have := V.int.inj z; omega))]; rfl]
        exact iteT (q _ sm2)
    | @nod a x1 y1 l1 r1 ea hl1 hr1 =>
      refine iteT ?_
      have e2 : (upd H1 l (.lst xs.reverse)) a = some (.tup [x1, y1]) := sm2 _ _ ea
      refine ⟨_, rfl, _, _, _, _, true, rfl, .ty "tuple", .base (.tup e2), rfl, true, rfl, iteF ?_⟩
      refine ⟨_, rfl, a, _, rfl, .inr (.of e2), rfl, _, rfl, iteF ?_⟩
      refine ⟨_, rfl, .inl ⟨rfl, _, .of upd_same⟩, _, rfl, a, _, _, y1, rfl, rfl, .of e2, atI_nat (j := 1) rfl, l, _, _, rfl, rfl, upd_same, ?_, ?_⟩
      · rw [List.length_reverse]
        rw [List.length_cons] at hlen
        exact small1000 (by omega)
      refine ⟨_, rfl, .inl ⟨rfl, _, .of upd_same⟩, _, rfl, a, _, _, x1, rfl, rfl, .of (by rw [upd_ne (ne_of_none ea hl)]; exact e2), atI_nat (xs := [x1, y1]) (j := 0) rfl, l, _, _, rfl, rfl, upd_same, ?_, ?_⟩
      · rw [List.length_append, List.length_reverse, List.length_singleton]
        rw [List.length_cons] at hlen
        have e1 : sizesT (Th.nod l1 r1 :: us) = (l1.size + 1 + r1.size) + sizesT us := rfl
        exact small1000 (by omega)
      rw [rev_push, rev_push]
      refine ⟨_, ?_, x1 :: y1 :: xs, l1 :: r1 :: us, n + 1, _, rfl, fun b o e => ?_, upd_same, .cons hl1 (.cons hr1 hxs), ?_, ?_, ?_, rfl⟩
      · show 2 * l1.size + 1 + (2 * r1.size + 1 + turnsT us) < 2 * (l1.size + 1 + r1.size) + 1 + turnsT us
        omega
      · rw [upd_ne (ne_of_none e hl), upd_ne (ne_of_none e hl)]
        exact sm2 b o e
      · have e1 : sizesT (Th.nod l1 r1 :: us) = (l1.size + 1 + r1.size) + sizesT us := rfl
        show n + 1 + (l1.size + (r1.size + sizesT us)) = t.size
        omega
      · rw [List.length_cons, List.length_cons]
        rw [List.length_cons] at hlen
        omega
      · rw [← good]
        show (l1.good && (r1.good && us.all Th.good)) = ((l1.good && r1.good) && us.all Th.good)
        rw [Bool.and_assoc]
end
end HSP
namespace HSP
open PySem PySem.Spec PyProof.Rows L2
/-! ### InvalidLabels(node) -/
def clsBodyL : Stmt → List Stmt
  | .ClassDef (body := b) .. => b
  | _ => []
abbrev s_ilInit : Stmt := (clsBodyL (topS 2)).getD 0 (.Pass ⟨0, 0, 0, 0⟩)
abbrev n_ilInit : List Str := ["self", "node"]
section
variable {P : Program} {w : World} {K : PySem.W.Frag} {mg : Str → Option Value} {base : Heap}
theorem sc_ilInit : FnScope ["self", "node"] ["self", "node"] (defScope s_ilInit) := ⟨rfl, rfl, rfl, by decide +kernel, rfl, by decide +kernel, by decide +kernel⟩
def spIlInit (K : PySem.W.Frag) : Sp := fun vs H Q _ => ∃ (a C : Addr) (v : V), vs = [.ref a, v] ∧ OexC K C ∧ PySem.W.findIn K (.ref C) "node" = some none ∧ H a = some (exo a C none) ∧ ∀ dx, H dx = none → dx ≠ a → Q .non (upd (upd H dx (exd dx [("node", v)])) a (exo a C (some dx)))
theorem ok_ilInit {f : Addr} {fd : FuncData} (hv : mg "ValueError" = none) (vV : PySem.W.findCls K (.type "ValueError") (.type "type") "__init__" = some (.val (.builtin "ValueError.__init__"))) (F : Fun K "__init__" "InvalidLabels.__init__" s_ilInit f fd) : FnOk P w K mg base CX0 1 f fd ["self", "node"] (spIlInit K) := by
  refine F.ok sc_ilInit (fun vs H Q E h => ?_) (fun cdv A outer s H vs Q E hr h => ?_)
  · obtain ⟨a, C, v, rfl, _⟩ := h
    rfl
  obtain ⟨a, C, v, rfl, T, no, e, q⟩ := h
  refine ⟨_, pss_cons (ps_expr (pe_veinit (by rfl) hv vV (pa_cons (pv 0) (pa_cons pe_str pa_nil)))) (pss_one (ps_ost (pv 0) (pv 1))), ?_⟩
  refine ⟨_, rfl, a, C, _, rfl, (by show 1 ≤ 1000; decide), T, e, ?_⟩
  exact ⟨_, rfl, _, rfl, a, C, rfl, T, no, .inl ⟨e, q⟩⟩
/-- what raising InvalidLabels asks -/
structure OwnL (K : PySem.W.Frag) (mg : Str → Option Value) (C fI : Addr) (fd : FuncData) : Prop where
  g : mg "InvalidLabels" = some (.ref C)
  T : OexC K C
  i : PySem.W.findIn K (.ref C) "__init__" = some (some (.ref fI))
  t : PySem.W.typeIn K (.ref fI) = some (.type "function")
  no : PySem.W.findIn K (.ref C) "node" = some none
  F : Fun K "__init__" "InvalidLabels.__init__" s_ilInit fI fd
  b : Binds K fd ["self", "node"] []
  v : mg "ValueError" = none
  vV : PySem.W.findCls K (.type "ValueError") (.type "type") "__init__" = some (.val (.builtin "ValueError.__init__"))
def EL (C : Addr) (E : XK) (H : Hp) (v : V) : Prop := ∀ (H' : Hp) (dd : Addr), Same H H' → H' dd = some (.xd [("node", v)]) → E (.ref C) (some dd) H'
theorem EL.same {C : Addr} {E : XK} {H H1 : Hp} {v : V} (s : Same H H1) (h : EL C E H v) : EL C E H1 v := fun H' dd s' e => h H' dd (s.trans s') e
theorem mk_il {C : Addr} (T : OexC K C) (no : PySem.W.findIn K (.ref C) "node" = some none) {E : XK} {H : Hp} {v : V} (h : EL C E H v) :
    [v].length ≤ 1000 ∧ ∀ a, H a = none → spIlInit K (.ref a :: ([v] ++ [])) (upd H a (exo a C none)) (fun x H2 => x = .non ∧ ∃ (d : Addr) (fs : List (Str × V)), H2 a = some (exo a C (some d)) ∧ H2 d = some (exd d fs) ∧ H d = none ∧ E (.ref C) (some d) (upd (del H2 a) d (.xd fs))) (fun _ _ _ => False) := by
  refine ⟨(by show 1 ≤ 1000; decide), fun a na => ⟨a, C, v, rfl, T, no, upd_same, fun dx nd ne => ?_⟩⟩
  rw [upd_ne ne] at nd
  refine ⟨rfl, dx, [("node", v)], upd_same, (upd_ne ne).trans upd_same, nd, h _ dx (fun b o e => ?_) upd_same⟩
  have b1 : b ≠ dx := fun z => by rw [z, nd] at e; cases e
  have b2 : b ≠ a := fun z => by rw [z, na] at e; cases e
  rw [upd_ne b1, del_ne b2, upd_ne b2, upd_ne b1, upd_ne b2]
  exact e
end
end HSP
namespace HSP
open PySem PySem.Spec PyProof.Rows L2
section
variable {P : Program} {w : World} {K : PySem.W.Frag} {mg : Str → Option Value} {base : Heap}
/-! ### is_whole -/
def spWhole : Sp := fun vs H Q _ => ∃ i : Int, vs = [.int i] ∧ Q (.bl true) H
end
end HSP
namespace HSP
open PySem PySem.Spec PyProof.Rows L2
section
variable {P : Program} {w : World} {K : PySem.W.Frag} {mg : Str → Option Value} {base : Heap}
/-! ### is_tree -/
def spTree : Sp := fun vs H Q _ => ∃ (v : V) (t : Tr), vs = [v] ∧ TrAt H v t ∧ t.size ≤ 1000 ∧ ∀ H', Same H H' → Q (.bl true) H'
theorem sc_tree : FnScope n_is_tree ["thing"] (defScope s_is_tree) := ⟨rfl, rfl, rfl, by decide +kernel, rfl, by decide +kernel, by decide +kernel⟩
theorem ok_tree (B : Bl mg) (a : At K mg "is_tree" s_is_tree) : Df P w K mg base "is_tree" 1 ["thing"] spTree := by
  refine Df.mk' a sc_tree (fun vs H Q E h => ?_) (fun _ _ _ _ _ _ us hl => match us, hl with | [_], _ => rfl) (fun f cdv A outer s H vs Q E hr h => ?_)
  · obtain ⟨v, t, rfl, _⟩ := h
    rfl
  obtain ⟨v, t, rfl, ht, hz, q⟩ := h
  refine ⟨_, pss_cons (ps_set (i := 1) sc_tree.nd rfl (.inl rfl) (pe_lst (pa_cons (pv 0) pa_nil)))
    (pss_cons (ps_while PassesOwn.never (pt_truth (pv 1) (by intro _; rfl))
      (pss_cons (ps_set (i := 2) sc_tree.nd rfl (.inl rfl) (pe_bm0 PySem.F.plainAttrs_list PySem.F.slot_list_pop PySem.F.type_list_pop mt_pop (pv 1)))
      (pss_one (ps_if (pt_cmpR op_notN (pv 2) pe_non (nomark _))
        (pss_cons (ps_if (PW.pt (pw_or (pt_not (pt_val (pe_callB call_isi (by rfl) B.isinstance (by decide +kernel) (pa_cons (pv 2) (pa_cons (pe_bltn (v := .ty "tuple") (by rfl) B.tuple (by decide +kernel) rfl) pa_nil)))))
            (pw_or1 (pt_cmpR op_ne (pe_callB call_len_seq (by rfl) B.len PySem.boot_len (pa_cons (pv 2) pa_nil)) pe_int (nomark _)))))
          (pss_one (ps_ret pe_bl)) pss_nil)
        (pss_cons (ps_expr (pe_bm PySem.F.plainAttrs_list PySem.F.slot_list_append PySem.F.type_list_append mt_append (pv 1) (pa_cons (pe_ix ix_tup (pv 2) pe_int (fun _ _ => rfl)) pa_nil)))
        (pss_one (ps_expr (pe_bm PySem.F.plainAttrs_list PySem.F.slot_list_append PySem.F.type_list_append mt_append (pv 1) (pa_cons (pe_ix ix_tup (pv 2) pe_int (fun _ _ => rfl)) pa_nil)))))) pss_nil))))
    (pss_one (ps_ret pe_bl))), ?_⟩
  refine ⟨v, rfl, (by show 1 ≤ sizeLine; decide), fun l hl => ?_⟩
  have s0 : Same H (upd H l (.lst [v])) := Same.new hl
  refine ⟨fun m σ H1 => ∃ (vs : List V) (ts : List Tr) (n : Nat) (y : Option V), σ = [some v, some (.ref l), y] ∧ Same H H1 ∧ H1 l = some (.lst vs.reverse) ∧ Waits H vs ts ∧ n + sizes ts = t.size ∧ vs.length ≤ n + 1 ∧ m = turns ts,
    ⟨_, [v], [t], 0, none, rfl, s0, upd_same, .cons ht .nil, by show 0 + (t.size + 0) = t.size; omega, by show 1 ≤ 0 + 1; omega, rfl⟩, fun m σ H1 hW => ?_⟩
  obtain ⟨vs, ts, n, y, rfl, sm, el, hw, hn, hlen, rfl⟩ := hW
  refine ⟨.ref l, rfl, !vs.reverse.isEmpty, .inl ⟨_, .of el, rfl⟩, ?_⟩
  rw [rev_empty]
  cases hw with
  | nil => exact iteF (q _ sm)
  | @cons x u xs us hx hxs =>
    refine iteT ⟨fun σ' H' => ∃ m', m' < turns (u :: us) ∧ ∃ (vs : List V) (ts : List Tr) (n : Nat) (y : Option V), σ' = [some v, some (.ref l), y] ∧ Same H H' ∧ H' l = some (.lst vs.reverse) ∧ Waits H vs ts ∧ n + sizes ts = t.size ∧ vs.length ≤ n + 1 ∧ m' = turns ts,
      fun σ' H' hN => hN, ?_⟩
    refine ⟨.ref l, rfl, .inl ⟨rfl, _, .of el⟩, l, _, x, rfl, rfl, el, last_rev, ?_⟩
    rw [drop_rev]
    have sm2 : Same H (upd H1 l (.lst xs.reverse)) := fun b o e => by rw [upd_ne (ne_of_none e hl)]; exact sm b o e
    refine ⟨x, rfl, rfl, _, rfl, ?_⟩
    cases hx with
    | nil =>
      refine iteF ?_
      refine ⟨_, ?_, xs, us, n, _, rfl, sm2, upd_same, hxs, ?_, ?_, rfl⟩
      · show turns us < 2 * 0 + 1 + turns us; omega
      · have : 0 + sizes us = sizes (Tr.nil :: us) := rfl
        omega
      · rw [List.length_cons] at hlen; omega
    | @nod a x1 y1 l1 r1 ea hl1 hr1 =>
      refine iteT ?_
      have e2 : (upd H1 l (.lst xs.reverse)) a = some (.tup [x1, y1]) := sm2 _ _ ea
      refine ⟨_, rfl, _, _, _, _, true, rfl, .ty "tuple", .base (.tup e2), rfl, true, rfl, iteF ?_⟩
      refine ⟨_, rfl, a, _, rfl, .inr (.of e2), rfl, _, rfl, iteF ?_⟩
      refine ⟨_, rfl, .inl ⟨rfl, _, .of upd_same⟩, _, rfl, a, _, _, y1, rfl, rfl, .of e2, atI_nat (j := 1) rfl, l, _, _, rfl, rfl, upd_same, ?_, ?_⟩
      · rw [List.length_reverse]
        rw [List.length_cons] at hlen
        exact small1000 (by omega)
      refine ⟨_, rfl, .inl ⟨rfl, _, .of upd_same⟩, _, rfl, a, _, _, x1, rfl, rfl, .of (by rw [upd_ne (ne_of_none ea hl)]; exact e2), atI_nat (xs := [x1, y1]) (j := 0) rfl, l, _, _, rfl, rfl, upd_same, ?_, ?_⟩
      · rw [List.length_append, List.length_reverse, List.length_singleton]
        rw [List.length_cons] at hlen
        have e1 : sizes (Tr.nod l1 r1 :: us) = (l1.size + 1 + r1.size) + sizes us := rfl
        exact small1000 (by omega)
      rw [rev_push, rev_push]
      refine ⟨_, ?_, x1 :: y1 :: xs, l1 :: r1 :: us, n + 1, _, rfl, fun b o e => ?_, upd_same, .cons hl1 (.cons hr1 hxs), ?_, ?_, rfl⟩
      · show 2 * l1.size + 1 + (2 * r1.size + 1 + turns us) < 2 * (l1.size + 1 + r1.size) + 1 + turns us
        omega
      · rw [upd_ne (ne_of_none e hl), upd_ne (ne_of_none e hl)]
        exact sm2 b o e
      · have e1 : sizes (Tr.nod l1 r1 :: us) = (l1.size + 1 + r1.size) + sizes us := rfl
        show n + 1 + (l1.size + (r1.size + sizes us)) = t.size
        omega
      · rw [List.length_cons] at hlen
        show xs.length + 1 + 1 ≤ n + 1 + 1
        omega
/-! ### check_tree -/
theorem sc_chkT : FnScope n_check_tree ["tree"] (defScope s_check_tree) := ⟨rfl, rfl, rfl, by decide +kernel, rfl, by decide +kernel, by decide +kernel⟩
def spChkT : Sp := fun vs H Q _ => ∃ (v : V) (t : Tr), vs = [v] ∧ TrAt H v t ∧ t.size ≤ 1000 ∧ ∀ H', Same H H' → Q .non H'
theorem ok_chkT (T : Df P w K mg base "is_tree" 1 ["thing"] spTree) (a : At K mg "check_tree" s_check_tree) : Df P w K mg base "check_tree" 2 ["tree"] spChkT := by
  refine Df.mk' a sc_chkT (fun vs H Q E h => ?_) (fun _ _ _ _ _ _ us hl => match us, hl with | [_], _ => rfl) (fun f cdv A outer s H vs Q E hr h => ?_)
  · obtain ⟨v, t, rfl, _⟩ := h
    rfl
  obtain ⟨v, t, rfl, ht, hz, q⟩ := h
  refine ⟨_, pss_one (ps_if (pt_not (pt_val (pe_df T hr (pa_cons (pv 0) pa_nil)))) (pss_one ps_never) pss_nil), ?_⟩
  refine ⟨v, rfl, v, t, rfl, ht, hz, fun H' sm => ⟨true, rfl, iteF ?_⟩⟩
  exact q H' sm
end
end HSP
namespace HSP
open PySem PySem.Spec PyProof.Rows L2
/-! ## max(.., default=None), min(.., default=None) of ints -/
theorem maxOf_spec : ∀ (ys : List Int) (y : Int), (PySem.W.maxOf y ys) ∈ y :: ys ∧ ∀ z, z ∈ y :: ys → z ≤ PySem.W.maxOf y ys
  | [], y => ⟨List.mem_cons_self, fun z hz => by rw [List.mem_singleton.mp hz]; exact Int.le_refl y⟩
  | x :: r, y => by
    have e : PySem.W.maxOf y (x :: r) = PySem.W.maxOf (if y < x then x else y) r := by
      unfold PySem.W.maxOf
      rw [List.foldl_cons]
      show List.foldl _ (if decide (y < x) = true then x else y) r = _
      by_cases c : y < x
      · rw [if_pos c, if_pos (decide_eq_true c)]
      · rw [if_neg c, if_neg (fun z => c (of_decide_eq_true z))]
    rw [e]
    obtain ⟨h1, h2⟩ := maxOf_spec r (if y < x then x else y)
    generalize PySem.W.maxOf (if y < x then x else y) r = M at h1 h2 ⊢
    constructor
    · rcases List.mem_cons.mp h1 with z | z
      · rw [z]
        split
        · exact List.mem_cons_of_mem _ List.mem_cons_self
        · exact List.mem_cons_self
      · exact List.mem_cons_of_mem _ (List.mem_cons_of_mem _ z)
    · intro z hz
      have h3 := h2 (if y < x then x else y) List.mem_cons_self
      rcases List.mem_cons.mp hz with q | q
      · rw [q]
        split at h3 <;> omega
      · rcases List.mem_cons.mp q with q | q
        · rw [q]
          split at h3 <;> omega
        · exact h2 z (List.mem_cons_of_mem _ q)
theorem minOf_spec : ∀ (ys : List Int) (y : Int), (PySem.W.minOf y ys) ∈ y :: ys ∧ ∀ z, z ∈ y :: ys → PySem.W.minOf y ys ≤ z
  | [], y => ⟨List.mem_cons_self, fun z hz => by rw [List.mem_singleton.mp hz]; exact Int.le_refl y⟩
  | x :: r, y => by
    have e : PySem.W.minOf y (x :: r) = PySem.W.minOf (if x < y then x else y) r := by
      unfold PySem.W.minOf
      rw [List.foldl_cons]
      show List.foldl _ (if decide (x < y) = true then x else y) r = _
      by_cases c : x < y
      · rw [if_pos c, if_pos (decide_eq_true c)]
      · rw [if_neg c, if_neg (fun z => c (of_decide_eq_true z))]
    rw [e]
    obtain ⟨h1, h2⟩ := minOf_spec r (if x < y then x else y)
    generalize PySem.W.minOf (if x < y then x else y) r = M at h1 h2 ⊢
    constructor
    · rcases List.mem_cons.mp h1 with z | z
      · rw [z]
        split
        · exact List.mem_cons_of_mem _ List.mem_cons_self
        · exact List.mem_cons_self
      · exact List.mem_cons_of_mem _ (List.mem_cons_of_mem _ z)
    · intro z hz
      have h3 := h2 (if x < y then x else y) List.mem_cons_self
      rcases List.mem_cons.mp hz with q | q
      · rw [q]
        split at h3 <;> omega
      · rcases List.mem_cons.mp q with q | q
        · rw [q]
          split at h3 <;> omega
        · exact h2 z (List.mem_cons_of_mem _ q)
theorem holds_is {h : Heap} {v : Value} {i : Int} (q : PySem.W.Holds h v i) : ∃ t, v = .int i t := by
  obtain ⟨as, r⟩ := q
  cases r with
  | int _ t => exact ⟨t, rfl⟩
section
variable {X : Cx}
def rMaxN : List V → List V → Hp → VK → Prop := fun vs zs H Q => ∃ (a : Addr) (ns : List Int), vs = [V.ref a] ∧ zs = [V.non] ∧ H a = some (.lst (ns.map V.int)) ∧ (ns = [] → Q .non H) ∧ ∀ m, m ∈ ns → (∀ y, y ∈ ns → y ≤ m) → Q (.int m) H
def rMinN : List V → List V → Hp → VK → Prop := fun vs zs H Q => ∃ (a : Addr) (ns : List Int), vs = [V.ref a] ∧ zs = [V.non] ∧ H a = some (.lst (ns.map V.int)) ∧ (ns = [] → Q .non H) ∧ ∀ m, m ∈ ns → (∀ y, y ∈ ns → m ≤ y) → Q (.int m) H
theorem crk_maxN (hc : X.calm = true) (hu : X.A.units + 64 < cLine) : CallRK X (.builtin "max") ["default"] rMaxN := by
  intro pins s σ H xs zs us ws Q I r rz h
  obtain ⟨a, ns, rfl, rfl, ha, q0, q1⟩ := h
  rw [Vals.ref1 r]
  obtain ⟨z, its, n, rv, e⟩ : ObjOk X.prog X.w H s.heap a (.lst (ns.map V.int)) := I.hok a _ ha
  cases rz with
  | cons r1 t1 =>
    cases t1
    cases (show _ = Value.none from r1)
    refine PySem.W.max_list_datum_default (I.ok.hd hc) (show s.heap.IsList a its.toArray from ⟨_, e, rfl, n, rfl⟩) (PySem.W.HoldAll.of_ints (ints_of_vals rv)) (by show X.A.units + 1 + 0 < cLine; omega) (fun e0 h' tk kp => ?_) (fun y ys i v h' tk ey _ hv kp => ?_)
    · exact ⟨.non, H, I.kept kp, rfl, q0 e0⟩
    · obtain ⟨t, rfl⟩ := holds_is hv
      obtain ⟨m1, m2⟩ := maxOf_spec ys y
      exact ⟨.int _, H, I.kept kp, ⟨t, rfl⟩, q1 _ (by rw [ey]; exact m1) (by rw [ey]; exact m2)⟩
theorem crk_minN (hc : X.calm = true) (hu : X.A.units + 64 < cLine) : CallRK X (.builtin "min") ["default"] rMinN := by
  intro pins s σ H xs zs us ws Q I r rz h
  obtain ⟨a, ns, rfl, rfl, ha, q0, q1⟩ := h
  rw [Vals.ref1 r]
  obtain ⟨z, its, n, rv, e⟩ : ObjOk X.prog X.w H s.heap a (.lst (ns.map V.int)) := I.hok a _ ha
  cases rz with
  | cons r1 t1 =>
    cases t1
    cases (show _ = Value.none from r1)
    refine PySem.W.min_list_datum_default (I.ok.hd hc) (show s.heap.IsList a its.toArray from ⟨_, e, rfl, n, rfl⟩) (PySem.W.HoldAll.of_ints (ints_of_vals rv)) (by show X.A.units + 1 + 0 < cLine; omega) (fun e0 h' tk kp => ?_) (fun y ys i v h' tk ey _ hv kp => ?_)
    · exact ⟨.non, H, I.kept kp, rfl, q0 e0⟩
    · obtain ⟨t, rfl⟩ := holds_is hv
      obtain ⟨m1, m2⟩ := minOf_spec ys y
      exact ⟨.int _, H, I.kept kp, ⟨t, rfl⟩, q1 _ (by rw [ey]; exact m1) (by rw [ey]; exact m2)⟩
end
end HSP
namespace HSP
open PySem PySem.Spec PyProof.Rows L2
/-! ## heaps: all but some places stay -/
def Stay (X : List Addr) (H H' : Hp) : Prop := ∀ b o, b ∉ X → H b = some o → H' b = some o
theorem Stay.refl (X : List Addr) (H : Hp) : Stay X H H := fun _ _ _ e => e
theorem Stay.trans {X : List Addr} {H H1 H2 : Hp} (a : Stay X H H1) (b : Stay X H1 H2) : Stay X H H2 := fun c o n e => b c o n (a c o n e)
theorem Stay.of {X : List Addr} {H H' : Hp} (s : Same H H') : Stay X H H' := fun b o _ e => s b o e
theorem Stay.new {X : List Addr} {H : Hp} {p : Addr} {o : HO} (h : H p = none) : Stay X H (upd H p o) := fun b u _ e => by
  rw [upd_ne (ne_of_none e h)]; exact e
theorem Stay.at {X : List Addr} {H : Hp} {p : Addr} {o : HO} (h : p ∈ X) : Stay X H (upd H p o) := fun b u n e => by
  rw [upd_ne (fun z : b = p => n (by rw [z]; exact h))]; exact e
theorem Stay.mono {X Y : List Addr} {H H' : Hp} (a : Stay X H H') (h : ∀ x, x ∈ X → x ∈ Y) : Stay Y H H' := fun b o n e => a b o (fun z => n (h b z)) e
theorem Stay.then {X : List Addr} {H H1 H2 : Hp} (a : Stay X H H1) (b : Same H1 H2) : Stay X H H2 := a.trans (.of b)
theorem Stay.anew {X : List Addr} {H H1 : Hp} {p : Addr} {o : HO} (a : Stay X H H1) (h : H1 p = none) : Stay X H (upd H1 p o) := a.trans (.new h)
theorem Stay.put {X : List Addr} {H H1 : Hp} {p : Addr} {o : HO} (a : Stay X H H1) (h : p ∈ X) : Stay X H (upd H1 p o) := a.trans (.at h)
theorem Stay.free {X : List Addr} {H H' : Hp} {b : Addr} (a : Stay X H H') (n : b ∉ X) (h : H' b = none) : H b = none := by
  cases e : H b with
  | none => rfl
  | some o => cases h.symm.trans (a b o n e)
/-- what was not tracked at first may be written -/
theorem Stay.same {X : List Addr} {H H1 H' : Hp} (s : Same H H1) (n : ∀ x, x ∈ X → H x = none) (k : Stay X H1 H') : Same H H' := fun b o e => k b o (fun z => by rw [n b z] at e; cases e) (s b o e)
theorem no2 {a b c : Addr} (h1 : a ≠ b) (h2 : a ≠ c) : a ∉ [b, c] := fun z => by
  rcases List.mem_cons.mp z with q | q
  · exact h1 q
  · exact h2 (List.mem_singleton.mp q)
theorem no1 {a b : Addr} (h1 : a ≠ b) : a ∉ [b] := fun z => h1 (List.mem_singleton.mp z)
theorem in2l {a b : Addr} : a ∈ [a, b] := List.mem_cons_self
theorem in2r {a b : Addr} : b ∈ [a, b] := List.mem_cons_of_mem _ List.mem_cons_self
theorem in1 {a : Addr} : a ∈ [a] := List.mem_cons_self
theorem tup_ne {H : Hp} {a b : Addr} {xs ys : List V} (h : H a = some (.tup xs)) (h2 : H b = some (.lst ys)) : a ≠ b := fun z => by
  rw [z, h2] at h; cases h
theorem TrAt.stay {X : List Addr} {H H' : Hp} {v : V} {t : Tr} (h : TrAt H v t) (k : Stay X H H') (n : ∀ x, x ∈ X → ∃ ys, H x = some (.lst ys)) : TrAt H' v t :=
  h.keep fun a x y e => k a _ (fun z => by
    obtain ⟨ys, q⟩ := n a z
    rw [q] at e
    cases e) e
theorem valAt_mem {ns : List Int} {i : Nat} (h : i < ns.length) : valAt ns i ∈ ns := by
  have e : valAt ns i = ns[i] := by
    unfold valAt
    rw [List.getD_eq_getElem?_getD, List.getElem?_eq_getElem h]
    rfl
  rw [e]
  exact List.getElem_mem h
theorem TrAt.put {H : Hp} {v : V} {t : Tr} {a : Addr} {xs : List V} {o : HO} (h : TrAt H v t) (e : H a = some (.lst xs)) : TrAt (upd H a o) v t := by
  refine h.keep fun b x y eb => ?_
  rw [upd_ne]
  · exact eb
  · intro z
    rw [z, e] at eb
    cases eb
theorem Keep.free {p q : Addr} {H H' : Hp} (k : Keep p H H') (n : q ≠ p) (h : H' q = none) : H q = none := by
  cases e : H q with
  | none => rfl
  | some o => cases h.symm.trans (k q o n e)
theorem Paired.getL {α β : Type} {R : α → β → Prop} : ∀ {l : List α} {m : List β} {i : Nat} {x : α}, Paired R l m → l[i]? = some x → ∃ y, m[i]? = some y ∧ R x y
  | _, _, i, _, .nil, e => by simp at e
  | _, _, 0, _, .cons h _, e => by
    cases Option.some.inj (show some _ = some _ from e)
    exact ⟨_, rfl, h⟩
  | _, _, i + 1, _, .cons _ t, e => Paired.getL (i := i) t e
end HSP
namespace HSP
open PySem PySem.Spec PyProof.Rows L2
/-! ### the paths of the nodes -/
/-- the ancestors of the node i, from the root down, and whether it lies right of them -/
def pOf : Tr → Nat → Nat → List (Nat × Bool)
  | .nil, _, _ => []
  | .nod l r, f, i => if i = f + l.size then [] else if i < f + l.size then (f + l.size, false) :: pOf l f i else (f + l.size, true) :: pOf r (f + l.size + 1) i
def sideV (b : Bool) : V := if b = true then .str "right" else .str "left"
/-- a path stands at r -/
def PathAt (H : Hp) (r : Addr) (p : List (Nat × Bool)) : Prop := ∃ tups : List Addr, H r = some (.lst (tups.map V.ref)) ∧ Paired (fun a (z : Nat × Bool) => H a = some (.tup [natV z.1, sideV z.2])) tups p
theorem PathAt.same {H H' : Hp} {r : Addr} {p : List (Nat × Bool)} (h : PathAt H r p) (s : Same H H') : PathAt H' r p := by
  obtain ⟨t, e, q⟩ := h
  exact ⟨t, s _ _ e, Paired.mapP q fun a z h => s _ _ h⟩
theorem PathAt.put {H : Hp} {r x : Addr} {p : List (Nat × Bool)} {xs ys : List V} (h : PathAt H r p) (n : r ≠ x) (hx : H x = some (.lst xs)) : PathAt (upd H x (.lst ys)) r p := by
  obtain ⟨t, e, q⟩ := h
  refine ⟨t, by rw [upd_ne n]; exact e, Paired.mapP q fun a z h => ?_⟩
  rw [upd_ne (fun e2 => by rw [e2, hx] at h; cases h)]
  exact h
theorem PathAt.stay {X : List Addr} {H H' : Hp} {r : Addr} {p : List (Nat × Bool)} (h : PathAt H r p) (k : Stay X H H') (n : r ∉ X) (hX : ∀ x, x ∈ X → ∃ ys, H x = some (.lst ys)) : PathAt H' r p := by
  obtain ⟨t, e, q⟩ := h
  refine ⟨t, k _ _ n e, Paired.mapP q fun a z h => k _ _ (fun m => ?_) h⟩
  obtain ⟨ys, e2⟩ := hX a m
  rw [e2] at h
  cases h
theorem PathAt.len {H : Hp} {r : Addr} {p : List (Nat × Bool)} {ts : List Addr} (h : Paired (fun a (z : Nat × Bool) => H a = some (.tup [natV z.1, sideV z.2])) ts p) : ts.length = p.length := Paired.length h
/-- all paths stand in the list at q, each one in a list of its own -/
def WaysAt (H : Hp) (q : Addr) (t : Tr) : Prop := ∃ rows : List Addr, H q = some (.lst (rows.map V.ref)) ∧ rows.length = t.size ∧ ∀ i r, rows[i]? = some r → PathAt H r (pOf t 0 i)
theorem pOf_len : ∀ (t : Tr) (f i : Nat), (pOf t f i).length ≤ t.size
  | .nil, _, _ => Nat.le_refl _
  | .nod l r, f, i => by
    have h1 := pOf_len l f i
    have h2 := pOf_len r (f + l.size + 1) i
    unfold pOf
    show _ ≤ l.size + 1 + r.size
    split
    · exact Nat.zero_le _
    · split <;> (rw [List.length_cons]; omega)
theorem pOf_in : ∀ (t : Tr) (f i : Nat) (z : Nat × Bool), z ∈ pOf t f i → f ≤ z.1 ∧ z.1 < f + t.size
  | .nil, _, _, _, h => by cases h
  | .nod l r, f, i, z, h => by
    have e : pOf (.nod l r) f i = if i = f + l.size then [] else if i < f + l.size then (f + l.size, false) :: pOf l f i else (f + l.size, true) :: pOf r (f + l.size + 1) i := rfl
    have sz : (Tr.nod l r).size = l.size + 1 + r.size := rfl
    rw [e] at h
    rw [sz]
    split at h
    · cases h
    · split at h
      · rcases List.mem_cons.mp h with q | q
        · rw [q]
          exact ⟨(by show f ≤ f + l.size; omega), (by show f + l.size < f + (l.size + 1 + r.size); omega)⟩
        · have := pOf_in l f i z q
          omega
      · rcases List.mem_cons.mp h with q | q
        · rw [q]
          exact ⟨(by show f ≤ f + l.size; omega), (by show f + l.size < f + (l.size + 1 + r.size); omega)⟩
        · have := pOf_in r (f + l.size + 1) i z q
          omega
theorem pOf_in0 (t : Tr) (i : Nat) (z : Nat × Bool) (h : z ∈ pOf t 0 i) : z.1 < t.size := by
  have := pOf_in t 0 i z h
  omega
/-- the nodes, the root first, then those of the left part, then those of the right part, each with its path -/
def pre : Tr → Nat → List (Nat × Bool) → List (Nat × List (Nat × Bool))
  | .nil, _, _ => []
  | .nod l r, f, p => (f + l.size, p) :: (pre l f (p ++ [(f + l.size, false)]) ++ pre r (f + l.size + 1) (p ++ [(f + l.size, true)]))
theorem pre_len : ∀ (t : Tr) (f : Nat) (p : List (Nat × Bool)), (pre t f p).length = t.size
  | .nil, _, _ => rfl
  | .nod l r, f, p => by
    show ((f + l.size, p) :: (pre l f (p ++ [(f + l.size, false)]) ++ pre r (f + l.size + 1) (p ++ [(f + l.size, true)]))).length = l.size + 1 + r.size
    rw [List.length_cons, List.length_append, pre_len l, pre_len r]
    omega
theorem pOf_nod (l r : Tr) (f i : Nat) : pOf (.nod l r) f i = if i = f + l.size then [] else if i < f + l.size then (f + l.size, false) :: pOf l f i else (f + l.size, true) :: pOf r (f + l.size + 1) i := rfl
theorem pre_nod (l r : Tr) (f : Nat) (p : List (Nat × Bool)) : pre (.nod l r) f p = (f + l.size, p) :: (pre l f (p ++ [(f + l.size, false)]) ++ pre r (f + l.size + 1) (p ++ [(f + l.size, true)])) := rfl
theorem size_nod (l r : Tr) : (Tr.nod l r).size = l.size + 1 + r.size := rfl
theorem pre_in : ∀ (t : Tr) (f : Nat) (p : List (Nat × Bool)) (n : Nat) (s : List (Nat × Bool)), (n, s) ∈ pre t f p → f ≤ n ∧ n < f + t.size ∧ s = p ++ pOf t f n
  | .nil, _, _, _, _, h => by cases h
  | .nod l r, f, p, n, s, h => by
    rw [pre_nod] at h
    rw [size_nod, pOf_nod]
    rcases List.mem_cons.mp h with z | z
    · obtain ⟨rfl, rfl⟩ := Prod.mk.inj z
      refine ⟨by omega, by omega, ?_⟩
      rw [if_pos rfl, List.append_nil]
    · rcases List.mem_append.mp z with z | z
      · obtain ⟨h1, h2, h3⟩ := pre_in l f _ n s z
        refine ⟨h1, by omega, ?_⟩
        rw [if_neg (by omega), if_pos (by omega), h3, List.append_assoc]
        rfl
      · obtain ⟨h1, h2, h3⟩ := pre_in r (f + l.size + 1) _ n s z
        refine ⟨by omega, by omega, ?_⟩
        rw [if_neg (by omega), if_neg (by omega), h3, List.append_assoc]
        rfl
theorem pre_mem : ∀ (t : Tr) (f : Nat) (p : List (Nat × Bool)) (n : Nat), f ≤ n → n < f + t.size → (n, p ++ pOf t f n) ∈ pre t f p
  | .nil, f, _, n, h1, h2 => by
    have : n < f + 0 := h2
    omega
  | .nod l r, f, p, n, h1, h2 => by
    rw [size_nod] at h2
    rw [pre_nod, pOf_nod]
    by_cases c : n = f + l.size
    · rw [if_pos c, List.append_nil, c]
      exact List.mem_cons_self
    · rw [if_neg c]
      refine List.mem_cons_of_mem _ ?_
      by_cases d : n < f + l.size
      · rw [if_pos d]
        have h := pre_mem l f (p ++ [(f + l.size, false)]) n h1 d
        rw [List.append_assoc] at h
        exact List.mem_append.mpr (.inl h)
      · rw [if_neg d]
        have h := pre_mem r (f + l.size + 1) (p ++ [(f + l.size, true)]) n (by omega) (by omega)
        rw [List.append_assoc] at h
        exact List.mem_append.mpr (.inr h)
/-- a row: a node with its path -/
def RowAt (H : Hp) (R : Addr) (z : Nat × List (Nat × Bool)) : Prop := ∃ b, H R = some (.tup [natV z.1, .ref b]) ∧ PathAt H b z.2
theorem RowAt.same {H H' : Hp} {R : Addr} {z : Nat × List (Nat × Bool)} (h : RowAt H R z) (s : Same H H') : RowAt H' R z := by
  obtain ⟨b, e, q⟩ := h
  exact ⟨b, s _ _ e, q.same s⟩
/-- what waits: a tree, its first node, the path to it -/
structure Wt where
  v : V
  u : Tr
  f : Nat
  b : Addr
  p : List (Nat × Bool)
def WtOk (H0 H : Hp) (X : List Addr) (T : Addr) (x : Wt) : Prop := H T = some (.tup [x.v, natV x.f, .ref x.b]) ∧ TrAt H0 x.v x.u ∧ PathAt H x.b x.p ∧ x.b ∉ X ∧ H0 x.b = none
theorem WtOk.stay {H0 H H' : Hp} {X : List Addr} {T : Addr} {x : Wt} (h : WtOk H0 H X T x) (s : Stay X H H') (hX : ∀ x, x ∈ X → ∃ ys, H x = some (.lst ys)) : WtOk H0 H' X T x := by
  obtain ⟨h1, h2, h3, h4, h5⟩ := h
  refine ⟨s _ _ (fun m => ?_) h1, h2, h3.stay s h4 hX, h4, h5⟩
  obtain ⟨ys, e⟩ := hX T m
  rw [e] at h1
  cases h1
def RowOk (H0 H : Hp) (X : List Addr) (R : Addr) (z : Nat × List (Nat × Bool)) : Prop := ∃ b, H R = some (.tup [natV z.1, .ref b]) ∧ PathAt H b z.2 ∧ b ∉ X ∧ H0 b = none
theorem RowOk.stay {H0 H H' : Hp} {X : List Addr} {R : Addr} {z : Nat × List (Nat × Bool)} (h : RowOk H0 H X R z) (s : Stay X H H') (hX : ∀ x, x ∈ X → ∃ ys, H x = some (.lst ys)) : RowOk H0 H' X R z := by
  obtain ⟨b, h1, h2, h3, h4⟩ := h
  refine ⟨b, s _ _ (fun m => ?_) h1, h2.stay s h3 hX, h3, h4⟩
  obtain ⟨ys, e⟩ := hX R m
  rw [e] at h1
  cases h1
def wtTurns : List Wt → Nat
  | [] => 0
  | x :: r => 2 * x.u.size + 1 + wtTurns r
def wtSizes : List Wt → Nat
  | [] => 0
  | x :: r => x.u.size + wtSizes r
def wtPre : List Wt → List (Nat × List (Nat × Bool))
  | [] => []
  | x :: r => pre x.u x.f x.p ++ wtPre r
/-- a path with one step more, laid anew -/
theorem path_more {H : Hp} {t1 l1 a1 : Addr} {p : List (Nat × Bool)} {z : Nat × Bool} {tups : List Addr} {x y : V} (hx : x = natV z.1) (hy : y = sideV z.2) (hp : Paired (fun a (z : Nat × Bool) => H a = some (.tup [natV z.1, sideV z.2])) tups p) (h1 : H t1 = none) (h2 : upd H t1 (.tup [x, y]) l1 = none)
    (h3 : upd (upd H t1 (.tup [x, y])) l1 (.lst [V.ref t1]) a1 = none) : PathAt (upd (upd (upd H t1 (.tup [x, y])) l1 (.lst [V.ref t1])) a1 (.lst (tups.map V.ref ++ [V.ref t1]))) a1 (p ++ [z]) := by
  subst hx hy
  have s1 := Same.new (o := .tup [natV z.1, sideV z.2]) h1
  have s2 := Same.new (o := .lst [V.ref t1]) h2
  have s3 := Same.new (o := .lst (tups.map V.ref ++ [V.ref t1])) h3
  refine ⟨tups ++ [t1], ?_, Paired.app (Paired.mapP hp fun a z h => s3 _ _ (s2 _ _ (s1 _ _ h))) (.cons (s3 _ _ (s2 _ _ upd_same)) .nil)⟩
  rw [upd_same, List.map_append]
  rfl
section
variable {P : Program} {w : World} {K : PySem.W.Frag} {mg : Str → Option Value} {base : Heap}
theorem sc_walk : FnScope n_walk ["tree"] (defScope s_walk) := ⟨rfl, rfl, rfl, by decide +kernel, rfl, by decide +kernel, by decide +kernel⟩
def spWalk : Sp := fun vs H Q _ => ∃ (v : V) (t : Tr), vs = [v] ∧ TrAt H v t ∧ t.size ≤ 300 ∧ ∀ (H' : Hp) (q : Addr) (rows : List Addr), Same H H' → H q = none → H' q = some (.lst (rows.map V.ref)) → Paired (fun R z => ∃ b, H' R = some (.tup [natV z.1, .ref b]) ∧ PathAt H' b z.2 ∧ b ≠ q ∧ H b = none) rows (pre t 0 []) → Q (.ref q) H'
theorem ok_walk (C : Df P w K mg base "count_nodes" 1 ["tree"] spCount) (a : At K mg "walk" s_walk) : Df P w K mg base "walk" 2 ["tree"] spWalk := by
  refine Df.mk' a sc_walk (fun vs H Q E h => ?_) (fun _ _ _ _ _ _ us hl => match us, hl with | [_], _ => rfl) (fun f cdv A outer s H vs Q E hr h => ?_)
  · obtain ⟨v, t, rfl, _⟩ := h
    rfl
  obtain ⟨v, t, rfl, ht, hz, q⟩ := h
  refine ⟨_, (pss_cons (ps_set (i := 1) sc_walk.nd rfl (.inl rfl) (pe_lst pa_nil))
 (pss_cons (ps_set (i := 2) sc_walk.nd rfl (.inl rfl) (pe_lst (pa_cons (pe_tup (pa_cons (pv 0) (pa_cons pe_int (pa_cons (pe_lst pa_nil) pa_nil)))) pa_nil)))
 (pss_cons (ps_while PassesOwn.never (pt_truth (pv 2) (by intro _; rfl)) (pss_cons (ps_asg (pe_bm0 PySem.F.plainAttrs_list PySem.F.slot_list_pop PySem.F.type_list_pop mt_pop (pv 2)) (pg_tup rfl (pgs_cons (pg_name (i := 3) sc_walk.nd rfl (.inl rfl)) (pgs_cons (pg_name (i := 4) sc_walk.nd rfl (.inl rfl)) (pgs_cons (pg_name (i := 5) sc_walk.nd rfl (.inl rfl)) pgs_nil)))))
 (pss_one (ps_if (pt_cmpR op_notN (pv 3) pe_non (nomark _)) (pss_cons (ps_asg (pv 3) (pg_tup rfl (pgs_cons (pg_name (i := 6) sc_walk.nd rfl (.inl rfl)) (pgs_cons (pg_name (i := 7) sc_walk.nd rfl (.inl rfl)) pgs_nil))))
 (pss_cons (ps_set (i := 8) sc_walk.nd rfl (.inl rfl) (pe_op op_add (pv 4) (pe_df C hr (pa_cons (pv 6) pa_nil))))
 (pss_cons (ps_expr (pe_bm PySem.F.plainAttrs_list PySem.F.slot_list_append PySem.F.type_list_append mt_append (pv 1) (pa_cons (pe_tup (pa_cons (pv 8) (pa_cons (pv 5) pa_nil))) pa_nil)))
 (pss_cons (ps_expr (pe_bm PySem.F.plainAttrs_list PySem.F.slot_list_append PySem.F.type_list_append mt_append (pv 2) (pa_cons (pe_tup (pa_cons (pv 7) (pa_cons (pe_op op_add (pv 8) pe_int) (pa_cons (pe_op op_cat (pv 5) (pe_lst (pa_cons (pe_tup (pa_cons (pv 8) (pa_cons pe_str pa_nil))) pa_nil))) pa_nil)))) pa_nil)))
 (pss_one (ps_expr (pe_bm PySem.F.plainAttrs_list PySem.F.slot_list_append PySem.F.type_list_append mt_append (pv 2) (pa_cons (pe_tup (pa_cons (pv 6) (pa_cons (pv 4) (pa_cons (pe_op op_cat (pv 5) (pe_lst (pa_cons (pe_tup (pa_cons (pv 8) (pa_cons pe_str pa_nil))) pa_nil))) pa_nil)))) pa_nil)))))))) pss_nil))))
 (pss_one (ps_ret (pv 1)))))), ?_⟩
  refine ⟨Nat.zero_le _, fun q0 hq => ?_⟩
  refine ⟨v, rfl, Nat.zero_le _, fun ab hab => ⟨(by show 3 ≤ sizeLine; decide), fun T0 hT0 => ⟨(by show 1 ≤ sizeLine; decide), fun wl hwl => ?_⟩⟩⟩
  have t0 : Same H (upd H q0 (.lst [])) := Same.new hq
  have t1 := Same.new (o := .lst []) hab
  have t2 := Same.new (o := .tup [v, V.int 0, .ref ab]) hT0
  have t3 := Same.new (o := .lst [V.ref T0]) hwl
  have s3 := t0.trans (t1.trans (t2.trans t3))
  have hw : H wl = none := t0.free (t1.free (t2.free hwl))
  have eq3 := t3 _ _ (t2 _ _ (t1 _ _ (upd_same (H := H) (a := q0) (o := .lst []))))
  have nqw : q0 ≠ wl := ne_of_none (t2 _ _ (t1 _ _ upd_same)) hwl
  have nabw : ab ≠ wl := ne_of_none (t2 _ _ upd_same) hwl
  have nabq : ab ≠ q0 := (ne_of_none upd_same hab).symm
  have w0 : WtOk H (upd (upd (upd (upd H q0 (.lst [])) ab (.lst [])) T0 (.tup [v, V.int 0, .ref ab])) wl (.lst [V.ref T0])) [wl, q0] T0 ⟨v, t, 0, ab, []⟩ := ⟨t3 _ _ upd_same, ht, ⟨[], t3 _ _ (t2 _ _ upd_same), .nil⟩, no2 nabw nabq, t0.free hab⟩
  refine ⟨fun m σ H' => ∃ (ts : List Addr) (ws : List Wt) (rows : List Addr) (dn : List (Nat × List (Nat × Bool))) (y3 y4 y5 y6 y7 y8 : Option V), σ = [some v, some (.ref q0), some (.ref wl), y3, y4, y5, y6, y7, y8] ∧ Same H H' ∧ H' wl = some (.lst (ts.map V.ref).reverse) ∧ Paired (WtOk H H' [wl, q0]) ts ws ∧ H' q0 = some (.lst (rows.map V.ref)) ∧ Paired (RowOk H H' [wl, q0]) rows dn ∧
      pre t 0 [] = dn ++ wtPre ws ∧ (∀ x, x ∈ ws → x.p.length + x.u.size ≤ t.size) ∧ dn.length + wtSizes ws ≤ t.size ∧ ts.length + wtSizes ws ≤ t.size + 1 ∧ m = wtTurns ws,
    ⟨_, [T0], [⟨v, t, 0, ab, []⟩], [], [], _, _, _, _, _, _, rfl, s3, upd_same, .cons w0 .nil, eq3, .nil, ?_, fun x hx => ?_, ?_, ?_, rfl⟩, fun m σ H3 hW => ?_⟩
  · show pre t 0 [] = [] ++ (pre t 0 [] ++ [])
    rw [List.nil_append, List.append_nil]
  · rw [List.mem_singleton.mp hx]
    show 0 + t.size ≤ t.size
    omega
  · show 0 + (t.size + 0) ≤ t.size; omega
  · show 1 + (t.size + 0) ≤ t.size + 1; omega
  obtain ⟨ts, ws, rows, dn, y3, y4, y5, y6, y7, y8, rfl, s4, ew, pw, eq, pd, hpre, hin, hsz, hcnt, rfl⟩ := hW
  have hX : ∀ x, x ∈ [wl, q0] → ∃ ys, H3 x = some (.lst ys) := fun x hx => by
    rcases List.mem_cons.mp hx with z | z
    · exact ⟨_, z ▸ ew⟩
    · exact ⟨_, (List.mem_singleton.mp z) ▸ eq⟩
  refine ⟨.ref wl, rfl, !(ts.map V.ref).reverse.isEmpty, .inl ⟨_, .of ew, rfl⟩, ?_⟩
  rw [rev_empty]
  cases pw with
  | nil =>
    refine iteF ?_
    refine ⟨_, rfl, q H3 q0 rows s4 hq eq ?_⟩
    rw [hpre]
    show Paired _ rows (dn ++ [])
    rw [List.append_nil]
    exact Paired.mapP pd fun R z ⟨b, h1, h2, h3, h4⟩ => ⟨b, h1, h2, fun e => h3 (e ▸ in2r), h4⟩
  | @cons T x ts2 ws2 hx hxs =>
    obtain ⟨xv, xu, xf, xb, xp⟩ := x
    refine iteT ⟨fun σ' H' => ∃ m', m' < wtTurns (⟨xv, xu, xf, xb, xp⟩ :: ws2) ∧ ∃ (ts : List Addr) (ws : List Wt) (rows : List Addr) (dn : List (Nat × List (Nat × Bool))) (y3 y4 y5 y6 y7 y8 : Option V), σ' = [some v, some (.ref q0), some (.ref wl), y3, y4, y5, y6, y7, y8] ∧ Same H H' ∧ H' wl = some (.lst (ts.map V.ref).reverse) ∧ Paired (WtOk H H' [wl, q0]) ts ws ∧ H' q0 = some (.lst (rows.map V.ref)) ∧ Paired (RowOk H H' [wl, q0]) rows dn ∧
      pre t 0 [] = dn ++ wtPre ws ∧ (∀ x, x ∈ ws → x.p.length + x.u.size ≤ t.size) ∧ dn.length + wtSizes ws ≤ t.size ∧ ts.length + wtSizes ws ≤ t.size + 1 ∧ m' = wtTurns ws, fun σ' H' hN => hN, ?_⟩
    obtain ⟨eT, hxt, hpa', nb', fb'⟩ := hx
    have hpa : PathAt H3 xb xp := hpa'
    have nb : xb ∉ [wl, q0] := nb'
    have fb : H xb = none := fb'
    clear hpa' nb' fb'
    have nTw : T ≠ wl := tup_ne eT ew
    refine ⟨.ref wl, rfl, .inl ⟨rfl, _, .of ew⟩, wl, _, .ref T, rfl, rfl, ew, last_rev, ?_⟩
    rw [List.map_cons, drop_rev]
    have k5 : Stay [wl, q0] H3 (upd H3 wl (.lst (ts2.map V.ref).reverse)) := .at in2l
    have eT4 : (upd H3 wl (.lst (ts2.map V.ref).reverse)) T = some (.tup [xv, natV xf, .ref xb]) := by rw [upd_ne nTw]; exact eT
    refine ⟨T, _, rfl, .of eT4, rfl, _, _, rfl, _, _, rfl, _, [], rfl, rfl, ?_⟩
    have ew5 : (upd H3 wl (.lst (ts2.map V.ref).reverse)) wl = some (.lst (ts2.map V.ref).reverse) := upd_same
    have eq5 : (upd H3 wl (.lst (ts2.map V.ref).reverse)) q0 = some (.lst (rows.map V.ref)) := by rw [upd_ne nqw]; exact eq
    generalize upd H3 wl (.lst (ts2.map V.ref).reverse) = H5 at eT4 k5 ew5 eq5 ⊢
    have fr : ∀ x, x ∈ [wl, q0] → H x = none := fun x hx => by
      rcases List.mem_cons.mp hx with z | z
      · exact z ▸ hw
      · exact (List.mem_singleton.mp z) ▸ hq
    refine ⟨_, rfl, rfl, _, rfl, ?_⟩
    rw [List.length_cons] at hcnt
    have hin2 := fun x hx => hin x (List.mem_cons_of_mem _ hx)
    have hin1 : xp.length + xu.size ≤ t.size := hin ⟨xv, xu, xf, xb, xp⟩ List.mem_cons_self
    cases hxt with
    | nil =>
      refine iteF ?_
      have z1 : wtSizes (⟨.non, .nil, xf, xb, xp⟩ :: ws2) = 0 + wtSizes ws2 := rfl
      refine ⟨wtTurns ws2, by show wtTurns ws2 < 2 * 0 + 1 + wtTurns ws2; omega, ts2, ws2, rows, dn, _, _, _, _, _, _, rfl, k5.same s4 fr, ew5, Paired.mapP hxs fun a z h => h.stay k5 hX, eq5, Paired.mapP pd fun a z h => h.stay k5 hX, hpre, hin2, by omega, by omega, rfl⟩
    | @nod b x1 x2 l r eb hl hr2 =>
      refine iteT ?_
      have s5 := k5.same s4 fr
      rw [size_nod] at hin1
      have zz : wtSizes (⟨.ref b, .nod l r, xf, xb, xp⟩ :: ws2) = (l.size + 1 + r.size) + wtSizes ws2 := rfl
      rw [zz] at hsz hcnt
      have lrows : rows.length = dn.length := Paired.length pd
      refine ⟨_, rfl, b, [x1, x2], rfl, .of (s5 _ _ eb), rfl, x1, _, rfl, x2, [], rfl, rfl, ?_⟩
      refine ⟨_, rfl, x1, rfl, x1, l, rfl, hl.same s5, by omega, fun H6 s6 => ⟨_, _, rfl, rfl, ?_⟩⟩
      have en : V.int ((xf : Int) + (l.size : Int)) = natV (xf + l.size) := congrArg V.int (by omega)
      have k6 := k5.trans (.of s6)
      -- the row
      refine ⟨_, rfl, .inl ⟨rfl, _, .of (s6 _ _ eq5)⟩, _, rfl, _, rfl, (by show 2 ≤ sizeLine; decide), fun R hR => ?_⟩
      have a0 := Same.new (o := .tup [V.int ((xf : Int) + (l.size : Int)), .ref xb]) hR
      refine ⟨q0, _, _, rfl, rfl, a0 _ _ (s6 _ _ eq5), ?_, ?_⟩
      · rw [List.length_map]
        exact small1000 (by omega)
      have k7 := (k6.anew (p := R) (o := .tup [V.int ((xf : Int) + (l.size : Int)), .ref xb]) hR).put (p := q0) (o := .lst (rows.map V.ref ++ [V.ref R])) in2r
      have nRq : R ≠ q0 := (ne_of_none (s6 _ _ eq5) hR).symm
      have nRw : R ≠ wl := (ne_of_none (s6 _ _ ew5) hR).symm
      have eR7 : (upd (upd H6 R (.tup [V.int ((xf : Int) + (l.size : Int)), .ref xb])) q0 (.lst (rows.map V.ref ++ [V.ref R]))) R = some (.tup [natV (xf + l.size), .ref xb]) := by
        rw [upd_ne nRq, upd_same, en]
      have ew7 : (upd (upd H6 R (.tup [V.int ((xf : Int) + (l.size : Int)), .ref xb])) q0 (.lst (rows.map V.ref ++ [V.ref R]))) wl = some (.lst (ts2.map V.ref).reverse) := by
        rw [upd_ne nqw.symm]
        exact a0 _ _ (s6 _ _ ew5)
      have eq7 : (upd (upd H6 R (.tup [V.int ((xf : Int) + (l.size : Int)), .ref xb])) q0 (.lst (rows.map V.ref ++ [V.ref R]))) q0 = some (.lst ((rows ++ [R]).map V.ref)) := by
        rw [upd_same, List.map_append]
        rfl
      generalize upd (upd H6 R (.tup [V.int ((xf : Int) + (l.size : Int)), .ref xb])) q0 (.lst (rows.map V.ref ++ [V.ref R])) = H7 at k7 eR7 ew7 eq7 ⊢
      have en2 : V.int ((xf : Int) + (l.size : Int) + 1) = natV (xf + l.size + 1) := congrArg V.int (by omega)
      -- the right part waits
      obtain ⟨tups, exb, pt⟩ := hpa.stay k7 nb hX
      have ltp := Paired.length pt
      refine ⟨_, rfl, .inl ⟨rfl, _, .of ew7⟩, x2, rfl, _, rfl, _, _, rfl, rfl, _, rfl, _, rfl, (by show 2 ≤ sizeLine; decide), fun t2 ht2 => ⟨(by show 1 ≤ sizeLine; decide), fun l2 hl2 => ?_⟩⟩
      have a1 := Same.new (o := .tup [V.int ((xf : Int) + (l.size : Int)), .str "right"]) ht2
      have a2 := Same.new (o := .lst [V.ref t2]) hl2
      refine ⟨xb, l2, _, _, rfl, rfl, a2 _ _ (a1 _ _ exb), upd_same, ?_, fun c2 hc2 => ⟨(by show 3 ≤ sizeLine; decide), fun T2 hT2 => ?_⟩⟩
      · rw [List.length_map]
        show tups.length + 1 ≤ sizeLine
        exact Nat.le_of_lt (small1000 (by omega))
      have a3 := Same.new (o := .lst (tups.map V.ref ++ [V.ref t2])) hc2
      have a4 := Same.new (o := .tup [x2, V.int ((xf : Int) + (l.size : Int) + 1), .ref c2]) hT2
      have aS := a1.trans (a2.trans (a3.trans a4))
      have pm2 := (path_more (z := (xf + l.size, true)) en rfl pt ht2 hl2 hc2).same a4
      have nc2w : c2 ≠ wl := (ne_of_none (a2 _ _ (a1 _ _ ew7)) hc2).symm
      have nc2q : c2 ≠ q0 := (ne_of_none (a2 _ _ (a1 _ _ eq7)) hc2).symm
      refine ⟨wl, _, _, rfl, rfl, aS _ _ ew7, ?_, ?_⟩
      · rw [List.length_reverse, List.length_map]
        exact small1000 (by omega)
      have k8 := (k7.then aS).put (p := wl) (o := .lst ((ts2.map V.ref).reverse ++ [V.ref T2])) in2l
      have eq8 : (upd (upd (upd (upd (upd H7 t2 (.tup [V.int ((xf : Int) + (l.size : Int)), .str "right"])) l2 (.lst [V.ref t2])) c2 (.lst (tups.map V.ref ++ [V.ref t2]))) T2 (.tup [x2, V.int ((xf : Int) + (l.size : Int) + 1), .ref c2])) wl (.lst ((ts2.map V.ref).reverse ++ [V.ref T2]))) q0 = some (.lst ((rows ++ [R]).map V.ref)) := by
        rw [upd_ne nqw]
        exact aS _ _ eq7
      have kB : Stay [wl, q0] H7 (upd (upd (upd (upd (upd H7 t2 (.tup [V.int ((xf : Int) + (l.size : Int)), .str "right"])) l2 (.lst [V.ref t2])) c2 (.lst (tups.map V.ref ++ [V.ref t2]))) T2 (.tup [x2, V.int ((xf : Int) + (l.size : Int) + 1), .ref c2])) wl (.lst ((ts2.map V.ref).reverse ++ [V.ref T2]))) := ((Stay.of aS).put in2l)
      have w2 : WtOk H (upd (upd (upd (upd H7 t2 (.tup [V.int ((xf : Int) + (l.size : Int)), .str "right"])) l2 (.lst [V.ref t2])) c2 (.lst (tups.map V.ref ++ [V.ref t2]))) T2 (.tup [x2, V.int ((xf : Int) + (l.size : Int) + 1), .ref c2])) [wl, q0] T2 ⟨x2, r, xf + l.size + 1, c2, xp ++ [(xf + l.size, true)]⟩ := ⟨by rw [upd_same, en2], hr2, pm2, no2 nc2w nc2q, ((k7.same s4 fr).trans (a1.trans a2)).free hc2⟩
      have hX8 : ∀ x, x ∈ [wl, q0] → ∃ ys, (upd (upd (upd (upd H7 t2 (.tup [V.int ((xf : Int) + (l.size : Int)), .str "right"])) l2 (.lst [V.ref t2])) c2 (.lst (tups.map V.ref ++ [V.ref t2]))) T2 (.tup [x2, V.int ((xf : Int) + (l.size : Int) + 1), .ref c2])) x = some (.lst ys) := fun x hx => by
        rcases List.mem_cons.mp hx with z | z
        · exact ⟨_, z ▸ aS _ _ ew7⟩
        · exact ⟨_, (List.mem_singleton.mp z) ▸ aS _ _ eq7⟩
      have w28 := w2.stay (.at (p := wl) (o := .lst ((ts2.map V.ref).reverse ++ [V.ref T2])) in2l) hX8
      have ew8 : (upd (upd (upd (upd (upd H7 t2 (.tup [V.int ((xf : Int) + (l.size : Int)), .str "right"])) l2 (.lst [V.ref t2])) c2 (.lst (tups.map V.ref ++ [V.ref t2]))) T2 (.tup [x2, V.int ((xf : Int) + (l.size : Int) + 1), .ref c2])) wl (.lst ((ts2.map V.ref).reverse ++ [V.ref T2]))) wl = some (.lst ((ts2.map V.ref).reverse ++ [V.ref T2])) := upd_same
      clear w2 hX8 pm2 a1 a2 a3 a4 aS exb pt ew7
      generalize upd (upd (upd (upd (upd H7 t2 (.tup [V.int ((xf : Int) + (l.size : Int)), .str "right"])) l2 (.lst [V.ref t2])) c2 (.lst (tups.map V.ref ++ [V.ref t2]))) T2 (.tup [x2, V.int ((xf : Int) + (l.size : Int) + 1), .ref c2])) wl (.lst ((ts2.map V.ref).reverse ++ [V.ref T2])) = H8 at k8 eq8 kB w28 ew8 ⊢
      have hX9 : ∀ x, x ∈ [wl, q0] → ∃ ys, H8 x = some (.lst ys) := fun x hx => by
        rcases List.mem_cons.mp hx with z | z
        · exact ⟨_, z ▸ ew8⟩
        · exact ⟨_, (List.mem_singleton.mp z) ▸ eq8⟩
      -- the left part waits
      obtain ⟨tups, exb, pt⟩ := hpa.stay k8 nb hX
      have ltp := Paired.length pt
      refine ⟨_, rfl, .inl ⟨rfl, _, .of ew8⟩, x1, rfl, _, rfl, _, rfl, _, rfl, (by show 2 ≤ sizeLine; decide), fun t1 ht1 => ⟨(by show 1 ≤ sizeLine; decide), fun l1 hl1 => ?_⟩⟩
      have a1 := Same.new (o := .tup [V.int ((xf : Int) + (l.size : Int)), .str "left"]) ht1
      have a2 := Same.new (o := .lst [V.ref t1]) hl1
      refine ⟨xb, l1, _, _, rfl, rfl, a2 _ _ (a1 _ _ exb), upd_same, ?_, fun c1 hc1 => ⟨(by show 3 ≤ sizeLine; decide), fun T1 hT1 => ?_⟩⟩
      · rw [List.length_map]
        show tups.length + 1 ≤ sizeLine
        exact Nat.le_of_lt (small1000 (by omega))
      have a3 := Same.new (o := .lst (tups.map V.ref ++ [V.ref t1])) hc1
      have a4 := Same.new (o := .tup [x1, natV xf, .ref c1]) hT1
      have aS := a1.trans (a2.trans (a3.trans a4))
      have pm1 := (path_more (z := (xf + l.size, false)) en rfl pt ht1 hl1 hc1).same a4
      have nc1w : c1 ≠ wl := (ne_of_none (a2 _ _ (a1 _ _ ew8)) hc1).symm
      have nc1q : c1 ≠ q0 := (ne_of_none (a2 _ _ (a1 _ _ eq8)) hc1).symm
      refine ⟨wl, _, _, rfl, rfl, aS _ _ ew8, ?_, ?_⟩
      · rw [List.length_append, List.length_reverse, List.length_map, List.length_singleton]
        exact small1000 (by omega)
      have kC : Stay [wl, q0] H8 (upd (upd (upd (upd (upd H8 t1 (.tup [V.int ((xf : Int) + (l.size : Int)), .str "left"])) l1 (.lst [V.ref t1])) c1 (.lst (tups.map V.ref ++ [V.ref t1]))) T1 (.tup [x1, natV xf, .ref c1])) wl (.lst ((ts2.map V.ref).reverse ++ [V.ref T2] ++ [V.ref T1]))) := ((Stay.of aS).put in2l)
      have k9 := k8.trans kC
      have kD := kB.trans kC
      have w29 := w28.stay kC hX9
      have hXA : ∀ x, x ∈ [wl, q0] → ∃ ys, (upd (upd (upd (upd H8 t1 (.tup [V.int ((xf : Int) + (l.size : Int)), .str "left"])) l1 (.lst [V.ref t1])) c1 (.lst (tups.map V.ref ++ [V.ref t1]))) T1 (.tup [x1, natV xf, .ref c1])) x = some (.lst ys) := fun x hx => by
        rcases List.mem_cons.mp hx with z | z
        · exact ⟨_, z ▸ aS _ _ ew8⟩
        · exact ⟨_, (List.mem_singleton.mp z) ▸ aS _ _ eq8⟩
      have w1 : WtOk H (upd (upd (upd (upd H8 t1 (.tup [V.int ((xf : Int) + (l.size : Int)), .str "left"])) l1 (.lst [V.ref t1])) c1 (.lst (tups.map V.ref ++ [V.ref t1]))) T1 (.tup [x1, natV xf, .ref c1])) [wl, q0] T1 ⟨x1, l, xf, c1, xp ++ [(xf + l.size, false)]⟩ := ⟨upd_same, hl, pm1, no2 nc1w nc1q, ((k8.same s4 fr).trans (a1.trans a2)).free hc1⟩
      have w19 := w1.stay (.at (p := wl) (o := .lst ((ts2.map V.ref).reverse ++ [V.ref T2] ++ [V.ref T1])) in2l) hXA
      have eq9 : (upd (upd (upd (upd (upd H8 t1 (.tup [V.int ((xf : Int) + (l.size : Int)), .str "left"])) l1 (.lst [V.ref t1])) c1 (.lst (tups.map V.ref ++ [V.ref t1]))) T1 (.tup [x1, natV xf, .ref c1])) wl (.lst ((ts2.map V.ref).reverse ++ [V.ref T2] ++ [V.ref T1]))) q0 = some (.lst ((rows ++ [R]).map V.ref)) := by
        rw [upd_ne nqw]
        exact aS _ _ eq8
      have ew9 : (upd (upd (upd (upd (upd H8 t1 (.tup [V.int ((xf : Int) + (l.size : Int)), .str "left"])) l1 (.lst [V.ref t1])) c1 (.lst (tups.map V.ref ++ [V.ref t1]))) T1 (.tup [x1, natV xf, .ref c1])) wl (.lst ((ts2.map V.ref).reverse ++ [V.ref T2] ++ [V.ref T1]))) wl = some (.lst ((T1 :: T2 :: ts2).map V.ref).reverse) := by
        rw [upd_same, List.map_cons, List.map_cons, List.reverse_cons, List.reverse_cons]
      generalize upd (upd (upd (upd (upd H8 t1 (.tup [V.int ((xf : Int) + (l.size : Int)), .str "left"])) l1 (.lst [V.ref t1])) c1 (.lst (tups.map V.ref ++ [V.ref t1]))) T1 (.tup [x1, natV xf, .ref c1])) wl (.lst ((ts2.map V.ref).reverse ++ [V.ref T2] ++ [V.ref T1])) = H9 at kC k9 kD w29 w19 eq9 ew9 ⊢
      have eR9 := kD _ _ (no2 nRw nRq) eR7
      refine ⟨wtTurns (⟨x1, l, xf, c1, xp ++ [(xf + l.size, false)]⟩ :: ⟨x2, r, xf + l.size + 1, c2, xp ++ [(xf + l.size, true)]⟩ :: ws2), ?_, T1 :: T2 :: ts2, ⟨x1, l, xf, c1, xp ++ [(xf + l.size, false)]⟩ :: ⟨x2, r, xf + l.size + 1, c2, xp ++ [(xf + l.size, true)]⟩ :: ws2, rows ++ [R], dn ++ [(xf + l.size, xp)], _, _, _, _, _, _, rfl, k9.same s4 fr, ew9, .cons w19 (.cons w29 (Paired.mapP hxs fun a z h => h.stay k9 hX)), eq9, Paired.app (Paired.mapP pd fun a z h => h.stay k9 hX) (.cons ⟨xb, eR9, hpa.stay k9 nb hX, nb, fb⟩ .nil), ?_, fun x hx => ?_, ?_, ?_, rfl⟩
      · show 2 * l.size + 1 + (2 * r.size + 1 + wtTurns ws2) < 2 * (l.size + 1 + r.size) + 1 + wtTurns ws2
        omega
      · rw [hpre]
        show dn ++ (((xf + l.size, xp) :: (pre l xf (xp ++ [(xf + l.size, false)]) ++ pre r (xf + l.size + 1) (xp ++ [(xf + l.size, true)]))) ++ wtPre ws2) = dn ++ [(xf + l.size, xp)] ++ (pre l xf (xp ++ [(xf + l.size, false)]) ++ (pre r (xf + l.size + 1) (xp ++ [(xf + l.size, true)]) ++ wtPre ws2))
        simp only [List.append_assoc, List.cons_append, List.nil_append]
      · rcases List.mem_cons.mp hx with z | z
        · rw [z]
          show (xp ++ [(xf + l.size, false)]).length + l.size ≤ t.size
          rw [List.length_append, List.length_singleton]
          omega
        · rcases List.mem_cons.mp z with z | z
          · rw [z]
            show (xp ++ [(xf + l.size, true)]).length + r.size ≤ t.size
            rw [List.length_append, List.length_singleton]
            omega
          · exact hin2 x z
      · rw [List.length_append, List.length_singleton]
        show dn.length + 1 + (l.size + (r.size + wtSizes ws2)) ≤ t.size
        omega
      · show ts2.length + 1 + 1 + (l.size + (r.size + wtSizes ws2)) ≤ t.size + 1
        omega
/-! ### paths_of -/
def spPaths : Sp := fun vs H Q _ => ∃ (v : V) (t : Tr), vs = [v] ∧ TrAt H v t ∧ t.size ≤ 300 ∧ ∀ (H' : Hp) (q : Addr), Same H H' → H q = none → WaysAt H' q t → Q (.ref q) H'
end
end HSP
namespace HSP
open PySem PySem.Spec PyProof.Rows L2
section
variable {P : Program} {w : World} {K : PySem.W.Frag} {mg : Str → Option Value} {base : Heap}
/-! ### check_row -/
def spChkR : Sp := fun vs H Q _ => ∃ (a : Addr) (ns : List Int), vs = [.ref a] ∧ H a = some (.lst (ns.map V.int)) ∧ ∀ H', Same H H' → Q .non H'
end
end HSP
namespace HSP
open PySem PySem.Spec PyProof.Rows L2
section
variable {P : Program} {w : World} {K : PySem.W.Frag} {mg : Str → Option Value} {base : Heap}
/-! ### check_values -/
def spChkV : Sp := fun vs H Q _ => ∃ (v : V) (t : Tr) (a : Addr) (ns : List Int), vs = [v, .ref a] ∧ TrAt H v t ∧ t.size ≤ 1000 ∧ H a = some (.lst (ns.map V.int)) ∧ ns.length = t.size ∧ ∀ H', Same H H' → Q .non H'
end
end HSP
namespace HSP
open PySem PySem.Spec PyProof.Rows L2
/-! ### intervals and labels -/
/-- the bounds that a path gives -/
def lowOf (g : Nat → Int) : List (Nat × Bool) → Option Int
  | [] => none
  | (n, true) :: r => match lowOf g r with
    | none => some (g n)
    | some m => some (max (g n) m)
  | (_, false) :: r => lowOf g r
def highOf (g : Nat → Int) : List (Nat × Bool) → Option Int
  | [] => none
  | (n, false) :: r => match highOf g r with
    | none => some (g n)
    | some m => some (min (g n) m)
  | (_, true) :: r => highOf g r
/-- the values above on one side -/
def above (g : Nat → Int) (b : Bool) (p : List (Nat × Bool)) : List Int := (p.filter fun z => z.2 == b).map fun z => g z.1
def optV : Option Int → V
  | none => .non
  | some i => .int i
theorem low_spec (g : Nat → Int) : ∀ p : List (Nat × Bool), (above g true p = [] → lowOf g p = none) ∧ ∀ m, m ∈ above g true p → (∀ y, y ∈ above g true p → y ≤ m) → lowOf g p = some m
  | [] => ⟨fun _ => rfl, fun m hm => by cases hm⟩
  | (n, false) :: r => low_spec g r
  | (n, true) :: r => by
    obtain ⟨h1, h2⟩ := low_spec g r
    have e : above g true ((n, true) :: r) = g n :: above g true r := rfl
    have el : lowOf g ((n, true) :: r) = match lowOf g r with | none => some (g n) | some m => some (max (g n) m) := rfl
    rw [e]
    refine ⟨fun z => absurd z (List.cons_ne_nil _ _), fun m hm hle => ?_⟩
    by_cases c : above g true r = []
    · rw [el, h1 c]
      rw [c] at hm
      exact congrArg some (List.mem_singleton.mp hm).symm
    · obtain ⟨x, hx, hxm⟩ : ∃ x, x ∈ above g true r ∧ ∀ y, y ∈ above g true r → y ≤ x := by
        cases q : above g true r with
        | nil => exact absurd q c
        | cons y ys => exact ⟨_, (maxOf_spec ys y).1, (maxOf_spec ys y).2⟩
      rw [el, h2 x hx hxm]
      have a1 := hle (g n) List.mem_cons_self
      have a2 := hle x (List.mem_cons_of_mem _ hx)
      rcases List.mem_cons.mp hm with z | z
      · exact congrArg some (by omega)
      · have a3 := hxm m z
        exact congrArg some (by omega)
theorem high_spec (g : Nat → Int) : ∀ p : List (Nat × Bool), (above g false p = [] → highOf g p = none) ∧ ∀ m, m ∈ above g false p → (∀ y, y ∈ above g false p → m ≤ y) → highOf g p = some m
  | [] => ⟨fun _ => rfl, fun m hm => by cases hm⟩
  | (n, true) :: r => high_spec g r
  | (n, false) :: r => by
    obtain ⟨h1, h2⟩ := high_spec g r
    have e : above g false ((n, false) :: r) = g n :: above g false r := rfl
    have el : highOf g ((n, false) :: r) = match highOf g r with | none => some (g n) | some m => some (min (g n) m) := rfl
    rw [e]
    refine ⟨fun z => absurd z (List.cons_ne_nil _ _), fun m hm hle => ?_⟩
    by_cases c : above g false r = []
    · rw [el, h1 c]
      rw [c] at hm
      exact congrArg some (List.mem_singleton.mp hm).symm
    · obtain ⟨x, hx, hxm⟩ : ∃ x, x ∈ above g false r ∧ ∀ y, y ∈ above g false r → x ≤ y := by
        cases q : above g false r with
        | nil => exact absurd q c
        | cons y ys => exact ⟨_, (minOf_spec ys y).1, (minOf_spec ys y).2⟩
      rw [el, h2 x hx hxm]
      have a1 := hle (g n) List.mem_cons_self
      have a2 := hle x (List.mem_cons_of_mem _ hx)
      rcases List.mem_cons.mp hm with z | z
      · exact congrArg some (by omega)
      · have a3 := hxm m z
        exact congrArg some (by omega)
/-- the interval, none if it is empty -/
def bndOf (g : Nat → Int) (p : List (Nat × Bool)) : Option (Option Int × Option Int) :=
  match lowOf g p, highOf g p with
  | some a, some b => if a ≥ b then none else some (some a, some b)
  | a, b => some (a, b)
def BndAt (H : Hp) (v : V) (b : Option (Option Int × Option Int)) : Prop := match b with
  | none => v = .non
  | some (x, y) => ∃ e, v = .ref e ∧ H e = some (.tup [optV x, optV y])
inductive Lb where
  | dead | found | low | high
  deriving DecidableEq
def Lb.str : Lb → Str
  | .dead => "dead"
  | .found => "found"
  | .low => "low"
  | .high => "high"
def lbOf (b : Option (Option Int × Option Int)) (x : Int) : Lb := match b with
  | none => .dead
  | some (lo, hi) => match lo with
    | some l => if x ≤ l then .low else match hi with
      | some h => if x ≥ h then .high else .found
      | none => .found
    | none => match hi with
      | some h => if x ≥ h then .high else .found
      | none => .found
section
variable {P : Program} {w : World} {K : PySem.W.Frag} {mg : Str → Option Value} {base : Heap}
def spLabel : Sp := fun vs H Q _ => ∃ (v : V) (b : Option (Option Int × Option Int)) (x : Int), vs = [v, .int x] ∧ BndAt H v b ∧ Q (.str (lbOf b x).str) H
/-! ### bounds_below -/
theorem above_snoc (g : Nat → Int) (b : Bool) {p : List (Nat × Bool)} {i : Nat} {z : Nat × Bool} (h : p[i]? = some z) : above g b (p.take (i + 1)) = above g b (p.take i) ++ if z.2 == b then [g z.1] else [] := by
  unfold above
  rw [List.take_add_one, h]
  show List.map _ (List.filter _ (p.take i ++ [z])) = _
  rw [List.filter_append, List.map_append]
  congr 1
  unfold List.filter
  cases z.2 == b <;> rfl
theorem above_len (g : Nat → Int) (b : Bool) (p : List (Nat × Bool)) : (above g b p).length ≤ p.length := by
  unfold above
  rw [List.length_map]
  exact List.length_filter_le _ _
def spBounds : Sp := fun vs H Q _ => ∃ (a r : Addr) (ns : List Int) (p : List (Nat × Bool)), vs = [.ref a, .ref r] ∧ H a = some (.lst (ns.map V.int)) ∧ PathAt H r p ∧ p.length ≤ 900 ∧ (∀ z, z ∈ p → z.1 < ns.length) ∧ ∀ (H' : Hp) (v : V), Same H H' → BndAt H' v (bndOf (valAt ns) p) → Q v H'
end
end HSP
namespace HSP
open PySem PySem.Spec PyProof.Rows L2
/-- the label of a node -/
def labAt (g : Nat → Int) (t : Tr) (i : Nat) : Lb := lbOf (bndOf g (pOf t 0 i)) (g i)
def labsV (g : Nat → Int) (t : Tr) (n : Nat) : List V := (List.range n).map fun i => V.str (labAt g t i).str
theorem labsV_len (g : Nat → Int) (t : Tr) (n : Nat) : (labsV g t n).length = n := by
  unfold labsV
  rw [List.length_map, List.length_range]
theorem labsV_more (g : Nat → Int) (t : Tr) (n : Nat) : labsV g t (n + 1) = labsV g t n ++ [V.str (labAt g t n).str] := by
  unfold labsV
  rw [List.range_succ, List.map_append]
  rfl
/-- the nodes that are found -/
def foundOf (g : Nat → Int) (t : Tr) (n : Nat) : List Nat := (List.range n).filter fun i => labAt g t i == .found
theorem foundOf_more (g : Nat → Int) (t : Tr) (n : Nat) : foundOf g t (n + 1) = foundOf g t n ++ if labAt g t n == .found then [n] else [] := by
  unfold foundOf
  rw [List.range_succ, List.filter_append]
  congr 1
  unfold List.filter
  cases labAt g t n == .found <;> rfl
theorem foundOf_len (g : Nat → Int) (t : Tr) (n : Nat) : (foundOf g t n).length ≤ n := by
  have h := List.length_filter_le (fun i => labAt g t i == .found) (List.range n)
  rw [List.length_range] at h
  exact h
section
variable {P : Program} {w : World} {K : PySem.W.Frag} {mg : Str → Option Value} {base : Heap}
/-! ### labels_of -/
def spLabels : Sp := fun vs H Q _ => ∃ (v : V) (t : Tr) (a : Addr) (ns : List Int), vs = [v, .ref a] ∧ TrAt H v t ∧ t.size ≤ 300 ∧ H a = some (.lst (ns.map V.int)) ∧ ns.length = t.size ∧ ∀ (H' : Hp) (q : Addr), Same H H' → H q = none → H' q = some (.lst (labsV (valAt ns) t t.size)) → Q (.ref q) H'
end
end HSP
namespace HSP
open PySem PySem.Spec PyProof.Rows L2
/-! ## defs that may show an object: nothing is being shown around them -/
structure FnG (P : Program) (w : World) (K : PySem.W.Frag) (mg : Str → Option Value) (base : Heap) (CX : CXT) (k : Nat) (f : Addr) (fd : FuncData) (ps : List Str) (sp : Sp) : Prop where
  len : ∀ vs H Q E, sp vs H Q E → vs.length = ps.length
  run : ∀ (A : Around) (outer : List Env) (s : Shared) (H : Hp) (args : Args) (us : List Value) (vs : List V) (Q : VK) (E : XK), A.guards = some [] → Room k A → Env0 P w K mg base A outer s H → BindsTo s fd args (ps.zip us) → Vals vs us → sp vs H Q E →
    codeAny (model P w) A (.call (.ref f) args) (CR CX outer P w H s Q E) s
section
variable {P : Program} {w : World} {K : PySem.W.Frag} {mg : Str → Option Value} {base : Heap}
theorem FnG.of {CX : CXT} {k : Nat} {f : Addr} {fd : FuncData} {ps : List Str} {sp : Sp} (F : FnOk P w K mg base CX k f fd ps sp) : FnG P w K mg base CX k f fd ps sp :=
  ⟨F.len, fun A outer s H args us vs Q E _ hr e hb hv hs => F.run A outer s H args us vs Q E hr e hb hv hs⟩
theorem FnG.mk' {CX : CXT} {x qual : Str} {st : Stmt} {f : Addr} {fd : FuncData} {N ps : List Str} {k : Nat} {sp : Sp} (F : Fun K x qual st f fd) (S : FnScope N ps (defScope st)) (len : ∀ vs H Q E, sp vs H Q E → vs.length = ps.length)
    (body : ∀ (cdv : Value) (A : Around) (outer : List Env) (s : Shared) (H : Hp) (vs : List V) (Q : VK) (E : XK), A.guards = some [] → Room k (A.deeper (envOfC qual (defScope st) s.heap.objs.size f cdv)) → sp vs H Q E →
      ∃ t, PSs (cxOf CX P w K mg base N qual (defScope st) f cdv A outer s H E) (defBody st) t ∧ t { nx := fun _ H' => Q .non H', rt := Q } (start N vs) H) : FnG P w K mg base CX (k + 1) f fd ps sp := by
  obtain ⟨oc, od, kV, doc, pm, an, cdv, ct, osl, e1, lk, hcd⟩ := F.ex
  subst e1
  refine ⟨len, fun A outer s H args us vs Q E hg hr e0 hb rv hs => ?_⟩
  have kin : K.In s.heap := e0.mod.kin.keeps fun b o e => (e0.bs b o e).1
  have nol : s.heap.NoLimit := e0.mod.nolimit.keeps fun b o e => (e0.bs b o e).1
  have kinds : ∀ y ∈ ps.zip us, (defScope st).names.lookup y.1 = some .local ∨ ((defScope st).names.lookup y.1 = some .cell ∧ ((cellsFrom (s.heap.objs.size + 1) (defScope st).names []).lookup y.1).isSome = true) := by
    intro y hy
    refine (S.par y.1 (List.of_mem_zip (a := y.1) (b := y.2) hy).1).imp id fun c => ⟨c, PySem.W.cellsFrom_some _ _ _ (.inl c)⟩
  refine codeAny_call_function hr.depth (kin _ _ lk) rfl S.co S.gen rfl (PySem.W.codeRec_of kin hcd) (hb _ _ _ _ (wpAny_newFunctionEnv_cells S.kind kinds fun env he s1 x => ?_))
  subst he
  obtain ⟨t, ht, hq⟩ := body cdv A outer s H vs Q E hg (hr.deeper _) hs
  have I := inv_start (CX := CX) (E := E) S hr.hd e0 (len _ _ _ _ hs) rv x
  refine ⟨nol.keeps x.toInCall.keep, codeAny_func (wpAny_mono (ht.run [] s1 (start N vs) H _ I hq) (fun fl s' q => ?_) fun _ _ q => q)⟩
  match fl, q with
  | .ret u, ⟨v, σ', H', J, r, q⟩ => exact ⟨v, H', J.os, J.bare, J.base, J.hok, r, q⟩
  | .next, ⟨σ', H', J, q⟩ => exact ⟨.non, H', J.os, J.bare, J.base, J.hok, rfl, q⟩
  | .brk, ⟨_, _, _, q⟩ => exact q.elim
  | .cont, ⟨_, _, _, q⟩ => exact q.elim
end
end HSP
namespace HSP
open PySem PySem.Spec PyProof.Rows L2
theorem deeper_guards (A : Around) (env : Env) : (A.deeper env).guards = A.guards := rfl
/-! ### calls of such defs -/
structure DfG (P : Program) (w : World) (K : PySem.W.Frag) (mg : Str → Option Value) (base : Heap) (x : Str) (n : Nat) (ps : List Str) (sp : Sp) : Prop where
  ex : ∃ (f : Addr) (fd : FuncData), mg x = some (.ref f) ∧ PySem.W.keepIn K (.ref f) = true ∧ Binds K fd ps [] ∧ FnG P w K mg base CX0 n f fd ps sp
section
variable {P : Program} {w : World} {K : PySem.W.Frag} {mg : Str → Option Value} {base : Heap}
theorem DfG.mk' {x : Str} {st : Stmt} {N ps : List Str} {k : Nat} {sp : Sp} (a : At K mg x st) (S : FnScope N ps (defScope st)) (len : ∀ vs H Q E, sp vs H Q E → vs.length = ps.length)
    (hb : ∀ (kV doc pm : Value) (an : Option Addr) (cdv ct : Value) (us : List Value), us.length = ps.length → bindArgs (PySem.W.fnOf x x (defArgs st) (defBody st) (defScope st) .none kV doc pm an cdv ct) ⟨us, []⟩ = pure (ps.zip us))
    (body : ∀ (f : Addr) (cdv : Value) (A : Around) (outer : List Env) (s : Shared) (H : Hp) (vs : List V) (Q : VK) (E : XK), A.guards = some [] → Room k (A.deeper (envOfC x (defScope st) s.heap.objs.size f cdv)) → sp vs H Q E →
      ∃ t, PSs (cxOf CX0 P w K mg base N x (defScope st) f cdv A outer s H E).nox (defBody st) t ∧ t { nx := fun _ H' => Q .non H', rt := Q } (start N vs) H) : DfG P w K mg base x (k + 1) ps sp := by
  obtain ⟨f, fd, hm, F⟩ := a
  refine ⟨f, fd, hm, F.kp, F.binds hb, FnG.mk' F S len fun cdv A outer s H vs Q E hg hr hs => ?_⟩
  obtain ⟨t, h1, h2⟩ := body f cdv A outer s H vs Q E hg hr hs
  exact ⟨t, h1.nox, h2⟩
end
section
variable {X : Cx} {k n : Nat} {ps ks : List Str} {sp : Sp} {x : Str} {p pos : Pos} {e : Expr} {es : List Expr} {kws : List Keyword} {t tk : TA} {f : Addr} {fd : FuncData} {ds : List Value} {dvs : List V} {g : List Value → List Value → List Value} {gV : List V → List V → List V}
theorem pe_dfG (D : DfG X.prog X.w X.K X.mg X.base x k ps sp) (hgd : X.A.guards = some []) (hr : Room k X.A) (ha : PA X (e :: es) t) (hg : Gl X x := by rfl) (hdb : (x == ("__debug__" : Str)) = false := by decide)
    (he : starEach (e :: es) X.env = (false, eval e X.env) :: starEach es X.env := by rfl) (hpl : (backTo pos (starEach es X.env)).any (·.1) = false := by rfl) : PE X (.Call (.Name x p) (e :: es) [] pos) (tCall sp [] E0 t) := by
  obtain ⟨f, fd, hm, hk, hb, F⟩ := D.ex
  refine ⟨fun pins s σ H Q I h => wpAny_Call_Name_kw (ld_glob I hg hm ?_ hdb)⟩
  refine PySem.W.callWith_K (h₀ := X.base) I.ok.mod.kin hk (thn (ha.run pos pins s σ H _ I h) fun us s1 z => ?_) he hpl
  obtain ⟨vs, H1, I1, r, q⟩ := z
  refine ⟨I1.kIn, ?_⟩
  have q' : sp vs H1 Q E0 := by
    have z : sp (vs ++ []) H1 Q E0 := q
    rw [List.append_nil] at z
    exact z
  have l1 : (us ++ []).length = ps.length := by rw [List.append_nil, ← r.length]; exact F.len _ _ _ _ q'
  have hb' := hb s1 us I1.kIn l1
  rw [List.append_nil] at hb'
  refine wpAny_call (codeAny_mono (F.run X.A X.stack s1 H1 ⟨us, []⟩ us vs Q E0 hgd hr I1.env0 hb' r q') fun res s' hq => ?_)
  match res, hq with
  | .error _, hq => exact (show False from hq).elim
  | .ok (.ret u), hq => exact I1.after hq
/-- f(k = v, ..): keywords alone -/
theorem pe_callK0 {CX : CXT} {E : XK} (F : FnOk X.prog X.w X.K X.mg X.base CX k f fd ps sp) (hr : Room k X.A) (hg : Gl X x) (hm : X.mg x = some (.ref f)) (hk : PySem.W.keepIn X.K (.ref f) = true) (hb : KBn X.K fd ps 0 ks g gV) (hx : Passes CX X E) (hkw : PK X kws tk)
    (hall : (backToKw pos (keywordEach kws X.env)).all (·.1.isSome) = true := by rfl) (hks : (backToKw pos (keywordEach kws X.env)).filterMap (·.1) = ks := by rfl) (hdb : (x == ("__debug__" : Str)) = false := by decide)
    (hpl : (backToKw pos (keywordEach kws X.env)).any (·.1.isNone) = false := by rfl) : PE X (.Call (.Name x p) [] kws pos) (tCallN 0 ks.length sp gV E tNil tk) := by
  refine ⟨fun pins s σ H Q I h => wpAny_Call_Name_kw (ld_glob I hg hm ?_ hdb)⟩
  refine PySem.W.callWith_KW0 (h₀ := X.base) I.ok.mod.kin hk hall (thn (hkw.run pos pins s σ H _ I h) fun ws s1 z => ?_) hpl
  obtain ⟨zs, H1, I1, rz, l1, l2, q⟩ := z
  rw [hks]
  exact ⟨I1.kIn, run_fnN (us := []) F hr hb hx I1 .nil rz l1 l2 q⟩
/-! ### repr of data -/
def rReprD (K : PySem.W.Frag) : List V → Hp → VK → Prop := fun vs H Q => ∃ (a : Addr) (d : PyData), vs = [.ref a] ∧ Dp K H (.ref a) d ∧ d.showable = true ∧ d.hasDict = false ∧ d.depth ≤ 60 ∧ d.shown.length ≤ sizeLine ∧ Q (.str d.shown) H
theorem cr_reprD (hgd : X.A.guards = some []) (hu : X.A.units + 64 < cLine) : CallR X (.builtin "repr") (rReprD X.K) := by
  intro pins s σ H vs us Q I r h
  obtain ⟨a, d, rfl, hd, hs, hn, h60, hz, q⟩ := h
  rw [Vals.ref1 r]
  obtain ⟨as, rd⟩ := Dp.reads I d (.ref a) (.ref a) hd rfl
  exact repr_of_reads' rd hs (fun z => by rw [hn] at z; cases z) hgd (by omega) (fun _ _ e => e) (fun h' u tk kp => ⟨.str _, H, I.kept kp, ⟨u, rfl⟩, q⟩) hz
end
end HSP
namespace HSP
open PySem PySem.Spec PyProof.Rows L2
/-! ## the law's call, where nothing is being shown -/
section
variable {P : Program} {w : World} {K : PySem.W.Frag} {mg mb : Str → Option Value} {k : Nat} {fa a : Addr} {fd : FuncData} {x : Str} {sp : Sp} {s1 : Shared} {vs : List Value} {ns : List Int}
/-- from an abstract heap that tracks nothing but, perhaps, the script -/
theorem callG_core (kin : K.In s1.heap) (hns : s1.heap.Ns mainGlobals mg) (hb : s1.heap.Ns builtinsNs mb) (hbb : ∀ x : Str, x ≠ "__name__" → mb x = bootBuiltins x) (hlim : s1.heap.NoLimit) (hg : s1.gens = #[])
    (ha : s1.heap.get? a = some { cls := .type "list", data := .seq vs.toArray }) (hr : Room k callerA) (F : ∀ base : Heap, K.In base → base.Ns mainGlobals mg → FnG P w K mg base CX0 k fa fd [x] sp)
    (hbind : ∀ (s : Shared) (u : Value), BindsTo s fd ⟨[u], []⟩ [(x, u)]) (H : Hp) (hO : Only H) (hsp : sp [.ref a] H (fun v _ => v = .bl true) fun _ _ _ => False) (hok : HOk P w H s1.heap) (hA : ∀ b o, H b = some o → b = a) (hK : ∀ o, H a = some o → K.lookup a = none) :
    codeAny (model P w) callerA (.call (.ref fa) ⟨[.ref a], []⟩) (fun r s' => r = .ok (.ret (.bool true)) ∧ OldK s1.heap s'.heap ∧ s'.os = s1.os ∧ AllBare s'.gens) s1 := by
  -- no dict is tracked
  have free : ∀ {b : Addr} {o : Obj} {es : Array DictEntry} {ep : Nat}, s1.heap.get? b = some o → o.data = .dict es ep → H b = none := by
    intro b o es ep e d
    match q : H b with
    | none => rfl
    | some u =>
      rw [hA b u q, ha] at e
      cases e
      cases d
  have nsB : ∀ {b : Addr} {m : Str → Option Value}, s1.heap.Ns b m → (hidT s1.heap H).Ns b m := by
    intro b m h
    obtain ⟨o, es, ep, e, d, r⟩ := h
    exact ⟨o, es, ep, hidT_get e (free e d), d, r⟩
  have kinB : K.In (hidT s1.heap H) := by
    intro b o e
    refine hidT_get (kin b o e) ?_
    match q : H b with
    | none => rfl
    | some u =>
      have eb := hA b u q
      rw [eb] at e q
      rw [hK u q] at e
      cases e
  have md : Mod K mg (hidT s1.heap H) := by
    obtain ⟨mc, c1, c2⟩ := hlim
    exact ⟨kinB, nsB hns, ⟨mb, nsB hb, hbb⟩, mc, nsB c1, c2⟩
  have env : Env0 P w K mg (hidT s1.heap H) callerA [] s1 H := ⟨rfl, md, fun b o e => of_hidT e, Nat.le_of_eq (hidT_size _ _), trivial, (fun b z => by cases z), hok, .of_eq hg⟩
  refine codeAny_mono ((F _ kinB (nsB hns)).run callerA [] s1 H ⟨[.ref a], []⟩ [.ref a] [.ref a] _ _ rfl hr env (hbind s1 (.ref a)) (.cons rfl .nil) hsp) fun r s' h => ?_
  match r, h with
  | .error _, h => exact (show False from h).elim
  | .ok (.ret u), h =>
    obtain ⟨v, H', os, bare, un, hok', rv, q⟩ := h
    have q' : v = .bl true := q
    rw [q'] at rv
    have eu : u = Value.bool true := rv
    rw [eu]
    refine ⟨rfl, OldK.of_keep fun b o e => ?_, os, bare⟩
    match q : H b with
    | none => exact un.keep b o e q (fun z => by cases z) (fun z => by cases z)
    | some u =>
      rcases hO b with z | ⟨ob, xs, z⟩
      · rw [q] at z
        cases z
      · have b1 := (hok b _ z).1
        have b2 := (hok' b _ (un.frzs b ob _ z)).1
        rw [e] at b1
        cases b1
        exact b2
theorem law_callG (kin : K.In s1.heap) (hns : s1.heap.Ns mainGlobals mg) (hb : s1.heap.Ns builtinsNs mb) (hbb : ∀ x : Str, x ≠ "__name__" → mb x = bootBuiltins x) (hlim : s1.heap.NoLimit) (hg : s1.gens = #[])
    (ha : s1.heap.get? a = some { cls := .type "list", data := .seq vs.toArray }) (hi : IntsAre vs ns) (hl : ns.length ≤ sizeLine) (hr : Room k callerA) (F : ∀ base : Heap, K.In base → base.Ns mainGlobals mg → FnG P w K mg base CX0 k fa fd [x] sp)
    (hbind : ∀ (s : Shared) (u : Value), BindsTo s fd ⟨[u], []⟩ [(x, u)]) (hsp : ∀ H : Hp, Only H → SqL K H a (ns.map V.int) → sp [.ref a] H (fun v _ => v = .bl true) fun _ _ _ => False) :
    codeAny (model P w) callerA (.call (.ref fa) ⟨[.ref a], []⟩) (fun r s' => r = .ok (.ret (.bool true)) ∧ OldK s1.heap s'.heap ∧ s'.os = s1.os ∧ AllBare s'.gens) s1 := by
  have rv := vals_ints hi
  have le : vs.length = ns.length := hi.length
  match hk : K.lookup a with
  | some o =>
    have e := kin a o hk
    rw [ha] at e
    cases e
    refine callG_core kin hns hb hbb hlim hg ha hr F hbind (fun _ => none) (fun _ => .inl rfl) (hsp _ (fun _ => .inl rfl) ?_) (fun b u z => by cases z) (fun b o z => by cases z) (fun o z => by cases z)
    exact .inr ⟨_, vs.toArray, _, hk, rfl, rfl, rfl, by rw [List.size_toArray, le]; exact hl, by rw [List.toList_toArray]; exact rv⟩
  | none =>
    let H : Hp := fun b => if b = a then some (.frz { cls := .type "list", data := .seq vs.toArray } (.lst (ns.map V.int))) else none
    have at_a : H a = some (.frz { cls := .type "list", data := .seq vs.toArray } (.lst (ns.map V.int))) := if_pos rfl
    have off : ∀ b, b ≠ a → H b = none := fun b n => if_neg n
    have only : Only H := fun b => by
      by_cases c : b = a
      · rw [c]; exact .inr ⟨_, _, at_a⟩
      · exact .inl (off b c)
    refine callG_core kin hns hb hbb hlim hg ha hr F hbind H only (hsp H only (.inl (.inr ⟨_, at_a⟩))) (fun b u z => ?_) (fun b o z => ?_) (fun _ _ => hk)
    · by_cases c : b = a
      · rw [c] at z ⊢
        rw [at_a] at z
        cases z
        exact ⟨ha, by rw [List.length_map]; exact hl, vs, _, rv, ha⟩
      · rw [off b c] at z
        cases z
    · by_cases c : b = a
      · exact c
      · rw [off b c] at z
        cases z
end
/-- what the head leaves, from the law's promise -/
theorem walk_ofG {l : PySem.W.OpenLaw} {n k : Nat} {q : Program} {loose : List Str} {XP : (Str → Option Value) → Heap → Prop} {YP : World → Heap → Prop} {d : DefRec} {K : Params → PySem.W.Frag} {sp : World → Sp} {x : Str} (hn : l.most = some n) (hn2 : n ≤ sizeLine) (hdf : d.params.defaults = []) (hr : Room k callerA)
    (hY : ∀ (w : World) (h : Heap), YP w h → (K w.params).In h)
    (F : ∀ (w : World) (mg : Str → Option Value) (fa : Addr) (h : Heap), (K w.params).In h → h.Ns mainGlobals mg → mg d.name = some (.ref fa) → ∃ fd : FuncData, (∀ (s : Shared) (u : Value), BindsTo s fd ⟨[u], []⟩ [(x, u)]) ∧
        ∀ base : Heap, (K w.params).In base → base.Ns mainGlobals mg → FnG l.prog w (K w.params) mg base CX0 k fa fd [x] (sp w))
    (hsp : ∀ (w : World) (H : Hp) (a : Addr) (ns : List Int), ns.length ≤ n → Only H → SqL (K w.params) H a (ns.map V.int) → sp w [.ref a] H (fun v _ => v = .bl true) fun _ _ _ => False) : PySem.W.WalkO q loose XP YP l.row.toRowW d [] (fun f vs => PySem.call f vs) := by
  refine Att.attach_call hn hdf fun w s0 s1 mg mb fa o pm cd doc a vs ns G Y ho hd hcd hmg hobj hints hlen hg => ?_
  obtain ⟨fd, hbd, hF⟩ := F w mg fa _ (hY w _ Y) G.T.g hmg
  exact law_callG (hY w _ Y) G.T.g G.T.b G.T.builtins G.T.nolimit hg hobj hints (Nat.le_trans hlen hn2) hr hF hbd fun H hO hS => hsp w H a ns hlen hO hS
end HSP
namespace HSP
open PySem PySem.Spec PyProof.Rows L2
/-! ## sum(rows, start): lists put behind one another -/
/-- a list object with these items -/
def LO (its : List Value) (n : Nat) : Obj := { cls := .type "list", data := .seq its.toArray n }
section
variable {prog : Program} {w : World} {A : Around}
theorem sumL_loop {I S : Addr} {fp wr : List Addr} {n : Nat} {Pv : Nat → Value → Prop} {St : Nat → Heap → Prop} (W : Walks prog w A.in1 I fp wr n Pv St) (hS : S ∉ fp) (row : Nat → Addr) (part : Nat → List Value) (hv : ∀ i v, Pv i v → v = .ref (row i)) (R : Result → Shared → Prop)
    (most : Nat) (hmost : most ≤ sizeLine) (hfp : ∀ i h, St i h → ∀ b ∈ fp, b < h.objs.size) :
    ∀ (k i : Nat) (s : Shared) (T : Addr) (acc : List Value) (c cT : Nat), n - i = k → i ≤ n → St i s.heap → s.heap.get? S = some (LO [.ref T] c) → s.heap.get? T = some (LO acc cT) → T ≠ S → T ∉ wr →
      (∀ j, j < n → row j ≠ S ∧ row j ∉ wr ∧ ∃ m, s.heap.get? (row j) = some (LO (part j) m)) → acc.length + (((List.range n).drop i).map fun j => (part j).length).sum ≤ most →
      (∀ (s' : Shared) (T' : Addr) (c' : Nat), (∀ b o, b ∉ wr → b ≠ S → s.heap.get? b = some o → s'.heap.get? b = some o) → s'.gens = s.gens → s'.drawn = s.drawn → s'.os = s.os →
        s'.heap.get? T' = some (LO (acc ++ (((List.range n).drop i).map part).flatten) c') → T' ≠ S → T' ∉ wr → (i = n ∧ T' = T ∨ s.heap.get? T' = none) → R (.ok (.ret (.ref T'))) s') →
      codeAny (model prog w) A (.builtin "sum.loop" ⟨[.ref I, .ref S, rawInt 2, rawInt 0], []⟩) R s := by
  have hSw : S ∉ wr := fun h => hS (W.sub _ h)
  intro k
  induction k with
  | zero =>
    intro i s T acc c cT hk hi hst eS eT nTS nTw rows hz hR
    obtain rfl : i = n := by omega
    refine codeAny_builtin F.entry_sum_loop ?_
    rw [Around.under_plainId F.plain_sum_loop _]
    show wpAny _ A.in1 (seqItems? (.ref S) >>= _) _ _ s
    refine wpAny_bind (wpAny_seqItems eS rfl (wpAny_bind (wpAny_tryCatch (W.done s _ _ hst fun h' tk kp => ?_))))
    have e0 : ((List.range i).drop i) = [] := List.drop_eq_nil_of_le (by rw [List.length_range]; exact Nat.le_refl _)
    refine wpAny_pure (hR { s with heap := h', toks := tk } T cT (fun b o n1 _ e => kp b o n1 e) rfl rfl rfl ?_ nTS nTw (.inl ⟨rfl, rfl⟩))
    rw [e0, List.map_nil, List.flatten_nil, List.append_nil]
    exact kp T _ nTw eT
  | succ k ih =>
    intro i s T acc c cT hk hi hst eS eT nTS nTw rows hz hR
    have hlt : i < n := by omega
    have ed : (List.range n).drop i = i :: (List.range n).drop (i + 1) := by
      have q := List.drop_eq_getElem_cons (l := List.range n) (i := i) (by rw [List.length_range]; exact hlt)
      rw [List.getElem_range] at q
      exact q
    rw [ed, List.map_cons, List.sum_cons] at hz
    refine codeAny_builtin F.entry_sum_loop ?_
    rw [Around.under_plainId F.plain_sum_loop _]
    show wpAny _ A.in1 (seqItems? (.ref S) >>= _) _ _ s
    refine wpAny_bind (wpAny_seqItems eS rfl (wpAny_bind (wpAny_tryCatch (W.item i s _ _ hlt hst fun v h1 tk hp hst1 kp => ?_))))
    obtain rfl := hv i v hp
    obtain ⟨nrS, nrw, m, er⟩ := rows i hlt
    have eS1 := kp S _ hSw eS
    have eT1 := kp T _ nTw eT
    have er1 := kp (row i) _ nrw er
    show wpAny _ A.in1 ((holding [Value.ref (row i)] (binaryOp .Add (.ref T) (.ref (row i)))).attempt >>= _) _ _ _
    refine wpAny_bind (wpAny_attempt (wpAny_holding (PySem.P.add_list eT1 er1 ?_ (by rw [List.size_toArray, List.size_toArray]; omega))))
    dsimp only
    have z1 : h1.objs.size ≠ S := fun z => by
      have q : S < h1.objs.size := Heap.lt_size eS1
      rw [z] at q
      exact Nat.lt_irrefl _ q
    have eS2 := Heap.get?_push_of_some ({ cls := .type "list", data := .seq (acc.toArray ++ (part i).toArray) } : Obj) eS1
    refine wpAny_bind (wpAny_updateSeq eS2 rfl ?_)
    have eS3 := Heap.get?_update_self (Obj.mapSeq fun _ => #[Value.ref h1.objs.size]) eS2 rfl
    refine wpAny_bind (wpAny_letGo (wpAny_bind (wpAny_updateSeq eS3 rfl ?_)))
    have eS4 := Heap.get?_update_self (Obj.mapSeq fun _ => #[Value.ref h1.objs.size]) eS3 rfl
    have kk : ∀ b o, b ≠ S → h1.get? b = some o → (((h1.push ({ cls := .type "list", data := .seq (acc.toArray ++ (part i).toArray) } : Obj)).update S (Obj.mapSeq fun _ => #[Value.ref h1.objs.size])).update S (Obj.mapSeq fun _ => #[Value.ref h1.objs.size])).get? b = some o := fun b o nb e =>
      (Heap.get?_update_other _ _ (Ne.symm nb)).trans ((Heap.get?_update_other _ _ (Ne.symm nb)).trans (Heap.get?_push_of_some _ e))
    have eN : (((h1.push ({ cls := .type "list", data := .seq (acc.toArray ++ (part i).toArray) } : Obj)).update S (Obj.mapSeq fun _ => #[Value.ref h1.objs.size])).update S (Obj.mapSeq fun _ => #[Value.ref h1.objs.size])).get? h1.objs.size = some (LO (acc ++ part i) 0) := by
      rw [Heap.get?_update_other _ _ (Ne.symm z1), Heap.get?_update_other _ _ (Ne.symm z1), Heap.get?_push_size _ rfl]
      unfold LO
      rw [List.append_toArray]
    refine wpAny_pure ⟨plainId_quiet F.plain_sum_loop _, ih (i + 1) _ h1.objs.size (acc ++ part i) _ 0 (by omega) hlt (W.frame _ _ _ hst1 fun b hb o e => kk b o (fun z => hS (z ▸ hb)) e) eS4 eN z1 (fun z => Nat.lt_irrefl _ (hfp _ _ hst1 _ (W.sub _ z))) (fun j hj => ?_) ?_ fun s' T' c' kp' g' d' o' e' m1 m2 m3 => ?_⟩
    · obtain ⟨n1, n2, m', e1⟩ := rows j hj
      exact ⟨n1, n2, m', kk _ _ n1 (kp _ _ n2 e1)⟩
    · rw [List.length_append]
      omega
    · refine hR s' T' c' (fun b o n1 n2 e => kp' b o n1 n2 (kk b o n2 (kp b o n1 e))) g' d' o' ?_ m1 m2 (.inr ?_)
      · rw [e', ed, List.map_cons, List.flatten_cons, List.append_assoc]
      · cases eo : s.heap.get? T' with
        | none => rfl
        | some o =>
          have e1 := kp T' o m2 eo
          rcases m3 with ⟨_, z⟩ | z
          · rw [z] at e1
            exact absurd (Heap.lt_size e1) (Nat.lt_irrefl _)
          · rw [kk T' o m1 e1] at z
            cases z
end
section
variable {prog : Program} {w : World} {A : Around} {E : Value → Shared → Prop} {s : Shared}
theorem args_sum2 (a b : Value) : argsOk "sum" ⟨[a, b], []⟩ := by
  unfold argsOk
  kernel_rfl
theorem sumL_call {l s0 : Addr} {rows : List Addr} {lits : List Value} {nl n0 : Nat} {parts : Nat → List Value} {acc : List Value} {Q : Value → Shared → Prop} (hh : A.handled = none)
    (el : s.heap.get? l = some (LO lits nl)) (hl : lits = rows.map Value.ref) (e0 : s.heap.get? s0 = some (LO acc n0)) (hr : ∀ j (h : j < rows.length), ∃ m, s.heap.get? rows[j] = some (LO (parts j) m))
    (hz : acc.length + ((List.range rows.length).map fun j => (parts j).length).sum ≤ sizeLine)
    (h : ∀ (s' : Shared) (T : Addr) (c : Nat), (∀ b o, s.heap.get? b = some o → s'.heap.get? b = some o) → s'.gens = s.gens → s'.os = s.os → s'.heap.get? T = some (LO (acc ++ ((List.range rows.length).map parts).flatten) c) → (rows = [] ∧ T = s0 ∨ s.heap.get? T = none) → Q (.ref T) s') :
    wpAny (model prog w) A (call (.builtin "sum") [.ref l, .ref s0]) Q E s := by
  have hlen : lits.toArray.size = rows.length := by rw [hl, List.size_toArray, List.length_map]
  refine call_function_tree F.kind_sum F.plain_sum F.entry_sum (args_sum2 _ _) ?_
  unfold Builtin.«sum»
  simp only [List.length_cons, List.length_nil]
  rw [if_neg (by decide)]
  refine wpAny_bind (wpAny_of_eq (show Builtin.Builtins.bindParams "sum" ["start"] 0 ⟨[.ref s0], []⟩ = pure [some (.ref s0)] from rfl) ?_)
  have hL : s.heap.IsList l lits.toArray := ⟨_, el, rfl, nl, rfl⟩
  refine wpAny_bind (wpAny_pyIter_list hL ?_)
  have lt1 : l < s.heap.objs.size := Heap.lt_size el
  have lt0 : s0 < s.heap.objs.size := Heap.lt_size e0
  have e1 := Heap.get?_push_of_some ({ cls := .type "list_iterator", data := .fields #[.ref l, .int 0 0] } : Obj) e0
  have tL : Shared.TypeIs { s with heap := s.heap.push { cls := .type "list_iterator", data := .fields #[.ref l, .int 0 0] } } (.ref s0) "list" := ⟨_, e1, rfl⟩
  refine wpAny_bind (wpAny_pure ?_)
  simp only [List.forIn_cons, List.forIn_nil]
  refine wpAny_bind (wpAny_bind (wpAny_bind (wpAny_isInstance (T := "list") (b := false) tL PySem.F.sub_list_str ?_)))
  simp only [Bool.false_eq_true, if_false]
  refine wpAny_pure (wpAny_bind (wpAny_bind (wpAny_isInstance (T := "list") (b := false) tL PySem.F.sub_list_bytes ?_)))
  simp only [Bool.false_eq_true, if_false]
  refine wpAny_pure (wpAny_bind (wpAny_bind (wpAny_isInstance (T := "list") (b := false) tL PySem.F.sub_list_bytearray ?_)))
  simp only [Bool.false_eq_true, if_false]
  refine wpAny_pure (wpAny_pure (wpAny_bind (wpAny_newObj_type ?_)))
  have sz1 : (s.heap.push ({ cls := .type "list_iterator", data := .fields #[.ref l, .int 0 0] } : Obj)).objs.size = s.heap.objs.size + 1 := Heap.size_push ..
  have nlI : l ≠ s.heap.objs.size := Nat.ne_of_lt lt1
  have kp : ∀ b o, s.heap.get? b = some o → ((s.heap.push ({ cls := .type "list_iterator", data := .fields #[.ref l, .int 0 0] } : Obj)).push (LO [.ref s0] 0)).get? b = some o := fun b o e => Heap.get?_push_of_some _ (Heap.get?_push_of_some _ e)
  refine wpAny_pure ⟨plainId_quiet F.plain_sum_loop _, sumL_loop (Walks.list (A := A.in1) (by simp [hh]) s.heap.objs.size l nlI lits.toArray) (S := (s.heap.push ({ cls := .type "list_iterator", data := .fields #[.ref l, .int 0 0] } : Obj)).objs.size) ?_ (fun j => rows.getD j 0) parts ?_ _ sizeLine (Nat.le_refl _) ?_
    (rows.length - 0) 0 _ s0 acc 0 n0 (by rw [hlen]) (Nat.zero_le _) ⟨⟨_, Heap.get?_push_of_some _ (Heap.get?_push_size _ rfl), rfl, rfl⟩, (hL.push _).push _⟩ ?_ (kp _ _ e0) (by rw [sz1]; exact Nat.ne_of_lt (Nat.lt_succ_of_lt lt0)) ?_ ?_ ?_ ?_⟩
  · rw [sz1]
    intro z
    rcases List.mem_cons.mp z with z | z
    · exact absurd z (Nat.ne_of_gt (Nat.lt_succ_self _))
    · exact absurd (List.mem_singleton.mp z) (Nat.ne_of_gt (Nat.lt_succ_of_lt lt1))
  · intro i v hv
    rw [List.getElem?_toArray, hl, List.getElem?_map] at hv
    cases hr2 : rows[i]? with
    | none => rw [hr2] at hv; cases hv
    | some b =>
      rw [hr2] at hv
      cases hv
      rw [List.getD_eq_getElem?_getD, hr2]
      rfl
  · intro i h st b hb
    rcases List.mem_cons.mp hb with z | z
    · obtain ⟨⟨o, ho, _⟩, _⟩ := st
      rw [z]
      exact Heap.lt_size ho
    · obtain ⟨_, ⟨o, ho, _⟩⟩ := st
      rw [List.mem_singleton.mp z]
      exact Heap.lt_size ho
  · exact Heap.get?_push_size _ rfl
  · intro z
    exact absurd (List.mem_singleton.mp z) (Nat.ne_of_lt lt0)
  · intro j hj
    rw [hlen] at hj
    obtain ⟨m, e⟩ := hr j hj
    have eg : rows.getD j 0 = rows[j] := by
      rw [List.getD_eq_getElem?_getD, List.getElem?_eq_getElem hj]
      rfl
    have lt2 : rows[j] < s.heap.objs.size := Heap.lt_size e
    refine ⟨?_, ?_, m, ?_⟩
    · rw [eg, sz1]; exact Nat.ne_of_lt (Nat.lt_succ_of_lt lt2)
    · rw [eg]; exact fun z => absurd (List.mem_singleton.mp z) (Nat.ne_of_lt lt2)
    · rw [eg]; exact kp _ _ e
  · rw [hlen, List.drop_zero]
    exact hz
  · intro s' T' c' k1 g1 d1 o1 e' m1 m2 m3
    rw [hlen, List.drop_zero] at e'
    refine h s' T' c' (fun b o e => ?_) g1 o1 e' (m3.imp (fun z => ⟨List.eq_nil_of_length_eq_zero (by rw [← hlen]; exact z.1.symm), z.2⟩) fun z => ?_)
    rotate_left
    · cases eo : s.heap.get? T' with
      | none => rfl
      | some o =>
        cases (kp _ _ eo).symm.trans z
    have lt3 : b < s.heap.objs.size := Heap.lt_size e
    exact k1 b o (fun z => absurd (List.mem_singleton.mp z) (Nat.ne_of_lt lt3)) (by rw [sz1]; exact Nat.ne_of_lt (Nat.lt_succ_of_lt lt3)) (kp _ _ e)
end
section
variable {X : Cx}
/-- sum(a list of lists of ints, a list of ints) -/
def rSumL (K : PySem.W.Frag) : List V → Hp → VK → Prop := fun vs H Q => ∃ (a b : Addr) (rows : List Addr) (parts : List (List Int)) (ms : List Int), vs = [V.ref a, V.ref b] ∧ H a = some (.lst (rows.map V.ref)) ∧ H b = some (.lst (ms.map V.int)) ∧
  Paired (fun r ns => H r = some (.lst (ns.map V.int))) rows parts ∧ ms.length + parts.flatten.length ≤ sizeLine ∧ ∀ (H' : Hp) (p : Addr), Same H H' → H' p = some (.lst ((ms ++ parts.flatten).map V.int)) → Q (.ref p) H'
theorem refs_of : ∀ {rows : List Addr} {its : List Value}, Vals (rows.map V.ref) its → its = rows.map Value.ref
  | [], _, .nil => rfl
  | a :: r, _, .cons q t => by rw [List.map_cons, ← refs_of t, (show _ = Value.ref a from q)]
theorem Paired.at' {α β : Type} {R : α → β → Prop} : ∀ {l : List α} {m : List β}, Paired R l m → ∀ j (h : j < l.length) (h' : j < m.length), R l[j] m[j]
  | _, _, .cons q _, 0, _, _ => q
  | _, _, .cons _ t, j + 1, h, h' => Paired.at' t j (Nat.lt_of_succ_lt_succ h) (Nat.lt_of_succ_lt_succ h')
theorem range_map {α β : Type} (f : α → β) (d : α) : ∀ l : List α, (List.range l.length).map (fun j => f (l.getD j d)) = l.map f := by
  intro l
  apply List.ext_getElem
  · rw [List.length_map, List.length_map, List.length_range]
  · intro i h1 h2
    rw [List.length_map] at h2
    rw [List.getElem_map, List.getElem_map, List.getElem_range, List.getD_eq_getElem?_getD, List.getElem?_eq_getElem h2]
    rfl
theorem rows_of {P : Program} {w : World} {H : Hp} {h : Heap} (ok : HOk P w H h) : ∀ {rows : List Addr} {parts : List (List Int)}, Paired (fun r ns => H r = some (.lst (ns.map V.int))) rows parts →
    ∃ pits : List (List Value), pits.length = rows.length ∧ (∀ j (hj : j < rows.length), ∃ m, h.get? rows[j] = some (LO (pits.getD j []) m)) ∧ Vals (parts.flatten.map V.int) pits.flatten ∧ (pits.map List.length).sum = parts.flatten.length
  | [], [], .nil => ⟨[], rfl, fun j hj => absurd hj (Nat.not_lt_zero j), .nil, rfl⟩
  | r :: rows, ns :: parts, .cons e t => by
    obtain ⟨pits, h1, h2, h3, h4⟩ := rows_of ok t
    obtain ⟨z, its, n, v, g⟩ : ObjOk P w H h r (.lst (ns.map V.int)) := ok r _ e
    refine ⟨its :: pits, by rw [List.length_cons, h1, List.length_cons], fun j hj => ?_, ?_, ?_⟩
    · cases j with
      | zero => exact ⟨n, g⟩
      | succ j => exact h2 j (Nat.lt_of_succ_lt_succ hj)
    · rw [List.flatten_cons, List.map_append, List.flatten_cons]
      exact v.append h3
    · rw [List.map_cons, List.sum_cons, h4, List.flatten_cons, List.length_append, ← v.length, List.length_map]
theorem cr_sumL (hc : X.calm = true) : CallR X (.builtin "sum") (rSumL X.K) := by
  intro pins s σ H vs us Q I r h
  obtain ⟨a, b, rows, parts, ms, rfl, ha, hb, hp, hz, q⟩ := h
  cases r with
  | cons r1 t1 =>
    cases t1 with
    | cons r2 t2 =>
      cases t2
      cases r1
      cases r2
      obtain ⟨za, its, n, va, ea⟩ : ObjOk X.prog X.w H s.heap a (.lst (rows.map V.ref)) := I.hok a _ ha
      obtain ⟨zb, it0, n0, vb, eb⟩ : ObjOk X.prog X.w H s.heap b (.lst (ms.map V.int)) := I.hok b _ hb
      obtain ⟨pits, hl2, hg2, hv2, hn2⟩ := rows_of I.hok hp
      have e1 : (List.range rows.length).map (fun j => pits.getD j []) = pits := by
        have q := range_map (fun x : List Value => x) [] pits
        rw [List.map_id', hl2] at q
        exact q
      have e2 : ((List.range rows.length).map fun j => (pits.getD j []).length).sum = parts.flatten.length := by
        have q := range_map (fun x : List Value => x.length) [] pits
        rw [hl2] at q
        rw [q, hn2]
      refine sumL_call (I.ok.hd hc) (lits := its) (acc := it0) (parts := fun j => pits.getD j []) ea (refs_of va) eb hg2 (by rw [e2, ← vb.length, List.length_map]; exact hz) fun s' T c kp hg ho hT hw => ?_
      rw [e1] at hT
      have hvals : Vals ((ms ++ parts.flatten).map V.int) (it0 ++ pits.flatten) := by
        rw [List.map_append]
        exact vb.append hv2
      rcases hw with ⟨z1, z2⟩ | hnew
      · subst z1
        cases hp
        refine ⟨.ref T, H, I.call' (ch := []) ho (Un.kept kp) (I.hok.kept kp) (by rw [hg]; exact I.bare) (fun _ z => nomatch z), rfl, q H T (Same.refl H) ?_⟩
        rw [z2, hb, List.flatten_nil, List.append_nil]
      · have hn : H T = none := by
          cases eo : H T with
          | none => rfl
          | some o =>
            obtain ⟨u, hu⟩ := objOk_get (I.hok T o eo)
            rw [hnew] at hu
            cases hu
        refine ⟨.ref T, upd H T (.lst ((ms ++ parts.flatten).map V.int)), I.call' (ch := []) ho (Un.laidN kp hnew hn) (I.hok.laidN kp hn ⟨?_, _, c, hvals, hT⟩) (by rw [hg]; exact I.bare) (fun _ z => nomatch z), rfl, q _ T (Same.new hn) upd_same⟩
        rw [List.length_map, List.length_append]
        exact hz
end
end HSP
namespace HSP
open PySem PySem.Spec PyProof.Rows L2
theorem cut_last (xs : List V) (y : V) : cutV (xs ++ [y]) none (some (-1)) = xs := by
  unfold cutV
  have e : HT.sIx (xs ++ [y]).length (xs ++ [y]).length (some (-1)) = xs.length := by
    show (if (-1 : Int) < 0 then ((-1 : Int) + ((xs ++ [y]).length : Int)).toNat else min (-1 : Int).toNat (xs ++ [y]).length) = xs.length
    rw [if_pos (by decide), List.length_append, List.length_singleton]
    omega
  rw [e, HT.sIx_none, List.drop_zero, Nat.sub_zero, List.take_left]
theorem inV_nat (i : Nat) : ∀ xs : List Nat, inV (natV i) (xs.map natV) = decide (i ∈ xs)
  | [] => rfl
  | x :: r => by
    have ih := inV_nat i r
    have e : inV (natV i) ((x :: r).map natV) = (eqV (natV x) (natV i) || inV (natV i) (r.map natV)) := rfl
    rw [e, ih]
    have e2 : eqV (natV x) (natV i) = decide ((x : Int) = (i : Int)) := rfl
    rw [e2]
    by_cases c : i = x
    · rw [decide_eq_true (show (x : Int) = (i : Int) by omega), Bool.true_or, decide_eq_true (List.mem_cons.mpr (.inl c))]
    · rw [decide_eq_false (show ¬ (x : Int) = (i : Int) by omega), Bool.false_or]
      by_cases d : i ∈ r
      · rw [decide_eq_true d, decide_eq_true (List.mem_cons_of_mem _ d)]
      · rw [decide_eq_false d, decide_eq_false (fun z => (List.mem_cons.mp z).elim c d)]
theorem inV_int (i : Int) : ∀ xs : List Int, inV (.int i) (xs.map V.int) = decide (i ∈ xs)
  | [] => rfl
  | x :: r => by
    have ih := inV_int i r
    have e : inV (.int i) ((x :: r).map V.int) = (eqV (.int x) (.int i) || inV (.int i) (r.map V.int)) := rfl
    rw [e, ih]
    have e2 : eqV (.int x) (.int i) = decide (x = i) := rfl
    rw [e2]
    by_cases c : i = x
    · rw [decide_eq_true c.symm, Bool.true_or, decide_eq_true (List.mem_cons.mpr (.inl c))]
    · rw [decide_eq_false (show ¬ x = i by omega), Bool.false_or]
      by_cases d : i ∈ r
      · rw [decide_eq_true d, decide_eq_true (List.mem_cons_of_mem _ d)]
      · rw [decide_eq_false d, decide_eq_false (fun z => (List.mem_cons.mp z).elim c d)]
theorem flat_nats : ∀ xs : List Nat, (xs.map natV).all flatV = true
  | [] => rfl
  | x :: r => by
    rw [List.map_cons, List.all_cons, flat_nats r]
    rfl
theorem flat_ints : ∀ xs : List Int, (xs.map V.int).all flatV = true
  | [] => rfl
  | x :: r => by
    rw [List.map_cons, List.all_cons, flat_ints r]
    rfl
/-! ### lists of ints as data -/
def intsD (l : List Int) : PyData := .list (l.map PyData.int)
theorem ints_can : ∀ l : List Int, PyData.canLayAll0 (l.map PyData.int) = true
  | [] => by simp [PyData.canLayAll0]
  | z :: r => by
    have ih := ints_can r
    simp only [List.map_cons, PyData.canLayAll0, PyData.canLay0, ih, Bool.and_self]
theorem ints_deep : ∀ l : List Int, PyData.depthAll (l.map PyData.int) ≤ 1
  | [] => by simp [PyData.depthAll]
  | z :: r => by
    have ih := ints_deep r
    simp only [List.map_cons, PyData.depthAll, PyData.depth]
    omega
theorem ints_shaped (l : List Int) : SeqAt.shaped (intsD l) = true := by
  unfold SeqAt.shaped intsD
  have h1 := ints_can l
  have h2 := ints_deep l
  rw [Bool.and_eq_true]
  refine ⟨by simp only [PyData.canLay0]; exact h1, decide_eq_true ?_⟩
  simp only [PyData.depth]
  omega
theorem ints_dpAll {K : PySem.W.Frag} {H : Hp} : ∀ l : List Int, DpAll K H (l.map V.int) (l.map PyData.int)
  | [] => .nil
  | z :: r => .cons (.int z) (ints_dpAll r)
theorem ints_none (l : List Int) : PyData.eqv (intsD l) (intsD []) = decide (l = []) := by
  cases l with
  | nil => rw [decide_eq_true rfl]; exact SeqAt.eqv_refl _ (by unfold intsD; simp only [PyData.canLay0]; exact ints_can [])
  | cons x r =>
    rw [decide_eq_false (List.cons_ne_nil _ _)]
    unfold intsD
    simp [PyData.eqv, PyData.eqvAll]
end HSP
namespace HSP
open PySem PySem.Spec PyProof.Rows L2
/-! ## how data are shown: lengths -/
theorem piled_le (c : Nat) : ∀ ds : List PyData, (∀ d, d ∈ ds → d.shown.length ≤ c) → piled (PyData.shownAll ds) ≤ ds.length * (c + 2)
  | [], _ => by simp [PyData.shownAll, piled_nil]
  | d :: ds, h => by
    have ih := piled_le c ds fun e he => h e (List.mem_cons_of_mem _ he)
    have h1 := h d List.mem_cons_self
    have e : PyData.shownAll (d :: ds) = d.shown :: PyData.shownAll ds := by simp [PyData.shownAll]
    rw [e, piled_cons, List.length_cons, Nat.add_mul]
    omega
theorem listText_le : ∀ ts : List Str, (listText ts).length ≤ piled ts + 2
  | [] => by decide +kernel
  | t :: r => by
    have e : listText (t :: r) = textFrom 1 (("[" : Str) ++ (if 0 > 0 then ", " else "" : String) ++ t) r ++ "]" := rfl
    rw [e, strLen_append, textFrom_length_pos _ _ _ (by decide), strLen_append, strLen_append, piled_cons]
    have e1 : (("[" : String) : Str).length = 1 := rfl
    have e2 : (("]" : String) : Str).length = 1 := rfl
    have e3 : ((if 0 > 0 then ", " else "" : String) : Str).length = 0 := rfl
    omega
theorem tupleText_le (ts : List Str) : (tupleText ts).length ≤ piled ts + 3 := by
  unfold tupleText
  rw [strLen_append, strLen_append]
  have e1 : (("(" : String) : Str).length = 1 := rfl
  have e2 : ((if ts.length == 1 then ",)" else ")" : String) : Str).length ≤ 2 := by
    split <;> decide +kernel
  have e3 : (Str.join ", " ts).length ≤ piled ts := by
    by_cases c : ts = []
    · rw [c]
      decide +kernel
    · have := join_length_add ts c
      omega
  omega
theorem shown_list_le (c : Nat) (ds : List PyData) (h : ∀ d, d ∈ ds → d.shown.length ≤ c) : (PyData.list ds).shown.length ≤ ds.length * (c + 2) + 2 := by
  have e : (PyData.list ds).shown = listText (PyData.shownAll ds) := by simp only [PyData.shown]
  rw [e]
  have h1 := listText_le (PyData.shownAll ds)
  have h2 := piled_le c ds h
  omega
/-! ### trees as data -/
def treeD : Tr → PyData
  | .nil => .none
  | .nod l r => .tuple [treeD l, treeD r]
theorem treeD_len : ∀ t : Tr, (treeD t).shown.length ≤ 11 * t.size + 4
  | .nil => by
    show (PyData.none).shown.length ≤ _
    simp only [PyData.shown]
    decide +kernel
  | .nod l r => by
    have h1 := treeD_len l
    have h2 := treeD_len r
    have e : (treeD (.nod l r)).shown = tupleText [(treeD l).shown, (treeD r).shown] := by
      show (PyData.tuple [treeD l, treeD r]).shown = _
      simp only [PyData.shown, PyData.shownAll]
    have z : (Tr.nod l r).size = l.size + 1 + r.size := rfl
    have h3 := tupleText_le [(treeD l).shown, (treeD r).shown]
    rw [piled_cons, piled_cons, piled_nil] at h3
    rw [e, z]
    omega
theorem treeD_show : ∀ t : Tr, (treeD t).showable = true
  | .nil => by simp only [treeD, PyData.showable]
  | .nod l r => by simp only [treeD, PyData.showable, PyData.showableAll, treeD_show l, treeD_show r, Bool.and_self]
theorem treeD_dict : ∀ t : Tr, (treeD t).hasDict = false
  | .nil => by simp only [treeD, PyData.hasDict]
  | .nod l r => by simp only [treeD, PyData.hasDict, PyData.hasDictAll, treeD_dict l, treeD_dict r, Bool.or_self]
theorem treeD_deep : ∀ t : Tr, (treeD t).depth ≤ t.ht
  | .nil => by simp only [treeD, PyData.depth]; exact Nat.zero_le _
  | .nod l r => by
    have h1 := treeD_deep l
    have h2 := treeD_deep r
    have e : (Tr.nod l r).ht = max l.ht r.ht + 1 := rfl
    simp only [treeD, PyData.depth, PyData.depthAll]
    omega
theorem TrAt.dp {K : PySem.W.Frag} {H : Hp} {v : V} {t : Tr} (h : TrAt H v t) : Dp K H v (treeD t) := by
  induction h with
  | nil => exact .non
  | nod eb _ _ ih1 ih2 => exact .tup (.of eb) (.cons ih1 (.cons ih2 .nil))
/-! ### lists of numbers -/
theorem ints_show : ∀ l : List Int, (∀ v, v ∈ l → v.natAbs.log2 < 1920) → PyData.showableAll (l.map PyData.int) = true
  | [], _ => by simp [PyData.showableAll]
  | z :: r, h => by
    have ih := ints_show r fun v hv => h v (List.mem_cons_of_mem _ hv)
    have h1 := h z List.mem_cons_self
    simp only [List.map_cons, PyData.showableAll, PyData.showable, ih, decide_eq_true h1, Bool.and_self]
theorem ints_dict : ∀ l : List Int, PyData.hasDictAll (l.map PyData.int) = false
  | [] => by simp [PyData.hasDictAll]
  | z :: r => by simp only [List.map_cons, PyData.hasDictAll, PyData.hasDict, ints_dict r, Bool.or_self]
theorem int_len {z : Int} (h : z.natAbs < 10 ^ 30) : (PyData.int z).shown.length ≤ 31 := by
  simp only [PyData.shown]
  rw [show (Str.ofString (toString z)).length = (toString z).length from PySem.ofString_length _]
  exact int_text_length_le10 (k := 30) (by decide) h
theorem int_log {z : Int} (h : z.natAbs < 10 ^ 30) : z.natAbs.log2 < 1920 := by
  by_cases c : z.natAbs = 0
  · rw [c]
    decide
  · exact (Nat.log2_lt c).mpr (Nat.lt_of_lt_of_le h (by decide +kernel))
/-- what repr and == ask of data -/
structure Fine (d : PyData) : Prop where
  show_ : d.showable = true
  dict : d.hasDict = false
  deep : d.depth ≤ 60
  len : d.shown.length ≤ sizeLine
/-- numbers that are not too great -/
def Tame (l : List Int) : Prop := ∀ v, v ∈ l → v.natAbs < 10 ^ 30
theorem intsD_len {l : List Int} (h : Tame l) : (intsD l).shown.length ≤ l.length * 33 + 2 := by
  have := shown_list_le 31 (l.map PyData.int) fun d hd => by
    obtain ⟨v, hv, rfl⟩ := List.mem_map.mp hd
    exact int_len (h v hv)
  rw [List.length_map] at this
  exact this
theorem ints_fine {l : List Int} (h : Tame l) (n : l.length ≤ 1000) : Fine (intsD l) := by
  have h1 := intsD_len h
  have h2 := ints_deep l
  refine ⟨?_, ?_, ?_, ?_⟩
  · unfold intsD
    simp only [PyData.showable]
    exact ints_show l fun v hv => int_log (h v hv)
  · unfold intsD
    simp only [PyData.hasDict]
    exact ints_dict l
  · unfold intsD
    simp only [PyData.depth]
    omega
  · have : sizeLine = 16777216 := rfl
    omega
/-- [d, e] -/
theorem pair_fine {d e : PyData} (hd : Fine d) (he : Fine e) (h1 : d.depth ≤ 59) (h2 : e.depth ≤ 59) (c : Nat) (l1 : d.shown.length ≤ c) (l2 : e.shown.length ≤ c) (hc : c ≤ 100000) : Fine (.list [d, e]) := by
  refine ⟨?_, ?_, ?_, ?_⟩
  · simp only [PyData.showable, PyData.showableAll, hd.show_, he.show_, Bool.and_self]
  · simp only [PyData.hasDict, PyData.hasDictAll, hd.dict, he.dict, Bool.or_self]
  · simp only [PyData.depth, PyData.depthAll]
    omega
  · have := shown_list_le c [d, e] fun x hx => by
      rcases List.mem_cons.mp hx with z | z
      · rw [z]; exact l1
      · rw [List.mem_singleton.mp z]; exact l2
    have e1 : [d, e].length = 2 := rfl
    rw [e1] at this
    have : sizeLine = 16777216 := rfl
    omega
theorem tree_fine {t : Tr} (h : t.size ≤ 100) (d : t.ht ≤ 40) : Fine (treeD t) := by
  have h1 := treeD_len t
  have h2 := treeD_deep t
  have : sizeLine = 16777216 := rfl
  exact ⟨treeD_show t, treeD_dict t, by omega, by omega⟩
/-- [tree, values] -/
def argsD (t : Tr) (ns : List Int) : PyData := .list [treeD t, intsD ns]
theorem args_fine {t : Tr} {ns : List Int} (h : t.size ≤ 20) (n : ns.length ≤ 20) (hn : Tame ns) : Fine (argsD t ns) := by
  have h1 := treeD_len t
  have h2 := treeD_deep t
  have h3 := t.ht_le
  have h4 := intsD_len hn
  have h5 : (intsD ns).depth ≤ 2 := by
    have := ints_deep ns
    unfold intsD
    simp only [PyData.depth]
    omega
  exact pair_fine (tree_fine (by omega) (by omega)) (ints_fine hn (by omega)) (by omega) (by omega) 1000 (by omega) (by omega) (by decide)
/-- numbers that the law may make of those drawn -/
def Mid (ns : List Int) : Prop := ∀ v, v ∈ ns → -10000000000000000000000 < v ∧ v < 10000000000000000000000
theorem Mid.tame {ns : List Int} (h : Mid ns) : Tame ns := fun v hv => by
  have := h v hv
  have e : (10 : Nat) ^ 30 = 1000000000000000000000000000000 := by decide +kernel
  rw [e]
  omega
theorem Mid.nil : Mid [] := fun _ h => by cases h
theorem Mid.snoc {ns : List Int} {v : Int} (h : Mid ns) (h1 : -10000000000000000000000 < v ∧ v < 10000000000000000000000) : Mid (ns ++ [v]) := fun x hx => by
  rcases List.mem_append.mp hx with z | z
  · exact h x z
  · rw [List.mem_singleton.mp z]
    exact h1
theorem Mid.set {ns : List Int} {v : Int} {i : Nat} (h : Mid ns) (h1 : -10000000000000000000000 < v ∧ v < 10000000000000000000000) : Mid (ns.set i v) := fun x hx => by
  rcases List.mem_or_eq_of_mem_set hx with z | z
  · exact h x z
  · rw [z]
    exact h1
theorem ints_can0 (l : List Int) : PyData.canLay0 (intsD l) = true := by
  unfold intsD
  simp only [PyData.canLay0]
  exact ints_can l
theorem args_dp {K : PySem.W.Frag} {H : Hp} {a b : Addr} {v : V} {t : Tr} {ns : List Int} (ha : H a = some (.lst [v, .ref b])) (hv : TrAt H v t) (hb : H b = some (.lst (ns.map V.int))) : Dp K H (.ref a) (argsD t ns) :=
  .lst (.of ha) (.cons hv.dp (.cons (.lst (.of hb) (ints_dpAll ns)) .nil))
end HSP
namespace HSP
open PySem PySem.Spec PyProof.Rows L2
/-! ### tuples of None, numbers and short texts as data -/
def vD : V → PyData
  | .bl b => .bool b
  | .int i => .int i
  | .str x => .str x
  | _ => .none
/-- what may stand in such a tuple -/
def Plain : V → Prop
  | .non => True
  | .int i => i.natAbs < 10 ^ 30
  | .str x => PyData.strOk x = true ∧ (reprText x).length ≤ 31
  | _ => False
theorem Plain.dp {K : PySem.W.Frag} {H : Hp} {v : V} (h : Plain v) : Dp K H v (vD v) := by
  cases v with
  | non => exact .non
  | int i => exact .int i
  | str x => exact .str x
  | _ => exact h.elim
theorem Plain.len {v : V} (h : Plain v) : (vD v).shown.length ≤ 31 := by
  cases v with
  | non => simp only [vD, PyData.shown]; decide +kernel
  | int i => exact int_len h
  | str x => simp only [vD, PyData.shown]; exact h.2
  | _ => exact h.elim
theorem Plain.can {v : V} (h : Plain v) : PyData.canLay0 (vD v) = true := by
  cases v with
  | non => simp only [vD, PyData.canLay0]
  | int i => simp only [vD, PyData.canLay0]
  | str x => simp only [vD, PyData.canLay0]; exact h.1
  | _ => exact h.elim
theorem Plain.show_ {v : V} (h : Plain v) : (vD v).showable = true := by
  cases v with
  | non => simp only [vD, PyData.showable]
  | int i => simp only [vD, PyData.showable]; exact decide_eq_true (int_log h)
  | str x => simp only [vD, PyData.showable]
  | _ => exact h.elim
theorem vD_dict (v : V) : (vD v).hasDict = false := by
  cases v <;> simp only [vD, PyData.hasDict]
theorem vD_deep (v : V) : (vD v).depth = 0 := by
  cases v <;> simp only [vD, PyData.depth]
def Plains (xs : List V) : Prop := ∀ v, v ∈ xs → Plain v
theorem plains_dp {K : PySem.W.Frag} {H : Hp} : ∀ xs : List V, Plains xs → DpAll K H xs (xs.map vD)
  | [], _ => .nil
  | x :: r, h => .cons (h x List.mem_cons_self).dp (plains_dp r fun v hv => h v (List.mem_cons_of_mem _ hv))
theorem plains_can : ∀ xs : List V, Plains xs → PyData.canLayAll0 (xs.map vD) = true
  | [], _ => by simp [PyData.canLayAll0]
  | x :: r, h => by
    have ih := plains_can r fun v hv => h v (List.mem_cons_of_mem _ hv)
    have h1 := (h x List.mem_cons_self).can
    simp only [List.map_cons, PyData.canLayAll0, h1, ih, Bool.and_self]
theorem plains_show : ∀ xs : List V, Plains xs → PyData.showableAll (xs.map vD) = true
  | [], _ => by simp [PyData.showableAll]
  | x :: r, h => by
    have ih := plains_show r fun v hv => h v (List.mem_cons_of_mem _ hv)
    have h1 := (h x List.mem_cons_self).show_
    simp only [List.map_cons, PyData.showableAll, h1, ih, Bool.and_self]
theorem plains_dict : ∀ xs : List V, PyData.hasDictAll (xs.map vD) = false
  | [] => by simp [PyData.hasDictAll]
  | x :: r => by simp only [List.map_cons, PyData.hasDictAll, vD_dict, plains_dict r, Bool.or_self]
theorem plains_deep : ∀ xs : List V, PyData.depthAll (xs.map vD) ≤ 1
  | [] => by simp [PyData.depthAll]
  | x :: r => by
    have ih := plains_deep r
    have h1 := vD_deep x
    simp only [List.map_cons, PyData.depthAll]
    omega
/-- a tuple of such -/
def rowD (xs : List V) : PyData := .tuple (xs.map vD)
theorem shown_tuple_le (c : Nat) (ds : List PyData) (h : ∀ d, d ∈ ds → d.shown.length ≤ c) : (PyData.tuple ds).shown.length ≤ ds.length * (c + 2) + 3 := by
  have e : (PyData.tuple ds).shown = tupleText (PyData.shownAll ds) := by simp only [PyData.shown]
  rw [e]
  have h1 := tupleText_le (PyData.shownAll ds)
  have h2 := piled_le c ds h
  omega
theorem row_len {xs : List V} (h : Plains xs) (n : xs.length ≤ 5) : (rowD xs).shown.length ≤ 168 := by
  have := shown_tuple_le 31 (xs.map vD) fun d hd => by
    obtain ⟨v, hv, rfl⟩ := List.mem_map.mp hd
    exact (h v hv).len
  rw [List.length_map] at this
  show (PyData.tuple (xs.map vD)).shown.length ≤ 168
  omega
theorem row_can {xs : List V} (h : Plains xs) : PyData.canLay0 (rowD xs) = true := by
  unfold rowD
  simp only [PyData.canLay0]
  exact plains_can xs h
theorem row_show {xs : List V} (h : Plains xs) : (rowD xs).showable = true := by
  unfold rowD
  simp only [PyData.showable]
  exact plains_show xs h
theorem row_dict (xs : List V) : (rowD xs).hasDict = false := by
  unfold rowD
  simp only [PyData.hasDict]
  exact plains_dict xs
theorem row_deep (xs : List V) : (rowD xs).depth ≤ 2 := by
  have := plains_deep xs
  unfold rowD
  simp only [PyData.depth]
  omega
theorem row_dp {K : PySem.W.Frag} {H : Hp} {a : Addr} {xs : List V} (e : H a = some (.tup xs)) (h : Plains xs) : Dp K H (.ref a) (rowD xs) := .tup (.of e) (plains_dp xs h)
theorem row_fine {xs : List V} (h : Plains xs) (n : xs.length ≤ 5) : Fine (rowD xs) := by
  have h1 := row_len h n
  have h2 := row_deep xs
  have : sizeLine = 16777216 := rfl
  exact ⟨row_show h, row_dict xs, by omega, by omega⟩
theorem row_shaped {xs : List V} (h : Plains xs) : SeqAt.shaped (rowD xs) = true := by
  unfold SeqAt.shaped
  rw [Bool.and_eq_true]
  have := row_deep xs
  exact ⟨row_can h, decide_eq_true (by omega)⟩
theorem row_same {xs : List V} (h : Plains xs) : PyData.eqv (rowD xs) (rowD xs) = true := SeqAt.eqv_refl _ (row_can h)
/-- a list of such tuples -/
def rowsD (l : List (List V)) : PyData := .list (l.map rowD)
theorem rows_can : ∀ l : List (List V), (∀ xs, xs ∈ l → Plains xs) → PyData.canLayAll0 (l.map rowD) = true
  | [], _ => by simp [PyData.canLayAll0]
  | x :: r, h => by
    have ih := rows_can r fun v hv => h v (List.mem_cons_of_mem _ hv)
    have h1 := row_can (h x List.mem_cons_self)
    simp only [List.map_cons, PyData.canLayAll0, h1, ih, Bool.and_self]
theorem rows_show : ∀ l : List (List V), (∀ xs, xs ∈ l → Plains xs) → PyData.showableAll (l.map rowD) = true
  | [], _ => by simp [PyData.showableAll]
  | x :: r, h => by
    have ih := rows_show r fun v hv => h v (List.mem_cons_of_mem _ hv)
    have h1 := row_show (h x List.mem_cons_self)
    simp only [List.map_cons, PyData.showableAll, h1, ih, Bool.and_self]
theorem rows_dict : ∀ l : List (List V), PyData.hasDictAll (l.map rowD) = false
  | [] => by simp [PyData.hasDictAll]
  | x :: r => by simp only [List.map_cons, PyData.hasDictAll, row_dict, rows_dict r, Bool.or_self]
theorem rows_deep : ∀ l : List (List V), PyData.depthAll (l.map rowD) ≤ 3
  | [] => by simp [PyData.depthAll]
  | x :: r => by
    have ih := rows_deep r
    have h1 := row_deep x
    simp only [List.map_cons, PyData.depthAll]
    omega
theorem rows_dp {K : PySem.W.Frag} {H : Hp} {rs : List Addr} {l : List (List V)} (p : Paired (fun r xs => H r = some (.tup xs)) rs l) (h : ∀ xs, xs ∈ l → Plains xs) : DpAll K H (rs.map V.ref) (l.map rowD) := by
  induction p with
  | nil => exact .nil
  | cons e _ ih => exact .cons (row_dp e (h _ List.mem_cons_self)) (ih fun v hv => h v (List.mem_cons_of_mem _ hv))
theorem rowsD_dp {K : PySem.W.Frag} {H : Hp} {a : Addr} {rs : List Addr} {l : List (List V)} (e : H a = some (.lst (rs.map V.ref))) (p : Paired (fun r xs => H r = some (.tup xs)) rs l) (h : ∀ xs, xs ∈ l → Plains xs) : Dp K H (.ref a) (rowsD l) := .lst (.of e) (rows_dp p h)
theorem rows_fine {l : List (List V)} (h : ∀ xs, xs ∈ l → Plains xs) (n : ∀ xs, xs ∈ l → xs.length ≤ 5) (m : l.length ≤ 1000) : Fine (rowsD l) := by
  have h1 := shown_list_le 168 (l.map rowD) fun d hd => by
    obtain ⟨x, hx, rfl⟩ := List.mem_map.mp hd
    exact row_len (h x hx) (n x hx)
  rw [List.length_map] at h1
  have h2 := rows_deep l
  have : sizeLine = 16777216 := rfl
  refine ⟨?_, ?_, ?_, ?_⟩
  · unfold rowsD
    simp only [PyData.showable]
    exact rows_show l h
  · unfold rowsD
    simp only [PyData.hasDict]
    exact rows_dict l
  · unfold rowsD
    simp only [PyData.depth]
    omega
  · show (PyData.list (l.map rowD)).shown.length ≤ sizeLine
    omega
theorem rowsD_can {l : List (List V)} (h : ∀ xs, xs ∈ l → Plains xs) : PyData.canLay0 (rowsD l) = true := by
  unfold rowsD
  simp only [PyData.canLay0]
  exact rows_can l h
theorem rowsD_shaped {l : List (List V)} (h : ∀ xs, xs ∈ l → Plains xs) : SeqAt.shaped (rowsD l) = true := by
  unfold SeqAt.shaped
  rw [Bool.and_eq_true]
  refine ⟨rowsD_can h, decide_eq_true ?_⟩
  have := rows_deep l
  unfold rowsD
  simp only [PyData.depth]
  omega
theorem rowsD_same {l : List (List V)} (h : ∀ xs, xs ∈ l → Plains xs) : PyData.eqv (rowsD l) (rowsD l) = true := SeqAt.eqv_refl _ (rowsD_can h)
theorem plain_nat {i : Nat} (h : i < 1000000) : Plain (natV i) := by
  show ((i : Int)).natAbs < 10 ^ 30
  have e : (10 : Nat) ^ 30 = 1000000000000000000000000000000 := by decide +kernel
  rw [e]
  omega
theorem nats_ints (l : List Nat) : l.map natV = (l.map Int.ofNat).map V.int := by
  rw [List.map_map]
  rfl
theorem nats_tame {l : List Nat} (h : ∀ i, i ∈ l → i < 1000000) : Tame (l.map Int.ofNat) := fun z hz => by
  obtain ⟨i, hi, rfl⟩ := List.mem_map.mp hz
  have := h i hi
  have e : (10 : Nat) ^ 30 = 1000000000000000000000000000000 := by decide +kernel
  rw [e]
  show i < _
  omega
end HSP
namespace HSP
open PySem PySem.Spec PyProof.Rows L2
/-! ## x in (d1, d2, ..), data of any depth -/
section
variable {X : Cx}
def rInTD (K : PySem.W.Frag) : R2 := fun x y H Q => ∃ d ds, Dp K H x d ∧ Dp K H y (.tuple ds) ∧ SeqAt.shaped d = true ∧ SeqAt.shaped (.tuple ds) = true ∧ Q (.bl (ds.any fun z => PyData.eqv z d)) H
theorem op_inTD (hu : X.A.units + 65 < cLine) : OpR X (compareOp .In) (rInTD X.K) := by
  intro pins s σ H x y v u Q I rx ry h
  obtain ⟨d, ds, hd, he, sd, se, q⟩ := h
  obtain ⟨as, r1⟩ := Dp.reads I d x v hd rx
  obtain ⟨bs, r2⟩ := Dp.reads I (.tuple ds) y u he ry
  exact SeqAt.in_tuple_reads r2 r1 (SeqAt.canLay_of_shaped se) (SeqAt.canLay_of_shaped sd) (room_in_shaped sd hu) ⟨.bl _, H, I, rfl, q⟩
end
/-- (label, side) is a pair that kills -/
def kills (l : Str) (b : Bool) : Bool := if b = true then decide (l = ("high" : Str)) else decide (l = ("low" : Str))
def sideS (b : Bool) : Str := if b = true then "right" else "left"
def pairD (l : Str) (b : Bool) : PyData := .tuple [.str l, .str (sideS b)]
def killsD : PyData := .tuple [.tuple [.str "low", .str "left"], .tuple [.str "high", .str "right"]]
theorem kill_any (l : Str) (b : Bool) : ([PyData.tuple [.str "low", .str "left"], .tuple [.str "high", .str "right"]].any fun z => PyData.eqv z (pairD l b)) = kills l b := by
  unfold pairD
  simp only [List.any_cons, List.any_nil, PyData.eqv, PyData.eqvAll, Bool.or_false, Bool.and_true]
  cases b
  · have e1 : (("left" : Str) == sideS false) = true := by decide +kernel
    have e2 : (("right" : Str) == sideS false) = false := by decide +kernel
    rw [e1, e2]
    unfold kills
    rw [if_neg Bool.false_ne_true]
    by_cases c : l = ("low" : Str)
    · rw [c]; decide +kernel
    · rw [decide_eq_false c]
      have : (("low" : Str) == l) = false := beq_eq_false_iff_ne.mpr (Ne.symm c)
      rw [this]
      simp
  · have e1 : (("left" : Str) == sideS true) = false := by decide +kernel
    have e2 : (("right" : Str) == sideS true) = true := by decide +kernel
    rw [e1, e2]
    unfold kills
    rw [if_pos rfl]
    by_cases c : l = ("high" : Str)
    · rw [c]; decide +kernel
    · rw [decide_eq_false c]
      have : (("high" : Str) == l) = false := beq_eq_false_iff_ne.mpr (Ne.symm c)
      rw [this]
      simp
theorem pair_shaped {l : Str} (b : Bool) (h : PyData.strOk l = true) : SeqAt.shaped (pairD l b) = true := by
  unfold SeqAt.shaped pairD
  rw [Bool.and_eq_true]
  have hb : PyData.strOk (sideS b) = true := by cases b <;> decide +kernel
  refine ⟨by simp only [PyData.canLay0, PyData.canLayAll0, h, hb, Bool.and_self], decide_eq_true ?_⟩
  simp only [PyData.depth, PyData.depthAll]
  omega
theorem kills_shaped : SeqAt.shaped killsD = true := by decide +kernel
end HSP
namespace HSP
open PySem PySem.Spec PyProof.Rows L2
/-! ## the representative -/
/-- the value nearest to v between two bounds -/
def clamp (lo hi : Option Int) (v : Int) : Int := match lo with
  | some l => if v ≤ l then l else match hi with
    | some h => if v ≥ h then h else v
    | none => v
  | none => match hi with
    | some h => if v ≥ h then h else v
    | none => v
/-- the values of the representative, in the order of the nodes -/
def repOf (g : Nat → Int) : Tr → Nat → Option Int → Option Int → List Int
  | .nil, _, _, _ => []
  | .nod l r, f, lo, hi => repOf g l f lo (some (clamp lo hi (g (f + l.size)))) ++ clamp lo hi (g (f + l.size)) :: repOf g r (f + l.size + 1) (some (clamp lo hi (g (f + l.size)))) hi
theorem repOf_nod (g : Nat → Int) (l r : Tr) (f : Nat) (lo hi : Option Int) : repOf g (.nod l r) f lo hi = repOf g l f lo (some (clamp lo hi (g (f + l.size)))) ++ clamp lo hi (g (f + l.size)) :: repOf g r (f + l.size + 1) (some (clamp lo hi (g (f + l.size)))) hi := rfl
theorem repOf_len (g : Nat → Int) : ∀ (t : Tr) (f : Nat) (lo hi : Option Int), (repOf g t f lo hi).length = t.size
  | .nil, _, _, _ => rfl
  | .nod l r, f, lo, hi => by
    rw [repOf_nod, List.length_append, List.length_cons, repOf_len g l, repOf_len g r]
    show _ = l.size + 1 + r.size
    omega
/-- bounds that do not cross -/
def Straight (lo hi : Option Int) : Prop := ∀ l h, lo = some l → hi = some h → l ≤ h
theorem straight_none : Straight none none := fun l h e => by cases e
theorem clamp_in {lo hi : Option Int} (s : Straight lo hi) (v : Int) : Straight lo (some (clamp lo hi v)) ∧ Straight (some (clamp lo hi v)) hi := by
  constructor
  · intro l h e1 e2
    subst e1
    cases e2
    cases hi with
    | none => show l ≤ if v ≤ l then l else v; split <;> omega
    | some d =>
      have := s l d rfl rfl
      show l ≤ if v ≤ l then l else if v ≥ d then d else v
      split <;> (try split) <;> omega
  · intro l h e1 e2
    subst e2
    cases e1
    cases lo with
    | none => show (if v ≥ h then h else v) ≤ h; split <;> omega
    | some d =>
      have := s d h rfl rfl
      show (if v ≤ d then d else if v ≥ h then h else v) ≤ h
      split <;> (try split) <;> omega
def upTo (hi : Option Int) (x : Int) : Prop := ∀ h, hi = some h → x ≤ h
def downTo (lo : Option Int) (x : Int) : Prop := ∀ l, lo = some l → l ≤ x
theorem rep_in {g : Nat → Int} : ∀ (t : Tr) (f : Nat) (lo hi : Option Int), Straight lo hi → (repOf g t f lo hi).Pairwise (· ≤ ·) ∧ ∀ x, x ∈ repOf g t f lo hi → downTo lo x ∧ upTo hi x
  | .nil, _, _, _, _ => ⟨.nil, fun x h => by cases h⟩
  | .nod l r, f, lo, hi, s => by
    rw [repOf_nod]
    obtain ⟨s1, s2⟩ := clamp_in s (g (f + l.size))
    obtain ⟨a1, a2⟩ := rep_in l f lo (some (clamp lo hi (g (f + l.size)))) s1
    obtain ⟨b1, b2⟩ := rep_in r (f + l.size + 1) (some (clamp lo hi (g (f + l.size)))) hi s2
    refine ⟨List.pairwise_append.mpr ⟨a1, List.pairwise_cons.mpr ⟨fun x hx => (b2 x hx).1 _ rfl, b1⟩, fun x hx y hy => ?_⟩, fun x hx => ?_⟩
    · have h1 := (a2 x hx).2 _ rfl
      rcases List.mem_cons.mp hy with z | z
      · rw [z]; exact h1
      · exact Int.le_trans h1 ((b2 y z).1 _ rfl)
    · rcases List.mem_append.mp hx with z | z
      · exact ⟨(a2 x z).1, fun h e => Int.le_trans ((a2 x z).2 _ rfl) (s2 _ _ rfl e)⟩
      · rcases List.mem_cons.mp z with z | z
        · rw [z]
          exact ⟨fun l e => s1 _ _ e rfl, fun h e => s2 _ _ rfl e⟩
        · exact ⟨fun l e => Int.le_trans (s1 _ _ e rfl) ((b2 x z).1 _ rfl), (b2 x z).2⟩
theorem clamp_id {lo hi : Option Int} {v : Int} (h1 : downTo lo v) (h2 : upTo hi v) : clamp lo hi v = v := by
  cases lo with
  | none => cases hi with
    | none => rfl
    | some h => have := h2 h rfl; show (if v ≥ h then h else v) = v; split <;> omega
  | some l => have := h1 l rfl; cases hi with
    | none => show (if v ≤ l then l else v) = v; split <;> omega
    | some h => have := h2 h rfl; show (if v ≤ l then l else if v ≥ h then h else v) = v; split <;> (try split) <;> omega
end HSP
namespace HSP
open PySem PySem.Spec PyProof.Rows L2
/-! ## the representative: the mathematics -/
/-- the bounds along a path -/
def stOf (g : Nat → Int) : Option Int → Option Int → List (Nat × Bool) → Option Int × Option Int
  | lo, hi, [] => (lo, hi)
  | lo, hi, (n, true) :: r => stOf g (some (clamp lo hi (g n))) hi r
  | lo, hi, (n, false) :: r => stOf g lo (some (clamp lo hi (g n))) r
theorem stOf_snoc (g : Nat → Int) : ∀ (p : List (Nat × Bool)) (lo hi : Option Int) (n : Nat) (b : Bool), stOf g lo hi (p ++ [(n, b)]) =
    if b = true then (some (clamp (stOf g lo hi p).1 (stOf g lo hi p).2 (g n)), (stOf g lo hi p).2) else ((stOf g lo hi p).1, some (clamp (stOf g lo hi p).1 (stOf g lo hi p).2 (g n)))
  | [], lo, hi, n, true => rfl
  | [], lo, hi, n, false => rfl
  | (m, true) :: r, lo, hi, n, b => stOf_snoc g r _ _ n b
  | (m, false) :: r, lo, hi, n, b => stOf_snoc g r _ _ n b
/-- the value at a node -/
def repAt (g : Nat → Int) (p : List (Nat × Bool)) (i : Nat) : Int := clamp (stOf g none none p).1 (stOf g none none p).2 (g i)
theorem repOf_at (g : Nat → Int) : ∀ (t : Tr) (f : Nat) (lo hi : Option Int) (i : Nat), f ≤ i → i < f + t.size → (repOf g t f lo hi)[i - f]? = some (clamp (stOf g lo hi (pOf t f i)).1 (stOf g lo hi (pOf t f i)).2 (g i))
  | .nil, f, _, _, i, h1, h2 => by
    have : Tr.nil.size = 0 := rfl
    omega
  | .nod l r, f, lo, hi, i, h1, h2 => by
    rw [size_nod] at h2
    rw [repOf_nod, pOf_nod]
    have ll := repOf_len g l f lo (some (clamp lo hi (g (f + l.size))))
    by_cases c : i = f + l.size
    · rw [if_pos c, List.getElem?_append_right (by omega), ll, c, show f + l.size - f - l.size = 0 by omega]
      rfl
    · rw [if_neg c]
      by_cases d : i < f + l.size
      · rw [if_pos d, List.getElem?_append_left (by omega)]
        exact repOf_at g l f lo _ i h1 d
      · rw [if_neg d, List.getElem?_append_right (by omega), ll, show i - f - l.size = (i - (f + l.size + 1)) + 1 by omega, List.getElem?_cons_succ]
        exact repOf_at g r (f + l.size + 1) _ hi i (by omega) (by omega)
theorem rep_get (g : Nat → Int) (t : Tr) {i : Nat} (h : i < t.size) : (repOf g t 0 none none)[i]? = some (repAt g (pOf t 0 i) i) := by
  have := repOf_at g t 0 none none i (Nat.zero_le _) (by omega)
  rw [Nat.sub_zero] at this
  exact this
/-! ### greater values -/
def optLe : Option Int → Option Int → Prop
  | some a, some b => a ≤ b
  | none, none => True
  | _, _ => False
theorem clamp_mono {lo hi lo' hi' : Option Int} {v v' : Int} (h1 : optLe lo lo') (h2 : optLe hi hi') (h3 : v ≤ v') (k : ∀ l h, lo' = some l → hi' = some h → l ≤ h) : clamp lo hi v ≤ clamp lo' hi' v' := by
  cases lo with
  | none => cases lo' with
    | some _ => exact h1.elim
    | none => cases hi with
      | none => cases hi' with
        | some _ => exact h2.elim
        | none => exact h3
      | some a => cases hi' with
        | none => exact h2.elim
        | some b =>
          have h2 : a ≤ b := h2
          show (if v ≥ a then a else v) ≤ if v' ≥ b then b else v'
          split <;> split <;> omega
  | some a => cases lo' with
    | none => exact h1.elim
    | some b =>
      have h1 : a ≤ b := h1
      cases hi with
      | none => cases hi' with
        | some _ => exact h2.elim
        | none =>
          show (if v ≤ a then a else v) ≤ if v' ≤ b then b else v'
          split <;> split <;> omega
      | some c => cases hi' with
        | none => exact h2.elim
        | some d =>
          have h2 : c ≤ d := h2
          have k := k b d rfl rfl
          show (if v ≤ a then a else if v ≥ c then c else v) ≤ if v' ≤ b then b else if v' ≥ d then d else v'
          split <;> split <;> (try split) <;> (try split) <;> omega
theorem rep_mono {g g' : Nat → Int} (n : Nat) (hg : ∀ i, i < n → g i ≤ g' i) : ∀ (t : Tr) (f : Nat) (lo hi lo' hi' : Option Int), f + t.size ≤ n → optLe lo lo' → optLe hi hi' → Straight lo' hi' → ∀ (i : Nat) (x y : Int), (repOf g t f lo hi)[i]? = some x → (repOf g' t f lo' hi')[i]? = some y → x ≤ y
  | .nil, _, _, _, _, _, _, _, _, _, i, x, y, h, _ => by cases h
  | .nod l r, f, lo, hi, lo', hi', hn, h1, h2, s, i, x, y, hx, hy => by
    rw [size_nod] at hn
    have hc := clamp_mono h1 h2 (hg (f + l.size) (by omega)) s
    obtain ⟨s1, s2⟩ := clamp_in s (g' (f + l.size))
    rw [repOf_nod] at hx hy
    have l1 := repOf_len g l f lo (some (clamp lo hi (g (f + l.size))))
    have l2 := repOf_len g' l f lo' (some (clamp lo' hi' (g' (f + l.size))))
    by_cases c : i < l.size
    · rw [List.getElem?_append_left (by omega)] at hx hy
      exact rep_mono n hg l f lo _ lo' _ (by omega) h1 (show optLe (some _) (some _) from hc) s1 i x y hx hy
    · rw [List.getElem?_append_right (by omega), l1] at hx
      rw [List.getElem?_append_right (by omega), l2] at hy
      cases e : i - l.size with
      | zero =>
        rw [e] at hx hy
        cases hx
        cases hy
        exact hc
      | succ j =>
        rw [e] at hx hy
        exact rep_mono n hg r (f + l.size + 1) _ hi _ hi' (by omega) (show optLe (some _) (some _) from hc) h2 s2 j x y hx hy
theorem clamp_add (lo hi : Option Int) (v d : Int) : clamp (lo.map (· + d)) (hi.map (· + d)) (v + d) = clamp lo hi v + d := by
  cases lo with
  | none => cases hi with
    | none => rfl
    | some h => show (if v + d ≥ h + d then h + d else v + d) = (if v ≥ h then h else v) + d; split <;> split <;> omega
  | some l => cases hi with
    | none => show (if v + d ≤ l + d then l + d else v + d) = (if v ≤ l then l else v) + d; split <;> split <;> omega
    | some h =>
      show (if v + d ≤ l + d then l + d else if v + d ≥ h + d then h + d else v + d) = (if v ≤ l then l else if v ≥ h then h else v) + d
      split <;> split <;> (try split) <;> (try split) <;> omega
theorem rep_add {g g' : Nat → Int} (d : Int) (n : Nat) (hg : ∀ i, i < n → g' i = g i + d) : ∀ (t : Tr) (f : Nat) (lo hi : Option Int), f + t.size ≤ n → repOf g' t f (lo.map (· + d)) (hi.map (· + d)) = (repOf g t f lo hi).map (· + d)
  | .nil, _, _, _, _ => rfl
  | .nod l r, f, lo, hi, hn => by
    rw [size_nod] at hn
    rw [repOf_nod, repOf_nod, hg _ (by omega), clamp_add, List.map_append, List.map_cons]
    rw [← rep_add d n hg l f lo (some (clamp lo hi (g (f + l.size)))) (by omega), ← rep_add d n hg r (f + l.size + 1) (some (clamp lo hi (g (f + l.size)))) hi (by omega)]
    rfl
/-! ### the labels along a path -/
theorem low_snoc (g : Nat → Int) : ∀ (p : List (Nat × Bool)) (n : Nat) (b : Bool), lowOf g (p ++ [(n, b)]) = if b = true then (match lowOf g p with | none => some (g n) | some m => some (max m (g n))) else lowOf g p
  | [], n, true => rfl
  | [], n, false => rfl
  | (k, false) :: r, n, b => low_snoc g r n b
  | (k, true) :: r, n, b => by
    have e : ∀ q, lowOf g ((k, true) :: q) = match lowOf g q with | none => some (g k) | some m => some (max (g k) m) := fun q => rfl
    rw [List.cons_append, e, e, low_snoc g r n b]
    cases b with
    | false => rfl
    | true =>
      rw [if_pos rfl, if_pos rfl]
      cases lowOf g r with
      | none => rfl
      | some m => exact congrArg some (by omega)
theorem high_snoc (g : Nat → Int) : ∀ (p : List (Nat × Bool)) (n : Nat) (b : Bool), highOf g (p ++ [(n, b)]) = if b = true then highOf g p else (match highOf g p with | none => some (g n) | some m => some (min m (g n)))
  | [], n, true => rfl
  | [], n, false => rfl
  | (k, true) :: r, n, b => high_snoc g r n b
  | (k, false) :: r, n, b => by
    have e : ∀ q, highOf g ((k, false) :: q) = match highOf g q with | none => some (g k) | some m => some (min (g k) m) := fun q => rfl
    rw [List.cons_append, e, e, high_snoc g r n b]
    cases b with
    | true => rfl
    | false =>
      rw [if_neg Bool.false_ne_true, if_neg Bool.false_ne_true]
      cases highOf g r with
      | none => rfl
      | some m => exact congrArg some (by omega)
/-- the first one above that kills -/
def killerOf (lab : Nat → Str) : List (Nat × Bool) → Option Nat
  | [] => none
  | (n, b) :: r => if kills (lab n) b = true then some n else killerOf lab r
/-- the nearest one above, found, on this side -/
def boundOf (lab : Nat → Str) (c : Bool) : List (Nat × Bool) → Option Nat → Option Nat
  | [], z => z
  | (n, b) :: r, z => boundOf lab c r (if b = c ∧ lab n = ("found" : Str) then some n else z)
theorem killerOf_snoc (lab : Nat → Str) : ∀ (p : List (Nat × Bool)) (n : Nat) (b : Bool), killerOf lab (p ++ [(n, b)]) = match killerOf lab p with | some k => some k | none => if kills (lab n) b = true then some n else none
  | [], n, b => rfl
  | (m, c) :: r, n, b => by
    show (if kills (lab m) c = true then some m else killerOf lab (r ++ [(n, b)])) = match (if kills (lab m) c = true then some m else killerOf lab r) with | some k => some k | none => _
    by_cases h : kills (lab m) c = true
    · rw [if_pos h, if_pos h]
    · rw [if_neg h, if_neg h]
      exact killerOf_snoc lab r n b
theorem boundOf_snoc (lab : Nat → Str) (c : Bool) : ∀ (p : List (Nat × Bool)) (z : Option Nat) (n : Nat) (b : Bool), boundOf lab c (p ++ [(n, b)]) z = if b = c ∧ lab n = ("found" : Str) then some n else boundOf lab c p z
  | [], _, _, _ => rfl
  | (_, _) :: r, _, n, b => boundOf_snoc lab c r _ n b
theorem killerOf_mem {lab : Nat → Str} : ∀ {p : List (Nat × Bool)} {k : Nat}, killerOf lab p = some k → ∃ b, (k, b) ∈ p
  | [], _, h => by cases h
  | (n, b) :: r, k, h => by
    have h : (if kills (lab n) b = true then some n else killerOf lab r) = some k := h
    by_cases c : kills (lab n) b = true
    · rw [if_pos c] at h
      cases h
      exact ⟨b, List.mem_cons_self⟩
    · rw [if_neg c] at h
      obtain ⟨b', hb⟩ := killerOf_mem h
      exact ⟨b', List.mem_cons_of_mem _ hb⟩
theorem str_low : ∀ l : Lb, (l.str = ("low" : Str)) ↔ l = .low := fun l => by cases l <;> exact ⟨fun h => by first | rfl | exact absurd h (by decide +kernel), fun h => by first | rfl | exact absurd h (by decide)⟩
theorem str_high : ∀ l : Lb, (l.str = ("high" : Str)) ↔ l = .high := fun l => by cases l <;> exact ⟨fun h => by first | rfl | exact absurd h (by decide +kernel), fun h => by first | rfl | exact absurd h (by decide)⟩
theorem str_found : ∀ l : Lb, (l.str = ("found" : Str)) ↔ l = .found := fun l => by cases l <;> exact ⟨fun h => by first | rfl | exact absurd h (by decide +kernel), fun h => by first | rfl | exact absurd h (by decide)⟩
theorem str_dead : ∀ l : Lb, (l.str = ("dead" : Str)) ↔ l = .dead := fun l => by cases l <;> exact ⟨fun h => by first | rfl | exact absurd h (by decide +kernel), fun h => by first | rfl | exact absurd h (by decide)⟩
theorem kills_lb (l : Lb) (b : Bool) : kills l.str b = if b = true then decide (l = .high) else decide (l = .low) := by
  cases b
  · show decide (l.str = ("low" : Str)) = decide (l = .low)
    exact decide_eq_decide.mpr (str_low l)
  · show decide (l.str = ("high" : Str)) = decide (l = .high)
    exact decide_eq_decide.mpr (str_high l)
/-- the labels of the ancestors on a path -/
def Told (g : Nat → Int) (lab : Nat → Lb) (p : List (Nat × Bool)) : Prop := ∀ q n b r, p = q ++ (n, b) :: r → lab n = lbOf (bndOf g q) (g n)
theorem Told.init {g : Nat → Int} {lab : Nat → Lb} {p : List (Nat × Bool)} {z : Nat × Bool} (h : Told g lab (p ++ [z])) : Told g lab p := fun q n b r e => h q n b (r ++ [z]) (by rw [e, List.append_assoc]; rfl)
theorem Told.last {g : Nat → Int} {lab : Nat → Lb} {p : List (Nat × Bool)} {n : Nat} {b : Bool} (h : Told g lab (p ++ [(n, b)])) : lab n = lbOf (bndOf g p) (g n) := h p n b [] rfl
/-- what is true along a path -/
def AliveAt (g : Nat → Int) (lab : Nat → Lb) (p : List (Nat × Bool)) : Prop := bndOf g p = some (stOf g none none p) ∧ killerOf (fun n => (lab n).str) p = none ∧
    (∀ l h, (stOf g none none p).1 = some l → (stOf g none none p).2 = some h → l < h) ∧
    (∀ l, (stOf g none none p).1 = some l → ∃ n b, boundOf (fun n => (lab n).str) true p none = some n ∧ (n, b) ∈ p ∧ lab n = .found ∧ g n = l) ∧
    (∀ h, (stOf g none none p).2 = some h → ∃ n b, boundOf (fun n => (lab n).str) false p none = some n ∧ (n, b) ∈ p ∧ lab n = .found ∧ g n = h)
def DeadAt (g : Nat → Int) (lab : Nat → Lb) (p : List (Nat × Bool)) : Prop := bndOf g p = none ∧ ∃ x k q b r, stOf g none none p = (some x, some x) ∧ killerOf (fun n => (lab n).str) p = some k ∧ p = q ++ (k, b) :: r ∧ bndOf g q ≠ none ∧ repAt g q k = x
def Crossed (lo hi : Option Int) : Prop := ∃ a b, lo = some a ∧ hi = some b ∧ b ≤ a
theorem bnd_dead {g : Nat → Int} {p : List (Nat × Bool)} (h : Crossed (lowOf g p) (highOf g p)) : bndOf g p = none := by
  obtain ⟨a, b, e1, e2, le⟩ := h
  unfold bndOf
  rw [e1, e2]
  exact if_pos le
theorem bnd_alive {g : Nat → Int} {p : List (Nat × Bool)} (h : ¬ Crossed (lowOf g p) (highOf g p)) : bndOf g p = some (lowOf g p, highOf g p) := by
  unfold bndOf
  cases e1 : lowOf g p with
  | none => rfl
  | some a => cases e2 : highOf g p with
    | none => rfl
    | some b =>
      show (if a ≥ b then none else some (some a, some b)) = _
      exact if_neg fun c => h ⟨a, b, e1, e2, c⟩
theorem bndOf_some {g : Nat → Int} {p : List (Nat × Bool)} {lo hi : Option Int} (h : bndOf g p = some (lo, hi)) : lowOf g p = lo ∧ highOf g p = hi := by
  by_cases c : Crossed (lowOf g p) (highOf g p)
  · rw [bnd_dead c] at h
    cases h
  · rw [bnd_alive c] at h
    cases h
    exact ⟨rfl, rfl⟩
theorem bndOf_none {g : Nat → Int} {p : List (Nat × Bool)} (h : bndOf g p = none) : Crossed (lowOf g p) (highOf g p) := by
  by_cases c : Crossed (lowOf g p) (highOf g p)
  · exact c
  · rw [bnd_alive c] at h
    cases h
/-- a label, where the interval is not empty -/
theorem lb_cases (lo hi : Option Int) (v : Int) (s : ∀ l h, lo = some l → hi = some h → l < h) : (lbOf (some (lo, hi)) v = .found ∧ clamp lo hi v = v ∧ (∀ l, lo = some l → l < v) ∧ ∀ b, hi = some b → v < b) ∨
    (lbOf (some (lo, hi)) v = .low ∧ ∃ l, lo = some l ∧ v ≤ l ∧ clamp lo hi v = l) ∨ (lbOf (some (lo, hi)) v = .high ∧ ∃ b, hi = some b ∧ b ≤ v ∧ clamp lo hi v = b) := by
  cases lo with
  | none => cases hi with
    | none => exact .inl ⟨rfl, rfl, fun _ e => (by cases e), fun _ e => (by cases e)⟩
    | some b =>
      by_cases c : v ≥ b
      · exact .inr (.inr ⟨(if_pos c : (if v ≥ b then Lb.high else .found) = .high), b, rfl, c, (if_pos c : (if v ≥ b then b else v) = b)⟩)
      · exact .inl ⟨(if_neg c : (if v ≥ b then Lb.high else .found) = .found), (if_neg c : (if v ≥ b then b else v) = v), fun _ e => (by cases e), fun _ e => (by cases e; omega)⟩
  | some l =>
    by_cases c : v ≤ l
    · exact .inr (.inl ⟨by unfold lbOf; exact if_pos c, l, rfl, c, by unfold clamp; exact if_pos c⟩)
    · cases hi with
      | none => exact .inl ⟨(if_neg c : (if v ≤ l then Lb.low else .found) = .found), (if_neg c : (if v ≤ l then l else v) = v), fun _ e => (by cases e; omega), fun _ e => (by cases e)⟩
      | some b =>
        have lt := s l b rfl rfl
        have e1 : lbOf (some (some l, some b)) v = if v ≤ l then .low else if v ≥ b then .high else .found := rfl
        have e2 : clamp (some l) (some b) v = if v ≤ l then l else if v ≥ b then b else v := rfl
        rw [e1, e2, if_neg c, if_neg c]
        by_cases d : v ≥ b
        · rw [if_pos d, if_pos d]
          exact .inr (.inr ⟨rfl, b, rfl, d, rfl⟩)
        · rw [if_neg d, if_neg d]
          exact .inl ⟨rfl, rfl, fun _ e => (by cases e; omega), fun _ e => (by cases e; omega)⟩
theorem clamp_same (x v : Int) : clamp (some x) (some x) v = x := by
  show (if v ≤ x then x else if v ≥ x then x else v) = x
  split
  · rfl
  · rw [if_pos (by omega)]
end HSP
namespace HSP
open PySem PySem.Spec PyProof.Rows L2
theorem units65 {k : Nat} {A : Around} (r : Room k A) : A.units + 65 < cLine := by have := r.un; omega
theorem path_ind {α : Type} {C : List α → Prop} (h0 : C []) (h1 : ∀ q z, C q → C (q ++ [z])) : ∀ (n : Nat) (p : List α), p.length = n → C p
  | 0, p, h => by rw [List.length_eq_zero_iff.mp h]; exact h0
  | n + 1, p, h => by
    rcases List.eq_nil_or_concat p with e | ⟨q, z, e⟩
    · rw [e]; exact h0
    · rw [e, List.concat_eq_append]
      refine h1 q z (path_ind h0 h1 n q ?_)
      rw [e, List.concat_eq_append, List.length_append, List.length_singleton] at h
      omega
theorem along (g : Nat → Int) (lab : Nat → Lb) (p : List (Nat × Bool)) (h : Told g lab p) : AliveAt g lab p ∨ DeadAt g lab p := by
  refine path_ind (C := fun p => Told g lab p → AliveAt g lab p ∨ DeadAt g lab p) (fun _ => .inl ⟨rfl, rfl, fun l h e => (by cases e), fun l e => (by cases e), fun l e => (by cases e)⟩) (fun q z ih ht => ?_) p.length p rfl h
  obtain ⟨n, b⟩ := z
  have hl := ht.last
  rcases ih ht.init with ⟨ab, ak, as_, a1, a2⟩ | ⟨db, x, k, q1, c, r, ds, dk, dp, dq, dr⟩
  · rcases hst : stOf g none none q with ⟨lo, hi⟩
    rw [hst] at ab as_ a1 a2
    obtain ⟨el, eh⟩ := bndOf_some ab
    rw [ab] at hl
    have st := stOf_snoc g q none none n b
    rw [hst] at st
    have lsn := low_snoc g q n b
    have hsn := high_snoc g q n b
    rw [el] at lsn
    rw [eh] at hsn
    have ksn := killerOf_snoc (fun n => (lab n).str) q n b
    rw [ak] at ksn
    have k2 : killerOf (fun n => (lab n).str) (q ++ [(n, b)]) = if kills (lab n).str b = true then some n else none := ksn
    rw [kills_lb] at k2
    have bT := boundOf_snoc (fun n => (lab n).str) true q none n b
    have bF := boundOf_snoc (fun n => (lab n).str) false q none n b
    have memq : ∀ {m : Nat} {c : Bool}, (m, c) ∈ q → (m, c) ∈ q ++ [(n, b)] := fun h => List.mem_append_left _ h
    have memn : (n, b) ∈ q ++ [(n, b)] := List.mem_append_right _ List.mem_cons_self
    rcases lb_cases lo hi (g n) as_ with ⟨e1, e2, e3, e4⟩ | ⟨e1, l, e2, e3, e4⟩ | ⟨e1, h, e2, e3, e4⟩
    · -- found
      rw [e1] at hl
      have fs : (lab n).str = ("found" : Str) := (str_found _).mpr hl
      refine .inl ?_
      cases b with
      | true =>
        have st' : stOf g none none (q ++ [(n, true)]) = (some (g n), hi) := by
          rw [st, if_pos rfl]
          exact congrArg (fun z => (some z, hi)) e2
        have l2 : lowOf g (q ++ [(n, true)]) = some (g n) := by
          rw [lsn, if_pos rfl]
          cases lo with
          | none => rfl
          | some l => have := e3 l rfl; exact congrArg some (by omega)
        have h2 : highOf g (q ++ [(n, true)]) = hi := by rw [hsn, if_pos rfl]
        refine ⟨?_, ?_, ?_, ?_, ?_⟩
        · rw [bnd_alive (by rw [l2, h2]; exact fun ⟨a, c, f1, f2, f3⟩ => (by cases f1; have := e4 c f2; omega)), l2, h2, st']
        · rw [k2, hl]
          rfl
        · rw [st']
          exact fun l h f1 f2 => (by cases f1; exact e4 h f2)
        · rw [st']
          intro l f1
          cases f1
          refine ⟨n, true, ?_, memn, hl, rfl⟩
          rw [bT, if_pos ⟨rfl, fs⟩]
        · rw [st']
          intro h f1
          obtain ⟨m, c, g1, g2, g3, g4⟩ := a2 h f1
          refine ⟨m, c, ?_, memq g2, g3, g4⟩
          rw [bF, if_neg (fun z => by cases z.1)]
          exact g1
      | false =>
        have st' : stOf g none none (q ++ [(n, false)]) = (lo, some (g n)) := by
          rw [st, if_neg Bool.false_ne_true]
          exact congrArg (fun z => (lo, some z)) e2
        have l2 : lowOf g (q ++ [(n, false)]) = lo := by rw [lsn, if_neg Bool.false_ne_true]
        have h2 : highOf g (q ++ [(n, false)]) = some (g n) := by
          rw [hsn, if_neg Bool.false_ne_true]
          cases hi with
          | none => rfl
          | some l => have := e4 l rfl; exact congrArg some (by omega)
        refine ⟨?_, ?_, ?_, ?_, ?_⟩
        · rw [bnd_alive (by rw [l2, h2]; exact fun ⟨a, c, f1, f2, f3⟩ => (by cases f2; have := e3 a f1; omega)), l2, h2, st']
        · rw [k2, hl]
          rfl
        · rw [st']
          exact fun l h f1 f2 => (by cases f2; exact e3 l f1)
        · rw [st']
          intro l f1
          obtain ⟨m, c, g1, g2, g3, g4⟩ := a1 l f1
          refine ⟨m, c, ?_, memq g2, g3, g4⟩
          rw [bT, if_neg (fun z => by cases z.1)]
          exact g1
        · rw [st']
          intro h f1
          cases f1
          refine ⟨n, false, ?_, memn, hl, rfl⟩
          rw [bF, if_pos ⟨rfl, fs⟩]
    · -- low
      rw [e1] at hl
      have nf : ¬ (lab n).str = ("found" : Str) := fun z => by have := (str_found _).mp z; rw [hl] at this; cases this
      subst e2
      cases b with
      | true =>
        refine .inl ?_
        have st' : stOf g none none (q ++ [(n, true)]) = (some l, hi) := by
          rw [st, if_pos rfl]
          exact congrArg (fun z => (some z, hi)) e4
        have l2 : lowOf g (q ++ [(n, true)]) = some l := by
          rw [lsn, if_pos rfl]
          exact congrArg some (by omega)
        have h2 : highOf g (q ++ [(n, true)]) = hi := by rw [hsn, if_pos rfl]
        refine ⟨?_, ?_, ?_, ?_, ?_⟩
        · rw [bnd_alive (by rw [l2, h2]; exact fun ⟨a, c, f1, f2, f3⟩ => (by cases f1; have := as_ l c rfl f2; omega)), l2, h2, st']
        · rw [k2, hl]
          rfl
        · rw [st']
          exact as_
        · rw [st']
          intro l' f1
          obtain ⟨m, c, g1, g2, g3, g4⟩ := a1 l' f1
          refine ⟨m, c, ?_, memq g2, g3, g4⟩
          rw [bT, if_neg (fun z => nf z.2)]
          exact g1
        · rw [st']
          intro h f1
          obtain ⟨m, c, g1, g2, g3, g4⟩ := a2 h f1
          refine ⟨m, c, ?_, memq g2, g3, g4⟩
          rw [bF, if_neg (fun z => nf z.2)]
          exact g1
      | false =>
        refine .inr ?_
        have st' : stOf g none none (q ++ [(n, false)]) = (some l, some l) := by
          rw [st, if_neg Bool.false_ne_true]
          exact congrArg (fun z => (some l, some z)) e4
        have l2 : lowOf g (q ++ [(n, false)]) = some l := by rw [lsn, if_neg Bool.false_ne_true]
        have h2 : ∃ c, highOf g (q ++ [(n, false)]) = some c ∧ c ≤ l := by
          rw [hsn, if_neg Bool.false_ne_true]
          cases hi with
          | none => exact ⟨_, rfl, e3⟩
          | some m => exact ⟨_, rfl, by omega⟩
        obtain ⟨c, h2, h3⟩ := h2
        refine ⟨bnd_dead ⟨l, c, l2, h2, h3⟩, l, n, q, false, [], st', ?_, rfl, ?_, ?_⟩
        · rw [k2, hl]
          rfl
        · rw [ab]
          exact fun z => by cases z
        · unfold repAt
          rw [hst]
          exact e4
    · -- high
      rw [e1] at hl
      have nf : ¬ (lab n).str = ("found" : Str) := fun z => by have := (str_found _).mp z; rw [hl] at this; cases this
      subst e2
      cases b with
      | false =>
        refine .inl ?_
        have st' : stOf g none none (q ++ [(n, false)]) = (lo, some h) := by
          rw [st, if_neg Bool.false_ne_true]
          exact congrArg (fun z => (lo, some z)) e4
        have l2 : lowOf g (q ++ [(n, false)]) = lo := by rw [lsn, if_neg Bool.false_ne_true]
        have h2 : highOf g (q ++ [(n, false)]) = some h := by
          rw [hsn, if_neg Bool.false_ne_true]
          exact congrArg some (by omega)
        refine ⟨?_, ?_, ?_, ?_, ?_⟩
        · rw [bnd_alive (by rw [l2, h2]; exact fun ⟨a, c, f1, f2, f3⟩ => (by cases f2; have := as_ a h f1 rfl; omega)), l2, h2, st']
        · rw [k2, hl]
          rfl
        · rw [st']
          exact as_
        · rw [st']
          intro l' f1
          obtain ⟨m, c, g1, g2, g3, g4⟩ := a1 l' f1
          refine ⟨m, c, ?_, memq g2, g3, g4⟩
          rw [bT, if_neg (fun z => nf z.2)]
          exact g1
        · rw [st']
          intro h f1
          obtain ⟨m, c, g1, g2, g3, g4⟩ := a2 h f1
          refine ⟨m, c, ?_, memq g2, g3, g4⟩
          rw [bF, if_neg (fun z => nf z.2)]
          exact g1
      | true =>
        refine .inr ?_
        have st' : stOf g none none (q ++ [(n, true)]) = (some h, some h) := by
          rw [st, if_pos rfl]
          exact congrArg (fun z => (some z, some h)) e4
        have h2 : highOf g (q ++ [(n, true)]) = some h := by rw [hsn, if_pos rfl]
        have l2 : ∃ c, lowOf g (q ++ [(n, true)]) = some c ∧ h ≤ c := by
          rw [lsn, if_pos rfl]
          cases lo with
          | none => exact ⟨_, rfl, e3⟩
          | some m => exact ⟨_, rfl, by omega⟩
        obtain ⟨c, l2, h3⟩ := l2
        refine ⟨bnd_dead ⟨c, h, l2, h2, h3⟩, h, n, q, true, [], st', ?_, rfl, ?_, ?_⟩
        · rw [k2, hl]
          rfl
        · rw [ab]
          exact fun z => by cases z
        · unfold repAt
          rw [hst]
          exact e4
  · refine .inr ⟨?_, x, k, q1, c, r ++ [(n, b)], ?_, ?_, ?_, dq, dr⟩
    · obtain ⟨a, d, e1, e2, le⟩ := bndOf_none db
      have lsn := low_snoc g q n b
      have hsn := high_snoc g q n b
      rw [e1] at lsn
      rw [e2] at hsn
      cases b with
      | true => exact bnd_dead ⟨_, _, lsn, hsn, by omega⟩
      | false => exact bnd_dead ⟨_, _, lsn, hsn, by omega⟩
    · rw [stOf_snoc, ds, clamp_same]
      cases b <;> rfl
    · rw [killerOf_snoc, dk]
    · rw [dp, List.append_assoc]
      rfl
/-- what stands above a node on a path is the node's own path -/
theorem pOf_split : ∀ (t : Tr) (f i : Nat) (q : List (Nat × Bool)) (n : Nat) (b : Bool) (r : List (Nat × Bool)), f ≤ i → i < f + t.size → pOf t f i = q ++ (n, b) :: r → pOf t f n = q
  | .nil, f, i, _, _, _, _, h1, h2, _ => by
    have : Tr.nil.size = 0 := rfl
    omega
  | .nod l r', f, i, q, n, b, r, h1, h2, e => by
    rw [size_nod] at h2
    rw [pOf_nod] at e ⊢
    by_cases c : i = f + l.size
    · rw [if_pos c] at e
      exact absurd e.symm (by simp)
    · rw [if_neg c] at e
      by_cases d : i < f + l.size
      · rw [if_pos d] at e
        cases q with
        | nil =>
          have e1 := List.cons.inj e
          have en := (Prod.mk.inj e1.1).1
          rw [if_pos en.symm]
        | cons y q' =>
          have e1 := List.cons.inj e
          have hn := pOf_in l f i (n, b) (by rw [e1.2]; exact List.mem_append_right _ List.mem_cons_self)
          have h3 : f ≤ n ∧ n < f + l.size := hn
          rw [if_neg (by omega), if_pos h3.2, pOf_split l f i q' n b r h1 d e1.2, e1.1]
      · rw [if_neg d] at e
        cases q with
        | nil =>
          have e1 := List.cons.inj e
          have en := (Prod.mk.inj e1.1).1
          rw [if_pos en.symm]
        | cons y q' =>
          have e1 := List.cons.inj e
          have hn := pOf_in r' (f + l.size + 1) i (n, b) (by rw [e1.2]; exact List.mem_append_right _ List.mem_cons_self)
          have h3 : f + l.size + 1 ≤ n ∧ n < f + l.size + 1 + r'.size := hn
          rw [if_neg (by omega), if_neg (by omega), pOf_split r' (f + l.size + 1) i q' n b r (by omega) (by omega) e1.2, e1.1]
theorem told_labs (g : Nat → Int) (t : Tr) {i : Nat} (h : i < t.size) : Told g (labAt g t) (pOf t 0 i) := fun q n b r e => by
  show lbOf (bndOf g (pOf t 0 n)) (g n) = _
  rw [pOf_split t 0 i q n b r (Nat.zero_le _) (by omega) e]
/-- the ancestors come before -/
theorem pre_anc : ∀ (t : Tr) (f : Nat) (p : List (Nat × Bool)) (k n : Nat) (s : List (Nat × Bool)), (pre t f p)[k]? = some (n, s) → ∀ z, z ∈ s → z ∈ p ∨ ∃ j s', j < k ∧ (pre t f p)[j]? = some (z.1, s')
  | .nil, _, _, _, _, _, h, _, _ => by cases h
  | .nod l r, f, p, k, n, s, h, z, hz => by
    rw [pre_nod] at h ⊢
    have la := pre_len l f (p ++ [(f + l.size, false)])
    cases k with
    | zero =>
      cases h
      exact .inl hz
    | succ k =>
      rw [List.getElem?_cons_succ] at h
      by_cases c : k < l.size
      · rw [List.getElem?_append_left (by omega)] at h
        rcases pre_anc l f _ k n s h z hz with q | ⟨j, s', lt, e⟩
        · rcases List.mem_append.mp q with q | q
          · exact .inl q
          · exact .inr ⟨0, p, Nat.succ_pos _, by rw [List.mem_singleton.mp q]; rfl⟩
        · refine .inr ⟨j + 1, s', Nat.succ_lt_succ lt, ?_⟩
          rw [List.getElem?_cons_succ, List.getElem?_append_left (by omega)]
          exact e
      · rw [List.getElem?_append_right (by omega), la] at h
        rcases pre_anc r _ _ (k - l.size) n s h z hz with q | ⟨j, s', lt, e⟩
        · rcases List.mem_append.mp q with q | q
          · exact .inl q
          · exact .inr ⟨0, p, Nat.succ_pos _, by rw [List.mem_singleton.mp q]; rfl⟩
        · refine .inr ⟨l.size + j + 1, s', by omega, ?_⟩
          rw [List.getElem?_cons_succ, List.getElem?_append_right (by omega), la, show l.size + j - l.size = j by omega]
          exact e
/-! ## owners -/
/-- o owns n -/
structure Owns (g : Nat → Int) (t : Tr) (n o : Nat) : Prop where
  lt : o < t.size
  found : labAt g t o = .found
  val : g o = repAt g (pOf t 0 n) n
theorem owns_found {g : Nat → Int} {t : Tr} {n : Nat} (h : n < t.size) (e : labAt g t n = .found) : Owns g t n n := by
  refine ⟨h, e, ?_⟩
  have e : lbOf (bndOf g (pOf t 0 n)) (g n) = .found := e
  rcases along g (labAt g t) _ (told_labs g t h) with ⟨ab, _, as_, _, _⟩ | ⟨db, _⟩
  · rw [ab] at e
    unfold repAt
    generalize stOf g none none (pOf t 0 n) = st at e as_ ⊢
    obtain ⟨lo, hi⟩ := st
    rcases lb_cases lo hi (g n) as_ with ⟨_, e2, _, _⟩ | ⟨e1, _⟩ | ⟨e1, _⟩
    · exact e2.symm
    · rw [e1] at e; cases e
    · rw [e1] at e; cases e
  · rw [db] at e
    cases e
theorem owns_low {g : Nat → Int} {t : Tr} {n : Nat} (h : n < t.size) (e : labAt g t n = .low) : ∃ o, boundOf (fun n => (labAt g t n).str) true (pOf t 0 n) none = some o ∧ Owns g t n o := by
  have e : lbOf (bndOf g (pOf t 0 n)) (g n) = .low := e
  rcases along g (labAt g t) _ (told_labs g t h) with ⟨ab, _, as_, a1, _⟩ | ⟨db, _⟩
  · rw [ab] at e
    have hr : repAt g (pOf t 0 n) n = clamp (stOf g none none (pOf t 0 n)).1 (stOf g none none (pOf t 0 n)).2 (g n) := rfl
    generalize stOf g none none (pOf t 0 n) = st at e as_ a1 hr
    obtain ⟨lo, hi⟩ := st
    rcases lb_cases lo hi (g n) as_ with ⟨e1, _⟩ | ⟨_, l, e2, e3, e4⟩ | ⟨e1, _⟩
    · rw [e1] at e; cases e
    · obtain ⟨o, b, g1, g2, g3, g4⟩ := a1 l e2
      exact ⟨o, g1, ⟨by have := (pOf_in t 0 n _ g2).2; omega, g3, by rw [g4, hr]; exact e4.symm⟩⟩
    · rw [e1] at e; cases e
  · rw [db] at e
    cases e
theorem owns_high {g : Nat → Int} {t : Tr} {n : Nat} (h : n < t.size) (e : labAt g t n = .high) : ∃ o, boundOf (fun n => (labAt g t n).str) false (pOf t 0 n) none = some o ∧ Owns g t n o := by
  have e : lbOf (bndOf g (pOf t 0 n)) (g n) = .high := e
  rcases along g (labAt g t) _ (told_labs g t h) with ⟨ab, _, as_, _, a2⟩ | ⟨db, _⟩
  · rw [ab] at e
    have hr : repAt g (pOf t 0 n) n = clamp (stOf g none none (pOf t 0 n)).1 (stOf g none none (pOf t 0 n)).2 (g n) := rfl
    generalize stOf g none none (pOf t 0 n) = st at e as_ a2 hr
    obtain ⟨lo, hi⟩ := st
    rcases lb_cases lo hi (g n) as_ with ⟨e1, _⟩ | ⟨e1, _⟩ | ⟨_, l, e2, e3, e4⟩
    · rw [e1] at e; cases e
    · rw [e1] at e; cases e
    · obtain ⟨o, b, g1, g2, g3, g4⟩ := a2 l e2
      exact ⟨o, g1, ⟨by have := (pOf_in t 0 n _ g2).2; omega, g3, by rw [g4, hr]; exact e4.symm⟩⟩
  · rw [db] at e
    cases e
theorem owns_dead {g : Nat → Int} {t : Tr} {n : Nat} (h : n < t.size) (e : labAt g t n = .dead) : ∃ k, killerOf (fun n => (labAt g t n).str) (pOf t 0 n) = some k ∧ (∃ b, (k, b) ∈ pOf t 0 n) ∧ ∀ o, Owns g t k o → Owns g t n o := by
  have e : lbOf (bndOf g (pOf t 0 n)) (g n) = .dead := e
  rcases along g (labAt g t) _ (told_labs g t h) with ⟨ab, _, as_, _, _⟩ | ⟨db, x, k, q, b, r, ds, dk, dp, dq, dr⟩
  · rw [ab] at e
    generalize stOf g none none (pOf t 0 n) = st at e as_
    obtain ⟨lo, hi⟩ := st
    rcases lb_cases lo hi (g n) as_ with ⟨e1, _⟩ | ⟨e1, _⟩ | ⟨e1, _⟩ <;> (rw [e1] at e; cases e)
  · refine ⟨k, dk, killerOf_mem dk, fun o ho => ⟨ho.lt, ho.found, ?_⟩⟩
    rw [ho.val, pOf_split t 0 n q k b r (Nat.zero_le _) (by omega) dp, dr]
    unfold repAt
    rw [ds, clamp_same]
end HSP
namespace HSP
open PySem PySem.Spec PyProof.Rows L2
/-! ## defs that are also called by name, the names the other way round -/
structure DfB (P : Program) (w : World) (K : PySem.W.Frag) (mg : Str → Option Value) (base : Heap) (x : Str) (n : Nat) (ps ks : List Str) (sp : Sp) : Prop where
  ex : ∃ (f : Addr) (fd : FuncData), mg x = some (.ref f) ∧ PySem.W.keepIn K (.ref f) = true ∧ Binds K fd ps [] ∧ KBn K fd ps 0 ks (fun _ ws => ws.reverse) (fun _ zs => zs.reverse) ∧ FnOk P w K mg base CX0 n f fd ps sp
section
variable {P : Program} {w : World} {K : PySem.W.Frag} {mg : Str → Option Value} {base : Heap}
theorem DfB.df {x : Str} {n : Nat} {ps ks : List Str} {sp : Sp} (D : DfB P w K mg base x n ps ks sp) : Df P w K mg base x n ps sp := by
  obtain ⟨f, fd, h1, h2, h3, _, h5⟩ := D.ex
  exact ⟨f, fd, h1, h2, h3, h5⟩
theorem Vals.rev {vs : List V} {us : List Value} (r : Vals vs us) : Vals vs.reverse us.reverse := by
  induction r with
  | nil => exact .nil
  | cons h t ih =>
    rw [List.reverse_cons, List.reverse_cons]
    exact ih.append (.cons h .nil)
theorem DfB.mk' {x : Str} {st : Stmt} {N ps ks : List Str} {k : Nat} {sp : Sp} (a : At K mg x st) (S : FnScope N ps (defScope st)) (len : ∀ vs H Q E, sp vs H Q E → vs.length = ps.length)
    (hb : ∀ (kV doc pm : Value) (an : Option Addr) (cdv ct : Value) (us : List Value), us.length = ps.length → bindArgs (PySem.W.fnOf x x (defArgs st) (defBody st) (defScope st) .none kV doc pm an cdv ct) ⟨us, []⟩ = pure (ps.zip us))
    (hk : ∀ (kV doc pm : Value) (an : Option Addr) (cdv ct : Value) (ws : List Value), ws.length = ks.length → bindArgs (PySem.W.fnOf x x (defArgs st) (defBody st) (defScope st) .none kV doc pm an cdv ct) ⟨[], ks.zip ws⟩ = pure (ps.zip ws.reverse))
    (body : ∀ (f : Addr) (cdv : Value) (A : Around) (outer : List Env) (s : Shared) (H : Hp) (vs : List V) (Q : VK) (E : XK), Room k (A.deeper (envOfC x (defScope st) s.heap.objs.size f cdv)) → sp vs H Q E →
      ∃ t, PSs (cxOf CX0 P w K mg base N x (defScope st) f cdv A outer s H E).nox (defBody st) t ∧ t { nx := fun _ H' => Q .non H', rt := Q } (start N vs) H) : DfB P w K mg base x (k + 1) ps ks sp := by
  obtain ⟨f, fd, hm, F⟩ := a
  refine ⟨f, fd, hm, F.kp, F.binds hb, ⟨fun s us ws _ h1 h2 => ?_, fun _ r => HSP.Vals.rev r⟩, F.ok S len (body f)⟩
  obtain ⟨oc, od, kV, doc, pm, an, cdv, ct, osl, rfl, _⟩ := F.ex
  rw [List.length_eq_zero_iff.mp h1]
  exact .of_eq (hk kV doc pm an cdv ct ws h2)
end
section
variable {X : Cx} {k : Nat} {ps ks : List Str} {sp : Sp} {x : Str} {p pos : Pos} {kws : List Keyword} {tk : TA}
theorem pe_dfK (D : DfB X.prog X.w X.K X.mg X.base x k ps ks sp) (hr : Room k X.A) (hkw : PK X kws tk) (hg : Gl X x := by rfl) (hall : (backToKw pos (keywordEach kws X.env)).all (·.1.isSome) = true := by rfl) (hks : (backToKw pos (keywordEach kws X.env)).filterMap (·.1) = ks := by rfl)
    (hdb : (x == ("__debug__" : Str)) = false := by decide) (hpl : (backToKw pos (keywordEach kws X.env)).any (·.1.isNone) = false := by rfl) : PE X (.Call (.Name x p) [] kws pos) (tCallN 0 ks.length sp (fun _ zs => zs.reverse) E0 tNil tk) := by
  obtain ⟨f, fd, hm, hk, _, kb, F⟩ := D.ex
  exact pe_callK0 F hr hg hm hk kb pass0 hkw hall hks hdb hpl
end
end HSP
namespace HSP
open PySem PySem.Spec PyProof.Rows L2
/-- labels stand in a list -/
def strAt (ls : List Str) (i : Nat) : Str := ls.getD i ""
theorem strAt_get {ls : List Str} {i : Nat} (h : i < ls.length) : (ls.map V.str)[i]? = some (.str (strAt ls i)) := by
  rw [List.getElem?_map, List.getElem?_eq_getElem h, strAt, List.getD_eq_getElem?_getD, List.getElem?_eq_getElem h]
  rfl
def StrsOk (ls : List Str) : Prop := ∀ l, l ∈ ls → PyData.strOk l = true
theorem strAt_ok {ls : List Str} (h : StrsOk ls) {i : Nat} (hi : i < ls.length) : PyData.strOk (strAt ls i) = true := by
  rw [strAt, List.getD_eq_getElem?_getD, List.getElem?_eq_getElem hi]
  exact h _ (List.getElem_mem hi)
def optN : Option Nat → V
  | none => .non
  | some n => natV n
theorem sideV_str (b : Bool) : sideV b = .str (sideS b) := by cases b <;> rfl
section
variable {P : Program} {w : World} {K : PySem.W.Frag} {mg : Str → Option Value} {base : Heap}
/-! ### killer_of -/
theorem sc_killer : FnScope n_killer_of ["pattern", "above"] (defScope s_killer_of) := ⟨rfl, rfl, rfl, by decide +kernel, rfl, by decide +kernel, by decide +kernel⟩
def spKiller : Sp := fun vs H Q _ => ∃ (a r : Addr) (ls : List Str) (p : List (Nat × Bool)), vs = [.ref a, .ref r] ∧ H a = some (.lst (ls.map V.str)) ∧ StrsOk ls ∧ PathAt H r p ∧ (∀ z, z ∈ p → z.1 < ls.length) ∧ ∀ (H' : Hp), Same H H' → Q (optN (killerOf (strAt ls) p)) H'
theorem ok_killer (a : At K mg "killer_of" s_killer_of) : Df P w K mg base "killer_of" 1 ["pattern", "above"] spKiller := by
  refine Df.mk' a sc_killer (fun vs H Q E h => ?_) (fun _ _ _ _ _ _ us hl => match us, hl with | [_, _], _ => rfl) (fun f cdv A outer s H vs Q E hr h => ?_)
  · obtain ⟨a, r, ls, p, rfl, _⟩ := h
    rfl
  obtain ⟨a, r, ls, p, rfl, ha, hok, ⟨tups, er, pt⟩, hn, q⟩ := h
  refine ⟨_, (pss_cons (ps_for PassesOwn.never rfl (pi_list (pv 1)) (pg_tup rfl (pgs_cons (pg_name (i := 2) sc_killer.nd rfl (.inl rfl)) (pgs_cons (pg_name (i := 3) sc_killer.nd rfl (.inl rfl)) pgs_nil))) (pss_one (ps_if (pt_cmpR (op_inTD (units65 hr)) (pe_tup (pa_cons (pe_ix ix_list (pv 0) (pv 2) (fun _ _ => rfl)) (pa_cons (pv 3) pa_nil))) (pe_tup (pa_cons (pe_tup (pa_cons pe_str (pa_cons pe_str pa_nil))) (pa_cons (pe_tup (pa_cons pe_str (pa_cons pe_str pa_nil))) pa_nil))) (by rfl)) (pss_one (ps_ret (pv 2))) pss_nil)))
 (pss_one (ps_ret pe_non))), ?_⟩
  have lt := Paired.length pt
  refine ⟨_, rfl, r, rfl, ⟨_, .of er⟩, for_list (xs := tups.map V.ref) (fun i σ H' => ∃ y2 y3 : Option V, σ = [some (.ref a), some (.ref r), y2, y3] ∧ Same H H' ∧ killerOf (strAt ls) p = killerOf (strAt ls) (p.drop i)) ⟨_, _, rfl, Same.refl _, rfl⟩ (fun i σ H1 _ h1 => ?_) (fun i x σ H1 hx h1 => ?_) (fun σ H1 h1 => ?_)⟩
  · obtain ⟨_, _, _, s1, _⟩ := h1
    exact .of (s1 _ _ er)
  · obtain ⟨y2, y3, rfl, s1, hk⟩ := h1
    rw [List.getElem?_map] at hx
    obtain ⟨T, hT, rfl⟩ := Option.map_eq_some_iff.mp hx
    obtain ⟨⟨n, b⟩, hz, eT⟩ := Paired.getL pt hT
    have hnz := hn (n, b) (List.mem_of_getElem? hz)
    have hi : i < p.length := (List.getElem?_eq_some_iff.mp hz).1
    have ed : p.drop i = (n, b) :: p.drop (i + 1) := by
      rw [List.drop_eq_getElem_cons hi, (List.getElem?_eq_some_iff.mp hz).2]
    refine ⟨T, _, rfl, .of (s1 _ _ eT), rfl, _, _, rfl, _, [], rfl, rfl, ?_⟩
    refine ⟨_, rfl, _, rfl, a, _, _, _, rfl, rfl, .of (s1 _ _ ha), at_of (j := n) rfl (strAt_get hnz), _, rfl, (by show 2 ≤ sizeLine; decide), fun P1 hP1 => ⟨(by show 2 ≤ sizeLine; decide), fun P2 hP2 => ⟨(by show 2 ≤ sizeLine; decide), fun P3 hP3 => ⟨(by show 2 ≤ sizeLine; decide), fun P4 hP4 => ?_⟩⟩⟩⟩
    have t1 := Same.new (o := .tup [V.str (strAt ls n), sideV b]) hP1
    have t2 := Same.new (o := .tup [V.str "low", V.str "left"]) hP2
    have t3 := Same.new (o := .tup [V.str "high", V.str "right"]) hP3
    have t4 := Same.new (o := .tup [V.ref P2, V.ref P3]) hP4
    have e1 := t4 _ _ (t3 _ _ (t2 _ _ (upd_same (H := H1) (a := P1) (o := .tup [V.str (strAt ls n), sideV b]))))
    have e2 := t4 _ _ (t3 _ _ (upd_same (H := upd H1 P1 (.tup [V.str (strAt ls n), sideV b])) (a := P2) (o := .tup [V.str "low", V.str "left"])))
    have e3 := t4 _ _ (upd_same (H := upd (upd H1 P1 (.tup [V.str (strAt ls n), sideV b])) P2 (.tup [V.str "low", V.str "left"])) (a := P3) (o := .tup [V.str "high", V.str "right"]))
    have d1 : Dp K (upd (upd (upd (upd H1 P1 (.tup [V.str (strAt ls n), sideV b])) P2 (.tup [V.str "low", V.str "left"])) P3 (.tup [V.str "high", V.str "right"])) P4 (.tup [V.ref P2, V.ref P3])) (.ref P1) (pairD (strAt ls n) b) := by
      rw [sideV_str] at e1 ⊢
      exact .tup (.of e1) (.cons (.str _) (.cons (.str _) .nil))
    refine ⟨pairD (strAt ls n) b, [.tuple [.str "low", .str "left"], .tuple [.str "high", .str "right"]], d1, .tup (.of upd_same) (.cons (.tup (.of e2) (.cons (.str _) (.cons (.str _) .nil))) (.cons (.tup (.of e3) (.cons (.str _) (.cons (.str _) .nil))) .nil)), pair_shaped b (strAt_ok hok hnz), kills_shaped, _, rfl, ?_⟩
    rw [kill_any]
    have s2 := s1.trans (t1.trans (t2.trans (t3.trans t4)))
    cases c : kills (strAt ls n) b with
    | true =>
      refine iteT ?_
      have ek : killerOf (strAt ls) p = some n := by
        rw [hk, ed]
        show (if kills (strAt ls n) b = true then some n else _) = some n
        rw [if_pos c]
      have fin := q _ s2
      rw [ek] at fin
      exact ⟨_, rfl, fin⟩
    | false =>
      refine iteF ⟨_, _, rfl, s2, ?_⟩
      rw [hk, ed]
      show (if kills (strAt ls n) b = true then some n else _) = _
      rw [if_neg (by rw [c]; exact Bool.false_ne_true)]
  · obtain ⟨y2, y3, rfl, s1, hk⟩ := h1
    have fin := q _ s1
    rw [hk, List.length_map, lt, List.drop_length] at fin
    exact fin
/-! ### bound_of -/
theorem sc_bound : FnScope n_bound_of ["pattern", "above", "side"] (defScope s_bound_of) := ⟨rfl, rfl, rfl, by decide +kernel, rfl, by decide +kernel, by decide +kernel⟩
def spBound : Sp := fun vs H Q _ => ∃ (a r : Addr) (ls : List Str) (p : List (Nat × Bool)) (c : Bool), vs = [.ref a, .ref r, .str (sideS c)] ∧ H a = some (.lst (ls.map V.str)) ∧ PathAt H r p ∧ (∀ z, z ∈ p → z.1 < ls.length) ∧ Q (optN (boundOf (strAt ls) c p none)) H
theorem side_eq (b c : Bool) : decide (V.str (sideS b) = V.str (sideS c)) = decide (b = c) := by
  cases b <;> cases c <;> decide +kernel
theorem ok_bound (a : At K mg "bound_of" s_bound_of) : Df P w K mg base "bound_of" 1 ["pattern", "above", "side"] spBound := by
  refine Df.mk' a sc_bound (fun vs H Q E h => ?_) (fun _ _ _ _ _ _ us hl => match us, hl with | [_, _, _], _ => rfl) (fun f cdv A outer s H vs Q E hr h => ?_)
  · obtain ⟨a, r, ls, p, c, rfl, _⟩ := h
    rfl
  obtain ⟨a, r, ls, p, c, rfl, ha, ⟨tups, er, pt⟩, hn, q⟩ := h
  refine ⟨_, (pss_cons (ps_set (i := 3) sc_bound.nd rfl (.inl rfl) pe_non)
 (pss_cons (ps_for PassesOwn.never rfl (pi_list (pv 1)) (pg_tup rfl (pgs_cons (pg_name (i := 4) sc_bound.nd rfl (.inl rfl)) (pgs_cons (pg_name (i := 5) sc_bound.nd rfl (.inl rfl)) pgs_nil))) (pss_one (ps_if (PW.pt (pw_and (pt_cmpR op_eq (pv 5) (pv 2) (nomark _)) (pw_and1 (pt_cmpR op_eq (pe_ix ix_list (pv 0) (pv 4) (fun _ _ => rfl)) pe_str (nomark _))))) (pss_one (ps_set (i := 3) sc_bound.nd rfl (.inl rfl) (pv 4))) pss_nil)))
 (pss_one (ps_ret (pv 3))))), ?_⟩
  have lt := Paired.length pt
  refine ⟨_, rfl, r, rfl, ⟨_, .of er⟩, for_list (xs := tups.map V.ref) (fun i σ H' => ∃ (z : Option Nat) (y4 y5 : Option V), σ = [some (.ref a), some (.ref r), some (.str (sideS c)), some (optN z), y4, y5] ∧ H' = H ∧ boundOf (strAt ls) c p none = boundOf (strAt ls) c (p.drop i) z) ⟨none, _, _, rfl, rfl, rfl⟩ (fun i σ H1 _ h1 => ?_) (fun i x σ H1 hx h1 => ?_) (fun σ H1 h1 => ?_)⟩
  · obtain ⟨_, _, _, _, s1, _⟩ := h1
    rw [s1]
    exact .of er
  · obtain ⟨z, y4, y5, rfl, rfl, hk⟩ := h1
    rw [List.getElem?_map] at hx
    obtain ⟨T, hT, rfl⟩ := Option.map_eq_some_iff.mp hx
    obtain ⟨⟨n, b⟩, hz, eT⟩ := Paired.getL pt hT
    have hnz := hn (n, b) (List.mem_of_getElem? hz)
    have hi : i < p.length := (List.getElem?_eq_some_iff.mp hz).1
    have ed : p.drop i = (n, b) :: p.drop (i + 1) := by
      rw [List.drop_eq_getElem_cons hi, (List.getElem?_eq_some_iff.mp hz).2]
    have step : boundOf (strAt ls) c p none = boundOf (strAt ls) c (p.drop (i + 1)) (if b = c ∧ strAt ls n = ("found" : Str) then some n else z) := by
      rw [hk, ed]
      rfl
    rw [sideV_str] at eT
    refine ⟨T, _, rfl, .of eT, rfl, _, _, rfl, _, [], rfl, rfl, ?_⟩
    refine ⟨_, rfl, _, rfl, rfl, _, rfl, ?_⟩
    rw [side_eq]
    by_cases d : b = c
    · rw [decide_eq_true d]
      refine iteT ⟨_, rfl, _, rfl, a, _, _, _, rfl, rfl, .of ha, at_of (j := n) rfl (strAt_get hnz), rfl, _, rfl, ?_⟩
      by_cases e : strAt ls n = ("found" : Str)
      · refine ite_yes (congrArg V.str e) ⟨_, rfl, some n, _, _, rfl, rfl, ?_⟩
        rw [step, if_pos ⟨d, e⟩]
      · refine ite_no (fun x => e (V.str.inj x)) ⟨z, _, _, rfl, rfl, ?_⟩
        rw [step, if_neg (fun x => e x.2)]
    · rw [decide_eq_false d]
      refine iteF (iteF ⟨z, _, _, rfl, rfl, ?_⟩)
      rw [step, if_neg (fun x => d x.1)]
  · obtain ⟨z, y4, y5, rfl, rfl, hk⟩ := h1
    rw [hk, List.length_map, lt, List.drop_length] at q
    exact ⟨_, rfl, q⟩
/-! ### owners_of -/
def labsS (g : Nat → Int) (t : Tr) : List Str := (List.range t.size).map fun i => (labAt g t i).str
theorem labsS_len (g : Nat → Int) (t : Tr) : (labsS g t).length = t.size := by
  unfold labsS
  rw [List.length_map, List.length_range]
theorem labsS_at (g : Nat → Int) (t : Tr) {i : Nat} (h : i < t.size) : strAt (labsS g t) i = (labAt g t i).str := by
  unfold strAt labsS
  rw [List.getD_eq_getElem?_getD, List.getElem?_map, List.getElem?_range h]
  rfl
theorem labsV_S (g : Nat → Int) (t : Tr) : labsV g t t.size = (labsS g t).map V.str := by
  unfold labsV labsS
  rw [List.map_map]
  rfl
theorem lb_ok (l : Lb) : PyData.strOk l.str = true := by cases l <;> decide +kernel
theorem labsS_ok (g : Nat → Int) (t : Tr) : StrsOk (labsS g t) := fun l h => by
  obtain ⟨i, _, rfl⟩ := List.mem_map.mp h
  exact lb_ok _
/-- only the labels on a path matter -/
theorem killerOf_same {l l' : Nat → Str} : ∀ {p : List (Nat × Bool)}, (∀ z, z ∈ p → l z.1 = l' z.1) → killerOf l p = killerOf l' p
  | [], _ => rfl
  | (n, b) :: r, h => by
    show (if kills (l n) b = true then some n else killerOf l r) = if kills (l' n) b = true then some n else killerOf l' r
    have e : l n = l' n := h (n, b) List.mem_cons_self
    rw [e, killerOf_same fun z hz => h z (List.mem_cons_of_mem _ hz)]
theorem boundOf_same {l l' : Nat → Str} {c : Bool} : ∀ {p : List (Nat × Bool)} {z : Option Nat}, (∀ z, z ∈ p → l z.1 = l' z.1) → boundOf l c p z = boundOf l' c p z
  | [], _, _ => rfl
  | (n, b) :: r, z, h => by
    show boundOf l c r (if b = c ∧ l n = ("found" : Str) then some n else z) = boundOf l' c r (if b = c ∧ l' n = ("found" : Str) then some n else z)
    have e : l n = l' n := h (n, b) List.mem_cons_self
    rw [e]
    exact boundOf_same fun z hz => h z (List.mem_cons_of_mem _ hz)
def spOwners : Sp := fun vs H Q _ => ∃ (v : V) (t : Tr) (a : Addr) (g : Nat → Int), vs = [v, .ref a] ∧ TrAt H v t ∧ t.size ≤ 300 ∧ H a = some (.lst (labsV g t t.size)) ∧
  ∀ (H' : Hp) (q : Addr) (os : List Nat), Same H H' → H q = none → H' q = some (.lst (os.map natV)) → os.length = t.size → (∀ n, n < t.size → Owns g t n (os.getD n 0)) → Q (.ref q) H'
/-! ### representative -/
def spRep : Sp := fun vs H Q _ => ∃ (v : V) (t : Tr) (a : Addr) (ns : List Int), vs = [v, .ref a] ∧ TrAt H v t ∧ t.size ≤ 300 ∧ H a = some (.lst (ns.map V.int)) ∧ ns.length = t.size ∧ ∀ (H' : Hp) (q : Addr), Same H H' → H q = none → H' q = some (.lst ((repOf (valAt ns) t 0 none none).map V.int)) → Q (.ref q) H'
end
end HSP
namespace HSP
open PySem PySem.Spec PyProof.Rows L2
/-! ### patterns as things -/
def NotS (K : PySem.W.Frag) (H : Hp) (y : V) : Prop := ∃ t, TyX K H y t ∧ PySem.W.kitOne K t (.type "str") = some false
theorem NotS.same {K : PySem.W.Frag} {H H' : Hp} {y : V} (s : Same H H') (h : NotS K H y) : NotS K H' y := by
  obtain ⟨t, ty, k⟩ := h
  exact ⟨t, TyX.same s ty, k⟩
def NotLs (K : PySem.W.Frag) (H : Hp) (y : V) : Prop := ∃ t, TyX K H y t ∧ PySem.W.kitOne K t (.type "list") = some false
theorem NotLs.same {K : PySem.W.Frag} {H H' : Hp} {y : V} (s : Same H H') (h : NotLs K H y) : NotLs K H' y := by
  obtain ⟨t, ty, k⟩ := h
  exact ⟨t, TyX.same s ty, k⟩
/-- a label: a text, or something else -/
def LabelAt (K : PySem.W.Frag) (H : Hp) (x : V) : Option Str → Prop
  | some l => x = .str l ∧ PyData.strOk l = true
  | none => NotS K H x
theorem LabelAt.same {K : PySem.W.Frag} {H H' : Hp} (s : Same H H') {x : V} : ∀ {i : Option Str}, LabelAt K H x i → LabelAt K H' x i
  | some _, h => h
  | none, h => NotS.same s h
def PatAt (K : PySem.W.Frag) (H : Hp) (y : V) : Option (List (Option Str)) → Prop
  | none => NotLs K H y
  | some ls => ∃ (a : Addr) (xs : List V), y = .ref a ∧ H a = some (.lst xs) ∧ Paired (LabelAt K H) xs ls
theorem PatAt.same {K : PySem.W.Frag} {H H' : Hp} (s : Same H H') {y : V} : ∀ {k : Option (List (Option Str))}, PatAt K H y k → PatAt K H' y k
  | none, h => NotLs.same s h
  | some _, ⟨a, xs, e, ha, p⟩ => ⟨a, xs, e, s _ _ ha, Paired.mapP p fun _ _ h => LabelAt.same s h⟩
theorem labels_strs {K : PySem.W.Frag} {H : Hp} : ∀ {xs : List V} {ls : List Str}, Paired (LabelAt K H) xs (ls.map some) → xs = ls.map V.str ∧ StrsOk ls
  | [], [], _ => ⟨rfl, fun l h => (by cases h)⟩
  | _ :: _, [], h => by cases h
  | [], _ :: _, h => by cases h
  | x :: xs, l :: ls, h => by
    cases h with
    | cons a b =>
      obtain ⟨e, o⟩ := labels_strs b
      refine ⟨by rw [show x = V.str l from a.1, e]; rfl, fun m hm => ?_⟩
      rcases List.mem_cons.mp hm with z | z
      · rw [z]; exact a.2
      · exact o m z
theorem some_injS : ∀ {a b : List Str}, a.map some = b.map (some : Str → Option Str) → a = b
  | [], [], _ => rfl
  | [], _ :: _, h => by cases h
  | _ :: _, [], h => by cases h
  | x :: a, y :: b, h => by
    rw [List.map_cons, List.map_cons] at h
    obtain ⟨h1, h2⟩ := List.cons.inj h
    rw [Option.some.inj h1, some_injS h2]
/-- one text for each node -/
def Strings (o : Option (List (Option Str))) (n : Nat) (ls : List Str) : Prop := o = some (ls.map some) ∧ ls.length = n
/-! ### what is possible -/
def possAt (lab : Nat → Str) (p : List (Nat × Bool)) (i : Nat) : Bool :=
  if (killerOf lab p).isSome = true then decide (lab i = ("dead" : Str)) else if lab i = ("low" : Str) then (boundOf lab true p none).isSome else if lab i = ("high" : Str) then (boundOf lab false p none).isSome else decide (lab i = ("found" : Str))
def impOf (lab : Nat → Str) (t : Tr) : Option Nat := ((pre t 0 []).find? fun z => !possAt lab z.2 z.1).map (·.1)
section
variable {P : Program} {w : World} {K : PySem.W.Frag} {mg : Str → Option Value} {base : Heap}
theorem str_dec (a b : Str) : decide (V.str a = V.str b) = decide (a = b) := by
  by_cases c : a = b
  · rw [decide_eq_true c, decide_eq_true (congrArg V.str c)]
  · rw [decide_eq_false c, decide_eq_false fun z => c (V.str.inj z)]
theorem optN_non (o : Option Nat) : decide (optN o = V.non) = o.isNone := by
  cases o with
  | none => exact decide_eq_true rfl
  | some n => exact decide_eq_false fun z => by cases z
theorem sc_is_possible : FnScope n_is_possible ["pattern", "node", "above"] (defScope s_is_possible) := ⟨rfl, rfl, rfl, by decide +kernel, rfl, by decide +kernel, by decide +kernel⟩
def spPoss : Sp := fun vs H Q _ => ∃ (a r : Addr) (ls : List Str) (p : List (Nat × Bool)) (i : Nat), vs = [.ref a, natV i, .ref r] ∧ H a = some (.lst (ls.map V.str)) ∧ StrsOk ls ∧ PathAt H r p ∧ (∀ z, z ∈ p → z.1 < ls.length) ∧ i < ls.length ∧ ∀ H', Same H H' → Q (.bl (possAt (strAt ls) p i)) H'
theorem ok_poss (Ki : Df P w K mg base "killer_of" 1 ["pattern", "above"] spKiller) (Bo : Df P w K mg base "bound_of" 1 ["pattern", "above", "side"] spBound) (a : At K mg "is_possible" s_is_possible) : Df P w K mg base "is_possible" 2 ["pattern", "node", "above"] spPoss := by
  refine Df.mk' a sc_is_possible (fun vs H Q E h => ?_) (fun _ _ _ _ _ _ us hl => match us, hl with | [_, _, _], _ => rfl) (fun f cdv A outer s H vs Q E hr h => ?_)
  · obtain ⟨_, _, _, _, _, rfl, _⟩ := h
    rfl
  obtain ⟨a, r, ls, p, i, rfl, ha, hok, hp, hn, hi, q⟩ := h
  refine ⟨_, (pss_cons (ps_set (i := 3) sc_is_possible.nd rfl (.inl rfl) (pe_ix ix_list (pv 0) (pv 1) (fun _ _ => rfl)))
 (pss_cons (ps_if (pt_cmpR op_notN (pe_df Ki hr (pa_cons (pv 0) (pa_cons (pv 2) pa_nil))) pe_non (nomark _)) (pss_one (ps_ret (pe_cmpR op_eq (pv 3) pe_str (nomark _)))) pss_nil)
 (pss_cons (ps_if (pt_cmpR op_eq (pv 3) pe_str (nomark _)) (pss_one (ps_ret (pe_cmpR op_notN (pe_df Bo hr (pa_cons (pv 0) (pa_cons (pv 2) (pa_cons pe_str pa_nil)))) pe_non (nomark _)))) pss_nil)
 (pss_cons (ps_if (pt_cmpR op_eq (pv 3) pe_str (nomark _)) (pss_one (ps_ret (pe_cmpR op_notN (pe_df Bo hr (pa_cons (pv 0) (pa_cons (pv 2) (pa_cons pe_str pa_nil)))) pe_non (nomark _)))) pss_nil)
 (pss_one (ps_ret (pe_cmpR op_eq (pv 3) pe_str (nomark _)))))))), ?_⟩
  refine ⟨_, rfl, _, rfl, a, _, _, _, rfl, rfl, .of ha, at_of (j := i) rfl (strAt_get hi), ?_⟩
  refine ⟨_, rfl, _, rfl, a, r, ls, p, rfl, ha, hok, hp, hn, fun H1 s1 => ?_⟩
  have ha1 := s1 _ _ ha
  have hp1 := hp.same s1
  unfold possAt at q
  refine ⟨rfl, _, rfl, ?_⟩
  rw [optN_non]
  cases ek : killerOf (strAt ls) p with
  | some k =>
    rw [ek, if_pos (show (some k).isSome = true from rfl), ← str_dec] at q
    refine iteT ?_
    exact ⟨_, rfl, rfl, q _ s1⟩
  | none =>
    rw [ek, if_neg (show ¬ (none : Option Nat).isSome = true from Bool.false_ne_true)] at q
    refine iteF ?_
    refine ⟨_, rfl, rfl, _, rfl, ?_⟩
    by_cases c1 : strAt ls i = ("low" : Str)
    · rw [decide_eq_true (congrArg V.str c1)]
      rw [if_pos c1] at q
      refine iteT ⟨_, rfl, _, rfl, a, r, ls, p, true, rfl, ha1, hp1, hn, rfl, ?_⟩
      rw [optN_non]
      cases eb : boundOf (strAt ls) true p none with
      | none =>
        rw [eb] at q
        exact q _ s1
      | some m =>
        rw [eb] at q
        exact q _ s1
    rw [decide_eq_false (fun z => c1 (V.str.inj z))]
    rw [if_neg c1] at q
    refine iteF ⟨_, rfl, rfl, _, rfl, ?_⟩
    by_cases c2 : strAt ls i = ("high" : Str)
    · rw [decide_eq_true (congrArg V.str c2)]
      rw [if_pos c2] at q
      refine iteT ⟨_, rfl, _, rfl, a, r, ls, p, false, rfl, ha1, hp1, hn, rfl, ?_⟩
      rw [optN_non]
      cases eb : boundOf (strAt ls) false p none with
      | none =>
        rw [eb] at q
        exact q _ s1
      | some m =>
        rw [eb] at q
        exact q _ s1
    rw [decide_eq_false (fun z => c2 (V.str.inj z))]
    rw [if_neg c2] at q
    rw [← str_dec] at q
    exact iteF ⟨_, rfl, rfl, q _ s1⟩
/-! ### impossible_node -/
theorem sc_impossible_node : FnScope n_impossible_node ["tree", "pattern"] (defScope s_impossible_node) := ⟨rfl, rfl, rfl, by decide +kernel, rfl, by decide +kernel, by decide +kernel⟩
def spImp : Sp := fun vs H Q _ => ∃ (v : V) (t : Tr) (a : Addr) (ls : List Str), vs = [v, .ref a] ∧ TrAt H v t ∧ t.size ≤ 300 ∧ H a = some (.lst (ls.map V.str)) ∧ StrsOk ls ∧ ls.length = t.size ∧ ∀ H', Same H H' → Q (optN (impOf (strAt ls) t)) H'
theorem ok_imp (W : Df P w K mg base "walk" 2 ["tree"] spWalk) (Po : Df P w K mg base "is_possible" 2 ["pattern", "node", "above"] spPoss) (a : At K mg "impossible_node" s_impossible_node) : Df P w K mg base "impossible_node" 3 ["tree", "pattern"] spImp := by
  refine Df.mk' a sc_impossible_node (fun vs H Q E h => ?_) (fun _ _ _ _ _ _ us hl => match us, hl with | [_, _], _ => rfl) (fun f cdv A outer s H vs Q E hr h => ?_)
  · obtain ⟨_, _, _, _, rfl, _⟩ := h
    rfl
  obtain ⟨v, t, a, ls, rfl, ht, hz, ha, hok, hl, q⟩ := h
  refine ⟨_, (pss_cons (ps_for PassesOwn.never rfl (pi_list (pe_df W hr (pa_cons (pv 0) pa_nil))) (pg_tup rfl (pgs_cons (pg_name (i := 2) sc_impossible_node.nd rfl (.inl rfl)) (pgs_cons (pg_name (i := 3) sc_impossible_node.nd rfl (.inl rfl)) pgs_nil))) (pss_one (ps_if (pt_not (pt_val (pe_df Po hr (pa_cons (pv 1) (pa_cons (pv 2) (pa_cons (pv 3) pa_nil)))))) (pss_one (ps_ret (pv 2))) pss_nil)))
 (pss_one (ps_ret pe_non))), ?_⟩
  refine ⟨_, rfl, v, t, rfl, ht, hz, fun H1 W0 rows s1 nW eW pW => ?_⟩
  have ha1 := s1 _ _ ha
  have lr := Paired.length pW
  unfold impOf at q
  refine ⟨W0, rfl, ⟨_, .of eW⟩, for_list (xs := rows.map V.ref) (fun i σ H' => (∃ y2 y3 : Option V, σ = [some v, some (.ref a), y2, y3]) ∧ Same H1 H' ∧ (pre t 0 []).find? (fun z => !possAt (strAt ls) z.2 z.1) = ((pre t 0 []).drop i).find? (fun z => !possAt (strAt ls) z.2 z.1)) ⟨⟨none, none, rfl⟩, Same.refl _, rfl⟩ (fun i σ H' _ h' => .of (h'.2.1 _ _ eW)) (fun i x σ H2 hx h2 => ?_) (fun σ H2 h2 => ?_)⟩
  · obtain ⟨⟨y2, y3, rfl⟩, s2, ef⟩ := h2
    rw [List.getElem?_map] at hx
    obtain ⟨R, hR, rfl⟩ := Option.map_eq_some_iff.mp hx
    obtain ⟨⟨n, p⟩, hz2, hRR⟩ := Paired.getL pW hR
    obtain ⟨b, eR, hp, _⟩ := hRR
    have hm := List.mem_of_getElem? hz2
    obtain ⟨g1, g2, g3⟩ := pre_in t 0 [] n p hm
    have hi : i < (pre t 0 []).length := (List.getElem?_eq_some_iff.mp hz2).1
    have ed : (pre t 0 []).drop i = (n, p) :: (pre t 0 []).drop (i + 1) := by
      rw [List.drop_eq_getElem_cons hi, (List.getElem?_eq_some_iff.mp hz2).2]
    have hpn : ∀ z, z ∈ p → z.1 < ls.length := fun z hz3 => by
      rw [g3, List.nil_append] at hz3
      have := pOf_in0 t n z hz3
      omega
    refine ⟨R, _, rfl, .of (s2 _ _ eR), rfl, _, _, rfl, _, [], rfl, rfl, ?_⟩
    refine ⟨_, rfl, _, rfl, _, rfl, a, b, ls, p, n, rfl, s2 _ _ ha1, hok, hp.same s2, hpn, by omega, fun H3 s3 => ⟨_, rfl, ?_⟩⟩
    cases c : possAt (strAt ls) p n with
    | true =>
      refine iteF ⟨⟨_, _, rfl⟩, s2.trans s3, ?_⟩
      rw [ef, ed, List.find?_cons]
      simp [c]
    | false =>
      refine iteT ⟨_, rfl, ?_⟩
      have fin := q _ (s1.trans (s2.trans s3))
      rw [ef, ed, List.find?_cons] at fin
      simp [c] at fin
      exact fin
  · obtain ⟨_, s2, ef⟩ := h2
    have fin := q _ (s1.trans s2)
    rw [ef, List.length_map, lr, List.drop_length] at fin
    exact fin
/-! ### check_strings, check_pattern -/
theorem sc_check_strings : FnScope n_check_strings ["tree", "pattern"] (defScope s_check_strings) := ⟨rfl, rfl, rfl, by decide +kernel, rfl, by decide +kernel, by decide +kernel⟩
def spChkS (K : PySem.W.Frag) (C : Addr) : Sp := fun vs H Q E => ∃ (v : V) (t : Tr) (y : V) (o : Option (List (Option Str))), vs = [v, y] ∧ TrAt H v t ∧ t.size ≤ 300 ∧ PatAt K H y o ∧ (∀ H' ls, Same H H' → Strings o t.size ls → Q .non H') ∧ ((∀ ls, ¬ Strings o t.size ls) → EL C E H .non)
theorem ok_chkS {C fI : Addr} {fd : FuncData} (B : Bl mg) (O : OwnL K mg C fI fd) (Co : Df P w K mg base "count_nodes" 1 ["tree"] spCount) (Ct : Df P w K mg base "check_tree" 2 ["tree"] spChkT) (a : At K mg "check_strings" s_check_strings) : DfX P w K mg base "check_strings" 3 ["tree", "pattern"] (spChkS K C) := by
  refine DfX.mk' a sc_check_strings (fun vs H Q E h => ?_) (fun _ _ _ _ _ _ us hl => match us, hl with | [_, _], _ => rfl) (fun f cdv A outer s H vs Q E hr h => ?_)
  · obtain ⟨_, _, _, _, rfl, _⟩ := h
    rfl
  obtain ⟨v, t, y, o, rfl, ht, hz, hy, q1, q2⟩ := h
  refine ⟨_, (pss_cons (ps_expr (pe_df Ct hr (pa_cons (pv 0) pa_nil)))
 (pss_cons (ps_if (PW.pt (pw_or (pt_not (pt_val (pe_callB call_isi (by rfl) B.isinstance (by decide +kernel) (pa_cons (pv 1) (pa_cons (pe_bltn (v := .ty "list") (by rfl) B.list (by decide +kernel) rfl) pa_nil))))) (pw_or1 (pt_cmpR op_ne (pe_callB call_len_seq (by rfl) B.len PySem.boot_len (pa_cons (pv 1) pa_nil)) (pe_df Co (hr.mono (by decide)) (pa_cons (pv 0) pa_nil)) (nomark _))))) (pss_one (ps_raise rfl (takes_of rfl rfl rfl rfl) (pmk_oex O.T O.i O.t (ok_ilInit O.v O.vV O.F) (hr.mono (by decide)) O.b .nil pass0 rfl O.g (pa_cons pe_non pa_nil)))) pss_nil)
 (pss_one (ps_for (passes_of rfl) rfl (pi_list (pv 1)) (pg_name (i := 2) sc_check_strings.nd rfl (.inl rfl)) (pss_one (ps_if (pt_not (pt_val (pe_callB call_isi (by rfl) B.isinstance (by decide +kernel) (pa_cons (pv 2) (pa_cons (pe_bltn (v := .ty "str") (by rfl) B.str (by decide +kernel) rfl) pa_nil))))) (pss_one (ps_raise rfl (takes_of rfl rfl rfl rfl) (pmk_oex O.T O.i O.t (ok_ilInit O.v O.vV O.F) (hr.mono (by decide)) O.b .nil pass0 rfl O.g (pa_cons pe_non pa_nil)))) pss_nil)))))), ?_⟩
  refine ⟨_, rfl, v, t, rfl, ht, by omega, fun H1 s1 => ?_⟩
  have raise : ∀ H', Same H H' → (∀ ls, ¬ Strings o t.size ls) → EL C E H' .non := fun H' s' h => (q2 h).same s'
  cases o with
  | none =>
    obtain ⟨ty, t1, k1⟩ := hy.same s1
    refine ⟨_, rfl, _, _, _, _, false, rfl, .ty "list", t1, k1, false, rfl, iteT ?_⟩
    exact mk_il O.T O.no (raise H1 s1 fun ls h => by cases h.1)
  | some os =>
  obtain ⟨p, xs, rfl, ep, px⟩ := hy
  have lx := Paired.length px
  have ep1 := s1 _ _ ep
  refine ⟨_, rfl, _, _, _, _, true, rfl, .ty "list", .base (.lst ep1), rfl, true, rfl, iteF ?_⟩
  refine ⟨_, rfl, p, _, rfl, .inl (.of ep1), _, rfl, v, t, rfl, ht.same s1, by omega, fun H2 s12 => ⟨rfl, _, rfl, ?_⟩⟩
  have s1 := s1.trans s12
  have ep1 := s12 _ _ ep1
  by_cases c : os.length = t.size
  · rw [decide_eq_true (show V.int ((xs.length : Nat) : Int) = V.int ((t.size : Nat) : Int) by rw [lx, c])]
    refine iteF ?_
    refine ⟨_, rfl, p, rfl, ⟨_, .of ep1⟩, for_list (xs := xs) (fun i σ H' => (∃ y2 : Option V, σ = [some v, some (.ref p), y2]) ∧ Same H H' ∧ ∃ ls : List Str, os.take i = ls.map some) ⟨⟨none, rfl⟩, s1, [], rfl⟩ (fun i σ H' _ h' => .of (h'.2.1 _ _ ep)) (fun i x σ H2 hx h2 => ?_) (fun σ H2 h2 => ?_)⟩
    · obtain ⟨⟨y2, rfl⟩, s2, ls, el⟩ := h2
      obtain ⟨l, hl, hlx⟩ := Paired.getL px hx
      cases l with
      | none =>
        obtain ⟨ty, t1, k1⟩ := NotS.same s2 hlx
        refine ⟨_, rfl, _, _, _, _, false, rfl, .ty "str", t1, k1, false, rfl, iteT ?_⟩
        refine mk_il O.T O.no (raise H2 s2 fun ls h => ?_)
        have h := Option.some.inj h.1
        rw [h, List.getElem?_map] at hl
        obtain ⟨_, _, z⟩ := Option.map_eq_some_iff.mp hl
        cases z
      | some l =>
        obtain ⟨rfl, _⟩ := (show x = V.str l ∧ PyData.strOk l = true from hlx)
        refine ⟨_, rfl, _, _, _, _, true, rfl, .ty "str", .base (.str l), kit_ty (by decide +kernel), true, rfl, iteF ?_⟩
        exact ⟨⟨_, rfl⟩, s2, ls ++ [l], by rw [List.take_add_one, hl, el, List.map_append]; rfl⟩
    · obtain ⟨_, s2, ls, el⟩ := h2
      rw [lx, List.take_length] at el
      exact q1 H2 ls s2 ⟨by rw [el], by rw [← c, el, List.length_map]⟩
  · rw [decide_eq_false (show ¬ V.int ((xs.length : Nat) : Int) = V.int ((t.size : Nat) : Int) from fun z => c (by have := V.int.inj z; omega))]
    refine iteT ?_
    exact mk_il O.T O.no (raise H2 s1 fun ls h => c (by rw [← h.2, Option.some.inj h.1, List.length_map]))
theorem sc_check_pattern : FnScope n_check_pattern ["tree", "pattern"] (defScope s_check_pattern) := ⟨rfl, rfl, rfl, by decide +kernel, rfl, by decide +kernel, by decide +kernel⟩
def spChkP (K : PySem.W.Frag) (C : Addr) : Sp := fun vs H Q E => ∃ (v : V) (t : Tr) (y : V) (o : Option (List (Option Str))), vs = [v, y] ∧ TrAt H v t ∧ t.size ≤ 300 ∧ PatAt K H y o ∧ (∀ H' ls, Same H H' → Strings o t.size ls → impOf (strAt ls) t = none → Q .non H') ∧ ((∀ ls, ¬ Strings o t.size ls) → EL C E H .non) ∧
  ∀ ls i, Strings o t.size ls → impOf (strAt ls) t = some i → EL C E H (natV i)
theorem ok_chkP {C fI : Addr} {fd : FuncData} (O : OwnL K mg C fI fd) (Cs : DfX P w K mg base "check_strings" 3 ["tree", "pattern"] (spChkS K C)) (Im : Df P w K mg base "impossible_node" 3 ["tree", "pattern"] spImp) (a : At K mg "check_pattern" s_check_pattern) : DfX P w K mg base "check_pattern" 4 ["tree", "pattern"] (spChkP K C) := by
  refine DfX.mk' a sc_check_pattern (fun vs H Q E h => ?_) (fun _ _ _ _ _ _ us hl => match us, hl with | [_, _], _ => rfl) (fun f cdv A outer s H vs Q E hr h => ?_)
  · obtain ⟨_, _, _, _, rfl, _⟩ := h
    rfl
  obtain ⟨v, t, y, o, rfl, ht, hz, hy, q1, q2, q3⟩ := h
  refine ⟨_, (pss_cons (ps_expr (pe_dfX Cs hr (takes_of rfl rfl rfl rfl) (pa_cons (pv 0) (pa_cons (pv 1) pa_nil))))
 (pss_cons (ps_set (i := 2) sc_check_pattern.nd rfl (.inl rfl) (pe_df Im hr (pa_cons (pv 0) (pa_cons (pv 1) pa_nil))))
 (pss_one (ps_if (pt_cmpR op_notN (pv 2) pe_non (nomark _)) (pss_one (ps_raise rfl (takes_of rfl rfl rfl rfl) (pmk_oex O.T O.i O.t (ok_ilInit O.v O.vV O.F) (hr.mono (by decide)) O.b .nil pass0 rfl O.g (pa_cons (pv 2) pa_nil)))) pss_nil)))), ?_⟩
  refine ⟨_, rfl, _, rfl, v, t, y, o, rfl, ht, hz, hy, fun H1 ls s1 hs => ?_, fun h => ?_⟩
  · obtain ⟨e, l⟩ := hs
    subst e
    obtain ⟨p, xs, rfl, ep, px⟩ := hy
    obtain ⟨ex, ok⟩ := labels_strs px
    rw [ex] at ep
    refine ⟨_, rfl, _, rfl, v, t, p, ls, rfl, ht.same s1, hz, s1 _ _ ep, ok, l, fun H2 s2 => ?_⟩
    refine ⟨_, rfl, rfl, _, rfl, ?_⟩
    rw [optN_non]
    cases ei : impOf (strAt ls) t with
    | none => exact iteF (q1 _ ls (s1.trans s2) ⟨rfl, l⟩ ei)
    | some i =>
      refine iteT ⟨_, rfl, ?_⟩
      exact mk_il O.T O.no ((q3 ls i ⟨rfl, l⟩ ei).same (s1.trans s2))
  · exact q2 h
end
end HSP
namespace HSP
open PySem PySem.Spec PyProof.Rows L2
/-! ## set(a list of ints) -/
/-- a set that was just made, as the world bears it -/
abbrev nSet (w : World) : Obj := { cls := .type "set", dict := none, data := .set #[] 0 (.fresh 0 0 (!w.params.followText "set-order")) }
abbrev nIt (l : Addr) : Obj := { cls := .type "list_iterator", data := .fields #[.ref l, .int 0 0] }
section
variable {P : Program} {w : World} {A : Around} {E : Value → Shared → Prop} {s : Shared}
/-- what the filling of the new set leaves -/
def Filled (w : World) (s : Shared) (ns : List Int) (v : Value) (s2 : Shared) : Prop :=
  v = .none ∧ ∃ (h2 : Heap) (tk c : Nat), s2 = { s with heap := h2, toks := tk } ∧ SetR w h2 s.heap.objs.size (fun j => decide (j ∈ ns)) c ∧ c ≤ ns.length ∧ ∀ b o, s.heap.get? b = some o → h2.get? b = some o
theorem setL_fill {l : Addr} {items : Array Value} {nl : Nat} {dd : Option Addr} {sl : Array (Option Value)} (ns : List Int) (hh : A.handled = none) (el : s.heap.get? l = some { cls := .type "list", dict := dd, data := .seq items nl, slots := sl }) (hi : IntsAre items.toList ns) (hb : ns.length + 1 < scanBound) :
    codeAny (model P w) A (.call (.builtin "set.__init__") ⟨[.ref s.heap.objs.size, .ref l], []⟩) (wants (Filled w s ns) E) { s with heap := s.heap.push (nSet w) } := by
  have many : items.size = ns.length := by rw [← Array.length_toList]; exact IntsAre.length hi
  have lS : l < s.heap.objs.size := Heap.lt_size el
  have sz : (s.heap.push (nSet w)).objs.size = s.heap.objs.size + 1 := Heap.size_push ..
  have gS : (s.heap.push (nSet w)).get? s.heap.objs.size = some (nSet w) := Heap.get?_push_size _ rfl
  have el1 := Heap.get?_push_of_some (nSet w) el
  have isL : (s.heap.push (nSet w)).IsList l items := ⟨_, el1, rfl, nl, rfl⟩
  refine codeAny_call_builtin F.called_set.init.plain F.entry_set_init (check_set_init_1 ⟨_, gS, rfl⟩ ?_)
  have t1 := F.sub_list_set
  have t2 := F.sub_list_frozenset
  have t3 : (Value.type "list" == Value.type "dict") = false := by decide
  unfold Builtin.«set.__init__» noKeywords Builtin.Frozenset.updateFrom
  generalize hPI : pyIter = PI
  wp_walk
  subst hPI
  refine wpAny_pyIter_list isL (wpAny_bind (wpAny_runValue ?_))
  have nlI : l ≠ (s.heap.push (nSet w)).objs.size := by rw [sz]; exact Nat.ne_of_lt (Nat.lt_succ_of_lt lS)
  have offS : s.heap.objs.size ∉ [(s.heap.push (nSet w)).objs.size, l] := fun z => by
    rw [sz] at z
    rcases List.mem_cons.mp z with z | z
    · exact absurd z (Nat.ne_of_lt (Nat.lt_succ_self _))
    · exact absurd (List.mem_singleton.mp z) (Nat.ne_of_gt lS)
  have vals : ∀ (i : Nat) (v : Value), items[i]? = some v → ∃ k t, ns[i]? = some k ∧ v = .int k t := fun i v hv => by
    have lt : i < ns.length := by rw [← many]; exact (Array.getElem?_eq_some_iff.mp hv).1
    obtain ⟨t, e⟩ := IntsAre.int_at hi i v (by rw [Array.getElem?_toList]; exact hv)
    have eg : ns.getD i 0 = ns[i] := by rw [List.getD_eq_getElem?_getD, List.getElem?_eq_getElem lt]; rfl
    exact ⟨ns[i], t, List.getElem?_eq_getElem lt, by rw [e, eg]⟩
  refine set_update_ints (Walks.list (A := A.in1.in1) (by simp [hh]) _ l nlI items).toS s.heap.objs.size offS ns many hb vals (items.size - 0) 0 _ rfl (Nat.zero_le _) ?st ?new fun s2 c hm hc hR => ?_
  case st => exact ⟨⟨_, Heap.get?_push_size _ rfl, rfl, rfl⟩, isL.push _⟩
  case new => exact ⟨0, Nat.le_refl 0, setR_new_at (w := w) (show ((s.heap.push (nSet w)).push (nIt l)).get? s.heap.objs.size = some (nSet w) from Heap.get?_push_of_some _ gS)⟩
  obtain ⟨h2, g2, d2, tk2, os2⟩ := s2
  obtain rfl : g2 = s.gens := hm.gens
  obtain rfl : d2 = s.drawn := hm.drawn
  obtain rfl : os2 = s.os := hm.os
  rw [many] at hc
  refine wpAny_pure (wpAny_pure ⟨rfl, h2, tk2, c, rfl, hR, hc, fun b o e => ?_⟩)
  have bS : b < s.heap.objs.size := Heap.lt_size e
  refine hm.heap b o (fun z => ?_) (Heap.get?_push_of_some _ (Heap.get?_push_of_some _ e))
  rcases List.mem_cons.mp z with z | z
  · exact absurd z (Nat.ne_of_lt bS)
  · have z' := List.mem_singleton.mp z
    rw [sz] at z'
    exact absurd z' (Nat.ne_of_lt (Nat.lt_succ_of_lt bS))
theorem setL_call {l : Addr} {items : Array Value} {nl : Nat} {dd : Option Addr} {sl : Array (Option Value)} (ns : List Int) {Q : Value → Shared → Prop} (hh : A.handled = none) (el : s.heap.get? l = some { cls := .type "list", dict := dd, data := .seq items nl, slots := sl }) (hi : IntsAre items.toList ns) (hb : ns.length + 1 < scanBound)
    (h : ∀ s2, Filled w s ns .none s2 → Q (.ref s.heap.objs.size) s2) : wpAny (model P w) A (call (.type "set") [.ref l]) Q E s := by
  obtain ⟨cl, tl, f1⟩ := F.called_set.mro
  have f2 := F.called_set.made
  have f3 := F.called_set.sub
  have f4 := F.called_set.notType
  have f5 := F.called_set.canCreate
  have f6 := F.typeCall_set_1 (.ref l)
  refine wpAny_call (codeAny_of_tree (show wpAny _ _ (callAny (.type "set") _) _ _ _ from wpAny_pure ⟨Code.quiet_builtin _ (by decide +kernel), codeAny_builtin F.entry_type_call ?_⟩))
  rw [Around.under_plain (weight_type_call_type "set" [.ref l] []) rfl]
  repeat any_goals (first | assumption | wp_step)
  refine codeAny_mono (code_set_led1 (.ref l) (E := E) (Q₁ := fun v s1 => v = .ref s.heap.objs.size ∧ s1 = { s with heap := s.heap.push (nSet w) }) ⟨rfl, rfl⟩) fun r s1 hr => ?_
  match r, hr with
  | .error _, hr => exact hr
  | .ok (.ret v), hr =>
    obtain ⟨e1, e2⟩ := hr
    subst e1 e2
    have f7 := F.called_set.init.lookup
    have f8 := F.called_set.init.bind (.ref s.heap.objs.size)
    have f9 : Shared.TypeIs { s with heap := s.heap.push (nSet w) } (.ref s.heap.objs.size) "set" := ⟨_, Heap.get?_push_size _ rfl, rfl⟩
    repeat any_goals (first | assumption | wp_step)
    refine codeAny_mono (setL_fill (E := E) (A := A.in1) ns (by simp [hh]) el hi hb) fun r2 s2 hr2 => ?_
    match r2, hr2 with
    | .error _, hr2 => exact hr2
    | .ok (.ret u), hr2 =>
      obtain ⟨e3, q⟩ := hr2
      subst e3
      repeat any_goals (first | assumption | wp_step)
      exact h _ ⟨rfl, q⟩
end
section
variable {X : Cx}
/-- set(a list of ints): its members, at most as many as there are items -/
def rSetInts (w : World) : List V → Hp → VK → Prop := fun vs H Q => ∃ (a : Addr) (ns : List Int), vs = [V.ref a] ∧ H a = some (.lst (ns.map V.int)) ∧ ns.length ≤ 1000 ∧
  ∀ (p : Addr) (c : Nat), H p = none → c ≤ ns.length → Q (.ref p) (upd H p (SetO w p (fun j => decide (j ∈ ns)) c))
theorem cr_setInts (hc : X.calm = true) : CallR X (.type "set") (rSetInts X.w) := by
  intro pins s σ H vs us Q I r h
  obtain ⟨a, ns, rfl, ha, hl, q⟩ := h
  rw [Vals.ref1 r]
  obtain ⟨z, its, n, rv, e⟩ : ObjOk X.prog X.w H s.heap a (.lst (ns.map V.int)) := I.hok a _ ha
  refine setL_call ns (I.ok.hd hc) e (ints_of_vals rv) (by unfold scanBound; omega) fun s2 hf => ?_
  obtain ⟨_, h2, tk, c, rfl, hR, hc2, kp⟩ := hf
  have hn : H s.heap.objs.size = none := I.hok.fresh (Nat.le_refl _)
  exact ⟨.ref _, _, I.laid kp (Nat.le_refl _) (setO_new hR), rfl, q _ c hn hc2⟩
end
end HSP
namespace HSP
open PySem PySem.Spec PyProof.Rows L2
/-! ## what the law draws from: a list of a number, a count, a mark -/
def DrAt (H : Hp) (p : Addr) (k : Nat) : Prop := ∃ (n : Int) (j : Nat) (b : Bool), H p = some (.lst [.int n, .int (j : Int), .bl b]) ∧ j ≤ k
theorem DrAt.mono {H : Hp} {p : Addr} {k k' : Nat} (d : DrAt H p k) (h : k ≤ k') : DrAt H p k' := by
  obtain ⟨n, j, b, e, l⟩ := d
  exact ⟨n, j, b, e, Nat.le_trans l h⟩
theorem DrAt.same {H H' : Hp} {p : Addr} {k : Nat} (d : DrAt H p k) (s : Same H H') : DrAt H' p k := by
  obtain ⟨n, j, b, e, l⟩ := d
  exact ⟨n, j, b, s _ _ e, l⟩
theorem DrAt.ne {H : Hp} {p q : Addr} {k : Nat} (d : DrAt H p k) (h : H q = none) : q ≠ p := by
  obtain ⟨n, j, b, e, l⟩ := d
  exact (ne_of_none e h).symm
theorem DrAt.tree {H H' : Hp} {p : Addr} {k : Nat} {v : V} {t : Tr} (d : DrAt H p k) (s : Keep p H H') (h : TrAt H v t) : TrAt H' v t := by
  obtain ⟨n, j, b, e, l⟩ := d
  exact s.tree e h
/-- any of the items, whichever place is read -/
theorem at_any {xs : List V} {C : V → Prop} (h : ∀ x, x ∈ xs → C x) {i : Int} (h0 : 0 ≤ i) (h1 : i < (xs.length : Int)) : ∃ v, atI xs i = some v ∧ C v := by
  have hk : i.toNat < xs.length := by omega
  have ei : i = ((i.toNat : Nat) : Int) := by omega
  exact ⟨xs[i.toNat], at_of ei (List.getElem?_eq_getElem hk), h _ (List.getElem_mem hk)⟩
theorem small_mod {a m : Int} (h0 : 0 < m) (h1 : m < 2 ^ 64) : -(2 ^ 64) < a % m ∧ a % m < 2 ^ 64 := by
  have q1 := Int.emod_nonneg a (show m ≠ 0 by omega)
  have q2 := Int.emod_lt_of_pos a h0
  constructor <;> omega
section
variable {P : Program} {w : World} {K : PySem.W.Frag} {mg : Str → Option Value} {base : Heap}
/-! ### _law_draws -/
theorem sc_law_draws : FnScope n_law_draws ["cell"] (defScope s_law_draws) := ⟨rfl, rfl, rfl, by decide +kernel, rfl, by decide +kernel, by decide +kernel⟩
def spDraws : Sp := fun vs H Q _ => ∃ c : Int, vs = [.int c] ∧ ∀ (H' : Hp) (p : Addr), Same H H' → H p = none → DrAt H' p 0 → Q (.ref p) H'
theorem ok_draws (B : Bl mg) (a : At K mg "_law_draws" s_law_draws) : Df P w K mg base "_law_draws" 1 ["cell"] spDraws := by
  refine Df.mk' a sc_law_draws (fun vs H Q E h => ?_) (fun _ _ _ _ _ _ us hl => match us, hl with | [_], _ => rfl) (fun f cdv A outer s H vs Q E hr h => ?_)
  · obtain ⟨c, rfl, _⟩ := h
    rfl
  obtain ⟨c, rfl, q⟩ := h
  refine ⟨_, (pss_one (ps_ret (pe_lst (pa_cons (pe_op op_mod (pe_callTy call_int1 (by rfl) B.int (by decide +kernel) (pa_cons (pv 0) pa_nil)) (pe_op op_powW (pe_op op_powW (pe_op op_powW pe_int pe_int) pe_int) pe_int)) (pa_cons pe_int (pa_cons (pe_cmpR op_ge (pv 0) (pe_op op_powW pe_int pe_int) (nomark _)) pa_nil)))))), ?_⟩
  refine ⟨_, rfl, .inl ⟨_, rfl, _, _, rfl, rfl, ⟨by decide, by decide +kernel⟩, _, _, rfl, rfl, ⟨by decide, by decide +kernel⟩, _, _, rfl, rfl, ⟨by decide, by decide +kernel⟩, _, _, rfl, rfl, ?_, ?_⟩⟩
  · exact Int.pow_pos (Int.pow_pos (Int.pow_pos (by decide)))
  refine ⟨_, rfl, _, _, rfl, rfl, ⟨by decide, by decide +kernel⟩, _, _, rfl, rfl, (by show 3 ≤ sizeLine; decide), fun p hp => ?_⟩
  exact q _ p (Same.new hp) hp ⟨_, 0, _, upd_same, Nat.le_refl _⟩
/-! ### _law_next -/
theorem sc_law_next : FnScope n_law_next ["draws"] (defScope s_law_next) := ⟨rfl, rfl, rfl, by decide +kernel, rfl, by decide +kernel, by decide +kernel⟩
def spNext : Sp := fun vs H Q _ => ∃ (p : Addr) (k : Nat), vs = [.ref p] ∧ DrAt H p k ∧ k ≤ 100000 ∧ ∀ (H' : Hp) (r : Int), Keep p H H' → DrAt H' p (k + 1) → 0 ≤ r → r < 2147483648 → Q (.int r) H'
theorem ok_next (B : Bl mg) (a : At K mg "_law_next" s_law_next) : Df P w K mg base "_law_next" 1 ["draws"] spNext := by
  refine Df.mk' a sc_law_next (fun vs H Q E h => ?_) (fun _ _ _ _ _ _ us hl => match us, hl with | [_], _ => rfl) (fun f cdv A outer s H vs Q E hr h => ?_)
  · obtain ⟨p, k, rfl, _⟩ := h
    rfl
  obtain ⟨p, k, rfl, ⟨n, j, b, e, hj⟩, hk, q⟩ := h
  refine ⟨_, (pss_cons (ps_asg (pe_op op_add (pe_ix ix_list (pv 0) pe_int (fun _ _ => rfl)) pe_int) (pg_sub (pv 0) pe_int set_list))
 (pss_cons (ps_set (i := 1) sc_law_next.nd rfl (.inl rfl) (pe_ix ix_list (pv 0) pe_int (fun _ _ => rfl)))
 (pss_cons (ps_if (pt_val (pe_ix ix_list (pv 0) pe_int (fun _ _ => rfl))) (pss_cons (ps_set (i := 2) sc_law_next.nd rfl (.inl rfl) (pe_op op_mod (pe_callTy call_int1 (by rfl) B.int (by decide +kernel) (pa_cons (pe_ix ix_list (pv 0) pe_int (fun _ _ => rfl)) pa_nil)) (pe_op op_powW pe_int pe_int)))
 (pss_cons (ps_asg (pe_op op_fdiv (pe_ix ix_list (pv 0) pe_int (fun _ _ => rfl)) (pe_op op_powW pe_int pe_int)) (pg_sub (pv 0) pe_int set_list))
 (pss_one (ps_ret (pv 2))))) pss_nil)
 (pss_cons (ps_set (i := 2) sc_law_next.nd rfl (.inl rfl) (pe_op op_mod (pe_callTy call_int1 (by rfl) B.int (by decide +kernel) (pa_cons (pe_op op_mul (pe_op op_add (pe_op op_add (pe_op op_mod (pe_callTy call_int1 (by rfl) B.int (by decide +kernel) (pa_cons (pe_ix ix_list (pv 0) pe_int (fun _ _ => rfl)) pa_nil)) pe_int) (pe_op op_mul (pe_op op_mul (pv 1) (pv 1)) pe_int)) (pv 1)) pe_int) pa_nil)) pe_int))
 (pss_cons (ps_set (i := 2) sc_law_next.nd rfl (.inl rfl) (pe_op op_mod (pe_callTy call_int1 (by rfl) B.int (by decide +kernel) (pa_cons (pe_op op_mul (pv 2) (pv 2)) pa_nil)) pe_int))
 (pss_one (ps_ret (pe_op op_fdiv (pe_op op_mod (pe_callTy call_int1 (by rfl) B.int (by decide +kernel) (pa_cons (pe_op op_mul (pv 2) (pe_op op_add (pv 2) pe_int)) pa_nil)) pe_int) pe_int)))))))), ?_⟩
  have e1 : (upd H p (.lst ([V.int n, .int (j : Int), .bl b].set 1 (.int ((j : Int) + 1))))) p = some (.lst [.int n, .int ((j + 1 : Nat) : Int), .bl b]) := by
    rw [upd_same]
    rfl
  refine ⟨_, rfl, p, _, _, _, rfl, rfl, .of e, atI_nat (j := 1) rfl, _, _, rfl, rfl, _, rfl, p, _, _, 1, rfl, rfl, e, rfl, ?_⟩
  have kp1 : Keep p H (upd H p (.lst ([V.int n, .int (j : Int), .bl b].set 1 (.int ((j : Int) + 1))))) := Keep.at
  generalize upd H p (.lst ([V.int n, .int (j : Int), .bl b].set 1 (.int ((j : Int) + 1)))) = H1 at e1 kp1 ⊢
  refine ⟨_, rfl, p, _, _, _, rfl, rfl, .of e1, atI_nat (j := 1) rfl, ?_⟩
  refine ⟨_, rfl, p, _, _, _, rfl, rfl, .of e1, atI_nat (j := 2) rfl, b, rfl, ?_⟩
  refine ite2 (fun c => ?_) (fun c => ?_)
  · refine ⟨_, rfl, p, _, _, _, rfl, rfl, .of e1, atI_nat (j := 0) rfl, .inl ⟨_, rfl, _, _, rfl, rfl, ⟨by decide, by decide +kernel⟩, _, _, rfl, rfl, Int.pow_pos (by decide), ?_⟩⟩
    refine ⟨_, rfl, p, _, _, _, rfl, rfl, .of e1, atI_nat (j := 0) rfl, _, _, rfl, rfl, ⟨by decide, by decide +kernel⟩, _, _, rfl, rfl, ⟨by decide, by decide⟩, _, rfl, p, _, _, 0, rfl, rfl, e1, rfl, ?_⟩
    refine ⟨_, rfl, q _ _ (kp1.trans Keep.at) ⟨_, j + 1, b, upd_same, by omega⟩ (Int.emod_nonneg _ (by decide)) ?_⟩
    have h6 : n % (1000000 : Int) < 1000000 := Int.emod_lt_of_pos n (by decide)
    exact Int.lt_trans h6 (by decide)
  · have k1 : -(2 ^ 64) < ((j + 1 : Nat) : Int) := by omega
    have k2 : ((j + 1 : Nat) : Int) < 2 ^ 64 := by omega
    refine ⟨_, rfl, p, _, _, _, rfl, rfl, .of e1, atI_nat (j := 0) rfl, .inl ⟨_, rfl, _, _, rfl, rfl, (by show (0 : Int) < 1000003; decide), _, rfl, _, rfl, _, _, rfl, rfl, .inl ⟨k1, k2⟩, _, _, rfl, rfl, .inr ⟨by decide, by decide⟩, _, _, rfl, rfl, _, rfl, _, _, rfl, rfl, _, _, rfl, rfl, .inr ⟨by decide, by decide⟩,
      .inl ⟨_, rfl, _, _, rfl, rfl, (by show (0 : Int) < 2147483629; decide), ?_⟩⟩⟩
    refine ⟨_, rfl, _, rfl, _, _, rfl, rfl, .inl (small_mod (by decide) (by decide)), .inl ⟨_, rfl, _, _, rfl, rfl, (by show (0 : Int) < 2147483587; decide), ?_⟩⟩
    refine ⟨_, rfl, _, rfl, _, _, rfl, rfl, _, _, rfl, rfl, .inl (small_mod (by decide) (by decide)), .inl ⟨_, rfl, _, _, rfl, rfl, (by show (0 : Int) < 2147483579; decide), _, _, rfl, rfl, ⟨by decide, by decide⟩, ?_⟩⟩
    refine q _ _ kp1 ⟨n, j + 1, b, e1, by omega⟩ (Int.ediv_nonneg (Int.emod_nonneg _ (by decide)) (by decide)) ?_
    exact Int.lt_of_le_of_lt (Int.ediv_le_self _ (Int.emod_nonneg _ (by decide))) (Int.lt_trans (Int.emod_lt_of_pos _ (by decide)) (by decide))
end
end HSP
namespace HSP
open PySem PySem.Spec PyProof.Rows L2
section
variable {P : Program} {w : World} {K : PySem.W.Frag} {mg : Str → Option Value} {base : Heap}
/-- nothing can be asked: no room is needed -/
theorem Df.none' {x : Str} {st : Stmt} {ps : List Str} {sp : Sp} (a : At K mg x st) (no : ∀ vs H Q E, ¬ sp vs H Q E)
    (hb : ∀ (kV doc pm : Value) (an : Option Addr) (cdv ct : Value) (us : List Value), us.length = ps.length → bindArgs (PySem.W.fnOf x x (defArgs st) (defBody st) (defScope st) .none kV doc pm an cdv ct) ⟨us, []⟩ = pure (ps.zip us)) (k : Nat) : Df P w K mg base x k ps sp := by
  obtain ⟨f, fd, hm, F⟩ := a
  exact ⟨f, fd, hm, F.kp, F.binds hb, ⟨fun vs H Q E h => absurd h (no vs H Q E), fun A outer s H args us vs Q E _ _ _ _ h => absurd h (no vs H Q E)⟩⟩
def spSize (n : Nat) : Sp := fun vs H Q _ => ∃ (v : V) (t : Tr), vs = [v] ∧ TrAt H v t ∧ t.ht < n ∧ Q (.int t.size) H
end
end HSP
namespace HSP
open PySem PySem.Spec PyProof.Rows L2
/-! ### slices -/
theorem cut_from (xs : List V) (k : Nat) : cutV xs (some (k : Int)) none = xs.drop k := by
  unfold cutV
  rw [HT.sIx_nat, HT.sIx_none]
  by_cases h : k ≤ xs.length
  · rw [Nat.min_eq_left h]
    exact List.take_of_length_le (by rw [List.length_drop]; exact Nat.le_refl _)
  · rw [Nat.min_eq_right (by omega), Nat.sub_self, List.take_zero, List.drop_eq_nil_of_le (by omega)]
theorem cut_to (xs : List V) (k : Nat) : cutV xs none (some (k : Int)) = xs.take k := by
  unfold cutV
  rw [HT.sIx_nat, HT.sIx_none, List.drop_zero, Nat.sub_zero]
  by_cases h : k ≤ xs.length
  · rw [Nat.min_eq_left h]
  · rw [Nat.min_eq_right (by omega), List.take_of_length_le (by omega), List.take_of_length_le (by omega)]
theorem cut_init (xs : List V) (x : V) : cutV (xs ++ [x]) none (some (-1)) = xs := by
  unfold cutV
  have e1 : HT.sIx (xs ++ [x]).length (xs ++ [x]).length (some (-1)) = xs.length := by
    show (if (-1 : Int) < 0 then ((-1 : Int) + ((xs ++ [x]).length : Int)).toNat else min (-1 : Int).toNat (xs ++ [x]).length) = _
    rw [if_pos (by decide), List.length_append, List.length_singleton]
    omega
  have e2 : HT.sIx (xs ++ [x]).length 0 none = 0 := rfl
  rw [e1, e2, List.drop_zero, Nat.sub_zero]
  exact List.take_left
/-- len(..) within a comprehension -/
def rLenK (K : PySem.W.Frag) : List V → Hp → VK → Prop := fun xs H Q => ∃ p ys, xs = [V.ref p] ∧ (SqL K H p ys ∨ SqT K H p ys) ∧ Q (.int ((ys.length : Nat) : Int)) H
end HSP
namespace HSP
open PySem PySem.Spec PyProof.Rows L2
section
variable {P : Program} {w : World} {K : PySem.W.Frag} {mg : Str → Option Value} {base : Heap}
/-! ### _law_way -/
theorem sc_law_way : FnScope n_law_way p_law_way (defScope s_law_way) := ⟨rfl, rfl, rfl, by decide +kernel, rfl, by decide +kernel, by decide +kernel⟩
def spWay (n : Nat) : Sp := fun vs H Q _ => ∃ (v : V) (t : Tr) (i : Nat), vs = [v, natV i] ∧ TrAt H v t ∧ t.ht < n ∧ i < t.size ∧ t.size ≤ 300 ∧ ∀ (H' : Hp) (q : Addr), Same H H' → H q = none → PathAt H' q (pOf t 0 i) → Q (.ref q) H'
theorem ok_way {n : Nat} (B : Bl mg) (Z : Df P w K mg base "_law_size" n n_law_size (spSize n)) (a : At K mg "_law_way" s_law_way) : Df P w K mg base "_law_way" (n + 1) p_law_way (spWay n) := by
  refine Df.mk' a sc_law_way (fun vs H Q E h => ?_) (fun _ _ _ _ _ _ us hl => match us, hl with | [_, _], _ => rfl) (fun f cdv A outer s H vs Q E hr h => ?_)
  · obtain ⟨v, t, i, rfl, _⟩ := h
    rfl
  obtain ⟨v, t, i, rfl, ht, hd, hi, hz, q⟩ := h
  refine ⟨_, (pss_cons (ps_set (i := 2) sc_law_way.nd rfl (.inl rfl) (pe_lst pa_nil))
 (pss_cons (ps_set (i := 3) sc_law_way.nd rfl (.inl rfl) pe_int)
 (pss_cons (ps_while PassesOwn.never (pt_cmpR op_ne (pe_op op_add (pv 3) (pe_df Z hr (pa_cons (pe_ix ix_tup (pv 0) pe_int (fun _ _ => rfl)) pa_nil))) (pv 1) (nomark _)) (pss_cons (ps_set (i := 4) sc_law_way.nd rfl (.inl rfl) (pe_op op_add (pv 3) (pe_df Z hr (pa_cons (pe_ix ix_tup (pv 0) pe_int (fun _ _ => rfl)) pa_nil))))
 (pss_cons (ps_expr (pe_bm PySem.F.plainAttrs_list PySem.F.slot_list_append PySem.F.type_list_append mt_append (pv 2) (pa_cons (pe_tup (pa_cons (pv 4) (pa_cons (pe_ix ix_list (pe_lst (pa_cons pe_str (pa_cons pe_str pa_nil))) (pe_callTy call_int1 (by rfl) B.int (by decide +kernel) (pa_cons (pe_cmpR op_gt (pv 1) (pv 4) (nomark _)) pa_nil)) (fun _ _ => rfl)) pa_nil))) pa_nil)))
 (pss_cons (ps_set (i := 3) sc_law_way.nd rfl (.inl rfl) (pe_ix ix_list (pe_lst (pa_cons (pv 3) (pa_cons (pe_op op_add (pv 4) pe_int) pa_nil))) (pe_callTy call_int1 (by rfl) B.int (by decide +kernel) (pa_cons (pe_cmpR op_gt (pv 1) (pv 4) (nomark _)) pa_nil)) (fun _ _ => rfl)))
 (pss_one (ps_set (i := 0) sc_law_way.nd rfl (.inl rfl) (pe_ix ix_tup (pv 0) (pe_callTy call_int1 (by rfl) B.int (by decide +kernel) (pa_cons (pe_cmpR op_gt (pv 1) (pv 4) (nomark _)) pa_nil)) (fun _ _ => rfl))))))))
 (pss_one (ps_ret (pv 2)))))), ?_⟩
  have two : 2 ≤ sizeLine := by show 2 ≤ sizeLine; decide
  refine ⟨Nat.zero_le _, fun L hL => ?_⟩
  have s0 : Same H (upd H L (.lst [])) := Same.new hL
  refine ⟨fun m σ H1 => ∃ (x : V) (u : Tr) (f : Nat) (pre : List (Nat × Bool)) (y : Option V), σ = [some x, some (natV i), some (.ref L), some (.int (f : Int)), y] ∧ Same H H1 ∧ PathAt H1 L pre ∧ TrAt H x u ∧ u.ht < n ∧ f ≤ i ∧ i < f + u.size ∧ pre.length + u.size ≤ t.size ∧ pOf t 0 i = pre ++ pOf u f i ∧ m = u.size,
    ⟨_, v, t, 0, [], none, rfl, s0, ⟨[], upd_same, .nil⟩, ht, hd, Nat.zero_le _, by omega, by show 0 + _ ≤ _; omega, rfl, rfl⟩, fun m σ H1 hW => ?_⟩
  obtain ⟨x, u, f, pre, y, rfl, sm, pa, hx, hux, h1, h2, hl, hP, rfl⟩ := hW
  cases hx with
  | nil =>
    have : Tr.nil.size = 0 := rfl
    omega
  | @nod b x1 x2 t1 t2 eb g1 g2 =>
    have hsz : (Tr.nod t1 t2).size = t1.size + 1 + t2.size := rfl
    have hht : (Tr.nod t1 t2).ht = max t1.ht t2.ht + 1 := rfl
    rw [hsz] at h2 hl
    rw [hht] at hux
    rw [pOf_nod] at hP
    refine ⟨_, rfl, _, rfl, b, _, _, x1, rfl, rfl, .of (sm _ _ eb), atI_nat (j := 0) rfl, x1, t1, rfl, g1.same sm, by omega, _, _, rfl, rfl, ?_⟩
    refine ⟨_, rfl, rfl, _, rfl, ?_⟩
    by_cases c : i = f + t1.size
    · rw [if_pos c, List.append_nil] at hP
      have e : (!decide (V.int ((f : Int) + (t1.size : Int)) = natV i)) = false := by
        rw [decide_eq_true (show V.int ((f : Int) + (t1.size : Int)) = natV i from congrArg V.int (by omega))]
        rfl
      refine ite2 (fun z => absurd (z.symm.trans e) (by decide)) (fun _ => ?_)
      exact ⟨_, rfl, q _ L sm hL (by rw [hP]; exact pa)⟩
    · rw [if_neg c] at hP
      have e : (!decide (V.int ((f : Int) + (t1.size : Int)) = natV i)) = true := by
        rw [decide_eq_false (show ¬ V.int ((f : Int) + (t1.size : Int)) = natV i from fun z => c (by have := V.int.inj z; omega))]
        rfl
      refine ite2 (fun _ => ?_) (fun z => (z e).elim)
      refine ⟨fun σ' H' => ∃ m', m' < (Tr.nod t1 t2).size ∧ ∃ (x : V) (u : Tr) (f : Nat) (pre : List (Nat × Bool)) (y : Option V), σ' = [some x, some (natV i), some (.ref L), some (.int (f : Int)), y] ∧ Same H H' ∧ PathAt H' L pre ∧ TrAt H x u ∧ u.ht < n ∧ f ≤ i ∧ i < f + u.size ∧ pre.length + u.size ≤ t.size ∧ pOf t 0 i = pre ++ pOf u f i ∧ m' = u.size,
        fun σ' H' hN => hN, ?_⟩
      refine ⟨_, rfl, _, rfl, b, _, _, x1, rfl, rfl, .of (sm _ _ eb), atI_nat (j := 0) rfl, x1, t1, rfl, g1.same sm, by omega, _, _, rfl, rfl, ?_⟩
      obtain ⟨tups, eL, pT⟩ := pa
      by_cases d : i < f + t1.size
      · skip
        have hk : decide ((f : Int) + (t1.size : Int) < (i : Int)) = false := decide_eq_false (by omega)
        have hat : ∀ u1 u2 : V, atI [u1, u2] (if decide ((f : Int) + (t1.size : Int) < (i : Int)) = true then (1 : Int) else 0) = some u1 := fun u1 u2 => by rw [hk]; rfl
        refine ⟨_, rfl, .inl ⟨rfl, _, .of eL⟩, _, rfl, two, fun Y hY => ?_⟩
        have sY := Same.new (o := .lst [V.str "left", V.str "right"]) hY
        refine ⟨_, rfl, _, rfl, _, _, rfl, rfl, .inr ⟨decide ((f : Int) + (t1.size : Int) < (i : Int)), rfl, Y, _, _, _, rfl, rfl, .of upd_same, hat _ _, two, fun T hT => ?_⟩⟩
        have sT := Same.new (o := .tup [V.int ((f : Int) + (t1.size : Int)), sideV false]) hT
        have sYT := sY.trans sT
        refine ⟨L, _, _, rfl, rfl, sYT _ _ eL, ?_, ?_⟩
        · rw [List.length_map, Paired.length pT]
          exact small1000 (by omega)
        have sm3 : Same H (upd (upd (upd H1 Y (.lst [V.str "left", V.str "right"])) T (.tup [V.int ((f : Int) + (t1.size : Int)), sideV false])) L (.lst (tups.map V.ref ++ [V.ref T]))) := fun c o e => by
          rw [upd_ne (ne_of_none e hL)]
          exact sYT _ _ (sm _ _ e)
        have nTL : T ≠ L := (ne_of_none (sY _ _ eL) hT).symm
        have pa3 : PathAt (upd (upd (upd H1 Y (.lst [V.str "left", V.str "right"])) T (.tup [V.int ((f : Int) + (t1.size : Int)), sideV false])) L (.lst (tups.map V.ref ++ [V.ref T]))) L (pre ++ [(f + t1.size, false)]) := by
          refine ⟨tups ++ [T], by rw [upd_same, List.map_append]; rfl, Paired.app (Paired.mapP pT fun a z h => ?_) (.cons ?_ .nil)⟩
          · rw [upd_ne (tup_ne h eL)]
            exact sYT _ _ h
          · rw [upd_ne nTL, upd_same, show V.int ((f : Int) + (t1.size : Int)) = natV (f + t1.size) from congrArg V.int (by omega)]
        have eb3 := sm3 _ _ eb
        refine ⟨_, rfl, _, rfl, _, _, rfl, rfl, two, fun M hM => ?_⟩
        have sM := Same.new (o := .lst [V.int (f : Int), V.int ((f : Int) + (t1.size : Int) + 1)]) hM
        refine ⟨_, rfl, _, rfl, _, _, rfl, rfl, .inr ⟨decide ((f : Int) + (t1.size : Int) < (i : Int)), rfl, M, _, _, _, rfl, rfl, .of upd_same, hat _ _, ?_⟩⟩
        refine ⟨_, rfl, _, rfl, _, rfl, _, _, rfl, rfl, .inr ⟨decide ((f : Int) + (t1.size : Int) < (i : Int)), rfl, b, _, _, _, rfl, rfl, .of (sM _ _ eb3), hat _ _, ?_⟩⟩
        rw [if_pos d] at hP
        exact ⟨t1.size, by rw [hsz]; omega, x1, t1, f, pre ++ [(f + t1.size, false)], _, rfl, sm3.trans sM, pa3.same sM, g1, by omega, h1, d, by rw [List.length_append, List.length_singleton]; omega, by rw [hP, List.append_assoc]; rfl, rfl⟩
      · skip
        have hk : decide ((f : Int) + (t1.size : Int) < (i : Int)) = true := decide_eq_true (by omega)
        have hat : ∀ u1 u2 : V, atI [u1, u2] (if decide ((f : Int) + (t1.size : Int) < (i : Int)) = true then (1 : Int) else 0) = some u2 := fun u1 u2 => by rw [hk]; rfl
        refine ⟨_, rfl, .inl ⟨rfl, _, .of eL⟩, _, rfl, two, fun Y hY => ?_⟩
        have sY := Same.new (o := .lst [V.str "left", V.str "right"]) hY
        refine ⟨_, rfl, _, rfl, _, _, rfl, rfl, .inr ⟨decide ((f : Int) + (t1.size : Int) < (i : Int)), rfl, Y, _, _, _, rfl, rfl, .of upd_same, hat _ _, two, fun T hT => ?_⟩⟩
        have sT := Same.new (o := .tup [V.int ((f : Int) + (t1.size : Int)), sideV true]) hT
        have sYT := sY.trans sT
        refine ⟨L, _, _, rfl, rfl, sYT _ _ eL, ?_, ?_⟩
        · rw [List.length_map, Paired.length pT]
          exact small1000 (by omega)
        have sm3 : Same H (upd (upd (upd H1 Y (.lst [V.str "left", V.str "right"])) T (.tup [V.int ((f : Int) + (t1.size : Int)), sideV true])) L (.lst (tups.map V.ref ++ [V.ref T]))) := fun c o e => by
          rw [upd_ne (ne_of_none e hL)]
          exact sYT _ _ (sm _ _ e)
        have nTL : T ≠ L := (ne_of_none (sY _ _ eL) hT).symm
        have pa3 : PathAt (upd (upd (upd H1 Y (.lst [V.str "left", V.str "right"])) T (.tup [V.int ((f : Int) + (t1.size : Int)), sideV true])) L (.lst (tups.map V.ref ++ [V.ref T]))) L (pre ++ [(f + t1.size, true)]) := by
          refine ⟨tups ++ [T], by rw [upd_same, List.map_append]; rfl, Paired.app (Paired.mapP pT fun a z h => ?_) (.cons ?_ .nil)⟩
          · rw [upd_ne (tup_ne h eL)]
            exact sYT _ _ h
          · rw [upd_ne nTL, upd_same, show V.int ((f : Int) + (t1.size : Int)) = natV (f + t1.size) from congrArg V.int (by omega)]
        have eb3 := sm3 _ _ eb
        refine ⟨_, rfl, _, rfl, _, _, rfl, rfl, two, fun M hM => ?_⟩
        have sM := Same.new (o := .lst [V.int (f : Int), V.int ((f : Int) + (t1.size : Int) + 1)]) hM
        refine ⟨_, rfl, _, rfl, _, _, rfl, rfl, .inr ⟨decide ((f : Int) + (t1.size : Int) < (i : Int)), rfl, M, _, _, _, rfl, rfl, .of upd_same, hat _ _, ?_⟩⟩
        refine ⟨_, rfl, _, rfl, _, rfl, _, _, rfl, rfl, .inr ⟨decide ((f : Int) + (t1.size : Int) < (i : Int)), rfl, b, _, _, _, rfl, rfl, .of (sM _ _ eb3), hat _ _, ?_⟩⟩
        rw [if_neg d] at hP
        refine ⟨t2.size, by rw [hsz]; omega, x2, t2, f + t1.size + 1, pre ++ [(f + t1.size, true)], some (.int ((f : Int) + (t1.size : Int))), ?_, sm3.trans sM, pa3.same sM, g2, by omega, by omega, by omega, by rw [List.length_append, List.length_singleton]; omega, by rw [hP, List.append_assoc]; rfl, rfl⟩
        exact congrArg (fun q => [some x2, some (natV i), some (V.ref L), some (V.int q), some (V.int ((f : Int) + (t1.size : Int)))]) (by omega : (f : Int) + (t1.size : Int) + 1 = ((f + t1.size + 1 : Nat) : Int))
end
end HSP
namespace HSP
open PySem PySem.Spec PyProof.Rows L2
/-! ## xs == [], xs != [], whatever xs holds -/
section
variable {X : Cx}
def rNeN (K : PySem.W.Frag) : R2 := fun x y H Q => ∃ (a b : Addr) (xs : List V), x = .ref a ∧ y = .ref b ∧ SqL K H a xs ∧ SqL K H b [] ∧ Q (.bl (!xs.isEmpty)) H
def rEqN (K : PySem.W.Frag) : R2 := fun x y H Q => ∃ (a b : Addr) (xs : List V), x = .ref a ∧ y = .ref b ∧ SqL K H a xs ∧ SqL K H b [] ∧ Q (.bl xs.isEmpty) H
theorem op_neN (hu : X.A.units < cLine) : OpR X (compareOp .NotEq) (rNeN X.K) := by
  intro pins s σ H x y v u Q I rx ry h
  obtain ⟨a, b, xs, rfl, rfl, hx, hy, q⟩ := h
  cases rx
  cases ry
  obtain ⟨i1, r1, p1, _⟩ := I.list hx
  obtain ⟨i2, r2, p2, _⟩ := I.list hy
  cases r2
  cases r1 with
  | nil => exact PySem.SeqAt.RcNeAt.lists (e := fun _ => true) p1.isList p2.isList rfl hu (fun j h => absurd h (by simp)) X.prog X.w _ _ ⟨.bl false, H, I, rfl, q⟩
  | cons _ _ => exact PySem.SeqAt.RcNeAt.lists_lengths p1.isList p2.isList (by simp) hu X.prog X.w _ _ ⟨.bl true, H, I, rfl, q⟩
theorem op_eqN (hu : X.A.units < cLine) : OpR X (compareOp .Eq) (rEqN X.K) := by
  intro pins s σ H x y v u Q I rx ry h
  obtain ⟨a, b, xs, rfl, rfl, hx, hy, q⟩ := h
  cases rx
  cases ry
  obtain ⟨i1, r1, p1, _⟩ := I.list hx
  obtain ⟨i2, r2, p2, _⟩ := I.list hy
  cases r2
  cases r1 with
  | nil => exact PySem.SeqAt.RcAt.lists (e := fun _ => true) p1.isList p2.isList rfl hu (fun j h => absurd h (by simp)) X.prog X.w _ _ ⟨.bl true, H, I, rfl, q⟩
  | cons _ _ => exact PySem.SeqAt.RcAt.lists_lengths p1.isList p2.isList (by simp) hu X.prog X.w _ _ ⟨.bl false, H, I, rfl, q⟩
end
end HSP
namespace HSP
open PySem PySem.Spec PyProof.Rows L2
theorem room65p {k : Nat} {A : Around} (r : Room k A) : A.units + 65 < cLine := by
  have := r.un
  omega
/-! ### the labels that may stand at a node -/
def mayOf (lab : Nat → Str) (p : List (Nat × Bool)) : List Str :=
  if (killerOf lab p).isSome = true then [("dead" : Str)] else ("found" : Str) :: ((if (boundOf lab true p none).isSome = true then [("low" : Str)] else []) ++ (if (boundOf lab false p none).isSome = true then [("high" : Str)] else []))
theorem poss_may (lab : Nat → Str) (p : List (Nat × Bool)) (i : Nat) : possAt lab p i = decide (lab i ∈ mayOf lab p) := by
  unfold possAt mayOf
  have d1 : (("low" : String) : Str) ≠ ("high" : Str) := by decide +kernel
  have d2 : (("low" : String) : Str) ≠ ("found" : Str) := by decide +kernel
  have d3 : (("high" : String) : Str) ≠ ("found" : Str) := by decide +kernel
  by_cases c : (killerOf lab p).isSome = true
  · rw [if_pos c, if_pos c]
    simp
  · rw [if_neg c, if_neg c]
    by_cases c1 : lab i = ("low" : Str)
    · rw [if_pos c1, c1]
      cases (boundOf lab true p none).isSome <;> cases (boundOf lab false p none).isSome <;> simp [d1, d2]
    · rw [if_neg c1]
      by_cases c2 : lab i = ("high" : Str)
      · rw [if_pos c2, c2]
        cases (boundOf lab true p none).isSome <;> cases (boundOf lab false p none).isSome <;> simp [d1.symm, d3]
      · rw [if_neg c2]
        cases (boundOf lab true p none).isSome <;> cases (boundOf lab false p none).isSome <;> simp [c1, c2]
theorem kill_any' {lab : Nat → Str} : ∀ p : List (Nat × Bool), ((p.filter fun z => kills (lab z.1) z.2).isEmpty = true ↔ killerOf lab p = none)
  | [] => ⟨fun _ => rfl, fun _ => rfl⟩
  | (n, b) :: r => by
    have ih := kill_any' (lab := lab) r
    show _ ↔ (if kills (lab n) b = true then some n else killerOf lab r) = none
    rw [List.filter_cons]
    by_cases c : kills (lab n) b = true
    · rw [if_pos c, if_pos c]
      exact ⟨fun h => (by cases h), fun h => (by cases h)⟩
    · rw [if_neg c, if_neg c]
      exact ih
theorem bound_any {lab : Nat → Str} {c : Bool} : ∀ (p : List (Nat × Bool)) (z : Option Nat), (boundOf lab c p z).isSome = (z.isSome || !(p.filter fun x => decide (lab x.1 = ("found" : Str)) && decide (x.2 = c)).isEmpty)
  | [], z => by show z.isSome = _; simp
  | (n, b) :: r, z => by
    have ih := bound_any (lab := lab) (c := c) r
    show (boundOf lab c r (if b = c ∧ lab n = ("found" : Str) then some n else z)).isSome = _
    rw [ih, List.filter_cons]
    by_cases d : b = c ∧ lab n = ("found" : Str)
    · rw [if_pos d]
      simp [d.1, d.2]
    · rw [if_neg d]
      have e : (decide (lab n = ("found" : Str)) && decide (b = c)) = false := by
        by_cases d1 : lab n = ("found" : Str)
        · rw [decide_eq_true d1, decide_eq_false (fun z => d ⟨z, d1⟩)]
          rfl
        · rw [decide_eq_false d1]
          rfl
      rw [e]
      rfl
theorem pair_eqv (l l' : Str) (b b' : Bool) : PyData.eqv (pairD l b) (pairD l' b') = (decide (l = l') && decide (b = b')) := by
  have h : ∀ b b' : Bool, (sideS b == sideS b') = decide (b = b') := fun b b' => by cases b <;> cases b' <;> decide +kernel
  unfold pairD
  simp only [PyData.eqv, PyData.eqvAll, Bool.and_true, h]
  by_cases c : l = l'
  · rw [decide_eq_true c, c, beq_self_eq_true]
  · rw [decide_eq_false c, beq_eq_false_iff_ne.mpr c]
section
variable {P : Program} {w : World} {K : PySem.W.Frag} {mg : Str → Option Value} {base : Heap}
theorem sc_law_may : FnScope n_law_may ["a_tree", "a_pattern", "node"] (defScope s_law_may) := ⟨rfl, rfl, rfl, by decide +kernel, rfl, by decide +kernel, by decide +kernel⟩
def spMay (n : Nat) : Sp := fun vs H Q _ => ∃ (v : V) (t : Tr) (a : Addr) (i : Nat) (xs : List V) (lab : Nat → Str), vs = [v, .ref a, natV i] ∧ TrAt H v t ∧ t.ht < n ∧ i < t.size ∧ t.size ≤ 300 ∧ H a = some (.lst xs) ∧ (∀ z, z ∈ pOf t 0 i → xs[z.1]? = some (.str (lab z.1)) ∧ PyData.strOk (lab z.1) = true) ∧
  ∀ (H' : Hp) (q : Addr), Same H H' → H q = none → H' q = some (.lst ((mayOf lab (pOf t 0 i)).map V.str)) → Q (.ref q) H'
theorem ok_may {n : Nat} (B : Bl mg) (Wy : Df P w K mg base "_law_way" (n + 1) p_law_way (spWay n)) (a : At K mg "_law_may" s_law_may) : Df P w K mg base "_law_may" (n + 2) ["a_tree", "a_pattern", "node"] (spMay n) := by
  refine Df.mk' a sc_law_may (fun vs H Q E h => ?_) (fun _ _ _ _ _ _ us hl => match us, hl with | [_, _, _], _ => rfl) (fun f cdv A outer s H vs Q E hr h => ?_)
  · obtain ⟨_, _, _, _, _, _, rfl, _⟩ := h
    rfl
  obtain ⟨v, t, a, i, xs, lab, rfl, ht, hd, hi, hz, ha, hx, q⟩ := h
  have zero : 0 ≤ sizeLine := by show 0 ≤ sizeLine; decide
  have one : 1 ≤ sizeLine := by show 1 ≤ sizeLine; decide
  have two : 2 ≤ sizeLine := by show 2 ≤ sizeLine; decide
  refine ⟨_, (pss_cons (ps_set (i := 3) sc_law_may.nd rfl (.inl rfl) (pe_df Wy hr (pa_cons (pv 0) (pa_cons (pv 2) pa_nil))))
 (pss_cons (ps_setLc (i := 4) (own := [("ancestor", 7), ("side", 8)]) (g := (gTup K 2 (gCons (gName 7) (gCons (gName 8) gNil)))) (by rfl) sc_law_may.nd rfl rfl (sw_true rfl rfl rfl (by decide +kernel)) (pi_list (pv 3)) (blkOk_by (N := n_law_may) (sc := defScope s_law_may) (by decide +kernel)) (fun _ _ _ _ _ => (pg_tup rfl (pgs_cons (pg_name (i := 7) sc_law_may.nd rfl (.inl rfl)) (pgs_cons (pg_name (i := 8) sc_law_may.nd rfl (.inl rfl)) pgs_nil)))) (fun _ _ _ _ _ => (pts_one (pt_cmpR (show OpR _ (compareOp .In) (rInD K) from op_inD (room65p hr)) (pe_tup (pa_cons (pe_ix (show IxR _ (rIxL K) from ix_list) (pv 1) (pv 7) (fun _ _ => rfl)) (pa_cons (pv 8) pa_nil))) (pe_lst (pa_cons (pe_tup (pa_cons pe_str (pa_cons pe_str pa_nil))) (pa_cons (pe_tup (pa_cons pe_str (pa_cons pe_str pa_nil))) pa_nil))) (by rfl)))) (fun _ _ _ _ _ => (pv 7)))
 (pss_cons (ps_setLc (i := 5) (own := [("ancestor", 7), ("side", 8)]) (g := (gTup K 2 (gCons (gName 7) (gCons (gName 8) gNil)))) (by rfl) sc_law_may.nd rfl rfl (sw_true rfl rfl rfl (by decide +kernel)) (pi_list (pv 3)) (blkOk_by (N := n_law_may) (sc := defScope s_law_may) (by decide +kernel)) (fun _ _ _ _ _ => (pg_tup rfl (pgs_cons (pg_name (i := 7) sc_law_may.nd rfl (.inl rfl)) (pgs_cons (pg_name (i := 8) sc_law_may.nd rfl (.inl rfl)) pgs_nil)))) (fun _ _ _ _ _ => (pts_one (pt_cmpR (show OpR _ (compareOp .Eq) (rEqD K) from op_eqD hr.units) (pe_tup (pa_cons (pe_ix (show IxR _ (rIxL K) from ix_list) (pv 1) (pv 7) (fun _ _ => rfl)) (pa_cons (pv 8) pa_nil))) (pe_tup (pa_cons pe_str (pa_cons pe_str pa_nil))) (nomark _)))) (fun _ _ _ _ _ => (pv 7)))
 (pss_cons (ps_setLc (i := 6) (own := [("ancestor", 7), ("side", 8)]) (g := (gTup K 2 (gCons (gName 7) (gCons (gName 8) gNil)))) (by rfl) sc_law_may.nd rfl rfl (sw_true rfl rfl rfl (by decide +kernel)) (pi_list (pv 3)) (blkOk_by (N := n_law_may) (sc := defScope s_law_may) (by decide +kernel)) (fun _ _ _ _ _ => (pg_tup rfl (pgs_cons (pg_name (i := 7) sc_law_may.nd rfl (.inl rfl)) (pgs_cons (pg_name (i := 8) sc_law_may.nd rfl (.inl rfl)) pgs_nil)))) (fun _ _ _ _ _ => (pts_one (pt_cmpR (show OpR _ (compareOp .Eq) (rEqD K) from op_eqD hr.units) (pe_tup (pa_cons (pe_ix (show IxR _ (rIxL K) from ix_list) (pv 1) (pv 7) (fun _ _ => rfl)) (pa_cons (pv 8) pa_nil))) (pe_tup (pa_cons pe_str (pa_cons pe_str pa_nil))) (nomark _)))) (fun _ _ _ _ _ => (pv 7)))
 (pss_cons (ps_if (pt_cmpR (op_neN (Nat.lt_of_succ_lt (hu_of hr))) (pv 4) (pe_lst pa_nil) (nomark _)) (pss_one (ps_ret (pe_lst (pa_cons pe_str pa_nil)))) pss_nil)
 (pss_one (ps_ret (pe_op op_cat (pe_op op_cat (pe_lst (pa_cons pe_str pa_nil)) (pe_op op_rep (pe_lst (pa_cons pe_str pa_nil)) (pe_callTy call_int1 (by rfl) B.int (by decide +kernel) (pa_cons (pe_cmpR (op_neN (Nat.lt_of_succ_lt (hu_of hr))) (pv 5) (pe_lst pa_nil) (nomark _)) pa_nil)))) (pe_op op_rep (pe_lst (pa_cons pe_str pa_nil)) (pe_callTy call_int1 (by rfl) B.int (by decide +kernel) (pa_cons (pe_cmpR (op_neN (Nat.lt_of_succ_lt (hu_of hr))) (pv 6) (pe_lst pa_nil) (nomark _)) pa_nil))))))))))), ?_⟩
  refine ⟨_, rfl, _, rfl, v, t, i, rfl, ht, hd, hi, hz, fun H1 W s1 nW pW => ?_⟩
  have ha1 := s1 _ _ ha
  obtain ⟨tups, eW, pT⟩ := pW
  have lt := Paired.length pT
  have lp := pOf_len t 0 i
  -- dead
  refine ⟨_, rfl, W, rfl, ⟨_, .of eW⟩, fun D hD => ?_⟩
  refine lc_list (xs := tups.map V.ref) (fun j H' => Same H1 H' ∧ H' D = some (.lst ((((pOf t 0 i).take j).filter fun z => kills (lab z.1) z.2).map fun z => natV z.1))) ⟨Same.new hD, upd_same⟩ (fun j H' _ h' => .of (h'.1 _ _ eW)) (fun j x H2 hx2 h2 => ?_) (fun H2 h2 => ?_)
  · obtain ⟨s2, e2⟩ := h2
    rw [List.getElem?_map] at hx2
    obtain ⟨T, hT, rfl⟩ := Option.map_eq_some_iff.mp hx2
    obtain ⟨⟨m, b⟩, hz2, eT⟩ := Paired.getL pT hT
    obtain ⟨hxm, okm⟩ := hx (m, b) (List.mem_of_getElem? hz2)
    have hj := (List.getElem?_eq_some_iff.mp hz2).1
    refine ⟨T, _, rfl, .of (s2 _ _ eT), rfl, _, _, rfl, _, [], rfl, rfl, rfl, ?_⟩
    refine ⟨_, rfl, _, rfl, a, _, _, _, rfl, rfl, .of (s2 _ _ ha1), at_of (j := m) rfl hxm, _, rfl, two, fun P1 h1 => ⟨two, fun P2 h2 => ⟨two, fun P3 h3 => ⟨two, fun P4 h4 => ?_⟩⟩⟩⟩
    have t1 := Same.new (o := .tup [V.str (lab m), sideV b]) h1
    have t2 := Same.new (o := .tup [V.str "low", V.str "left"]) h2
    have t3 := Same.new (o := .tup [V.str "high", V.str "right"]) h3
    have t4 := Same.new (o := .lst [V.ref P2, V.ref P3]) h4
    have f3 := t3.trans t4
    have f2 := t2.trans f3
    have f1 := t1.trans f2
    have e1 := f2 P1 (.tup [V.str (lab m), sideV b]) upd_same
    have d1 : Dp K (upd (upd (upd (upd H2 P1 (.tup [V.str (lab m), sideV b])) P2 (.tup [V.str "low", V.str "left"])) P3 (.tup [V.str "high", V.str "right"])) P4 (.lst [V.ref P2, V.ref P3])) (.ref P1) (pairD (lab m) b) := by
      rw [sideV_str] at e1 ⊢
      exact .tup (.of e1) (.cons (.str _) (.cons (.str _) .nil))
    refine ⟨pairD (lab m) b, [.tuple [.str "low", .str "left"], .tuple [.str "high", .str "right"]], d1, .lst (.of upd_same) (.cons (.tup (.of (f3 _ _ upd_same)) (.cons (.str _) (.cons (.str _) .nil))) (.cons (.tup (.of (t4 _ _ upd_same)) (.cons (.str _) (.cons (.str _) .nil))) .nil)), pair_shaped b okm, by decide +kernel, _, rfl, ?_⟩
    rw [kill_any]
    have e5 := f1 _ _ e2
    have s5 := s2.trans f1
    have et : ((pOf t 0 i).take (j + 1)).filter (fun z => kills (lab z.1) z.2) = ((pOf t 0 i).take j).filter (fun z => kills (lab z.1) z.2) ++ if kills (lab m) b = true then [(m, b)] else [] := by
      rw [List.take_add_one, hz2, List.filter_append]
      congr 1
      show ((m, b) :: []).filter _ = _
      rw [List.filter_cons]
      rfl
    rw [et]
    have lf := List.length_filter_le (fun z : Nat × Bool => kills (lab z.1) z.2) ((pOf t 0 i).take j)
    rw [List.length_take] at lf
    cases c : kills (lab m) b with
    | true =>
      refine iteT ⟨_, rfl, _, e5, ?_, fun b o eb => ?_, ?_⟩
      · rw [List.length_map]
        exact small1000 (by omega)
      · rw [upd_ne (ne_of_none eb hD)]
        exact s5 _ _ eb
      · rw [upd_same, if_pos rfl, List.map_append]
        rfl
    | false =>
      refine iteF ⟨s5, ?_⟩
      rw [if_neg (by decide), List.append_nil]
      exact e5
  obtain ⟨s2, eD⟩ := h2
  rw [List.length_map, lt, List.take_length] at eD
  have s1Z := s1.trans s2
  have eW3 := s2 _ _ eW
  have ha3 := s2 _ _ ha1
  have pT3 := Paired.mapP pT fun a z h => s2 _ _ h
  clear s1 s2 hD
  -- low, high
  refine ⟨_, rfl, W, rfl, ⟨_, .of eW3⟩, fun L hL => ?_⟩
  refine lc_list (xs := tups.map V.ref) (fun j H' => Same H2 H' ∧ H' L = some (.lst ((((pOf t 0 i).take j).filter fun z => decide (lab z.1 = ("found" : Str)) && decide (z.2 = true)).map fun z => natV z.1))) ⟨Same.new hL, upd_same⟩ (fun j H' _ h' => .of (h'.1 _ _ eW3)) (fun j x H4 hx4 h4 => ?_) (fun H4 h4 => ?_)
  · obtain ⟨s4, e4⟩ := h4
    rw [List.getElem?_map] at hx4
    obtain ⟨T, hT, rfl⟩ := Option.map_eq_some_iff.mp hx4
    obtain ⟨⟨m, b⟩, hz2, eT⟩ := Paired.getL pT3 hT
    obtain ⟨hxm, okm⟩ := hx (m, b) (List.mem_of_getElem? hz2)
    have hj := (List.getElem?_eq_some_iff.mp hz2).1
    refine ⟨T, _, rfl, .of (s4 _ _ eT), rfl, _, _, rfl, _, [], rfl, rfl, rfl, ?_⟩
    refine ⟨_, rfl, _, rfl, a, _, _, _, rfl, rfl, .of (s4 _ _ ha3), at_of (j := m) rfl hxm, _, rfl, two, fun P1 h1 => ⟨two, fun P2 h2 => ?_⟩⟩
    have t1 := Same.new (o := .tup [V.str (lab m), sideV b]) h1
    have t2 := Same.new (o := .tup [V.str "found", V.str "right"]) h2
    have f1 := t1.trans t2
    have e1 := t2 P1 (.tup [V.str (lab m), sideV b]) upd_same
    have d1 : Dp K (upd (upd H4 P1 (.tup [V.str (lab m), sideV b])) P2 (.tup [V.str "found", V.str "right"])) (.ref P1) (pairD (lab m) b) := by
      rw [sideV_str] at e1 ⊢
      exact .tup (.of e1) (.cons (.str _) (.cons (.str _) .nil))
    refine ⟨pairD (lab m) b, pairD "found" true, d1, .tup (.of upd_same) (.cons (.str _) (.cons (.str _) .nil)), pair_shaped b okm, by decide +kernel, _, rfl, ?_⟩
    rw [pair_eqv]
    have e5 := f1 _ _ e4
    have s5 := s4.trans f1
    have et : ((pOf t 0 i).take (j + 1)).filter (fun z => decide (lab z.1 = ("found" : Str)) && decide (z.2 = true)) = ((pOf t 0 i).take j).filter (fun z => decide (lab z.1 = ("found" : Str)) && decide (z.2 = true)) ++ if (decide (lab m = ("found" : Str)) && decide (b = true)) = true then [(m, b)] else [] := by
      rw [List.take_add_one, hz2, List.filter_append]
      congr 1
      show ((m, b) :: []).filter _ = _
      rw [List.filter_cons]
      rfl
    rw [et]
    have lf := List.length_filter_le (fun z : Nat × Bool => decide (lab z.1 = ("found" : Str)) && decide (z.2 = true)) ((pOf t 0 i).take j)
    rw [List.length_take] at lf
    cases c : (decide (lab m = ("found" : Str)) && decide (b = true)) with
    | true =>
      refine iteT ⟨_, rfl, _, e5, ?_, fun b o eb => ?_, ?_⟩
      · rw [List.length_map]
        exact small1000 (by omega)
      · rw [upd_ne (ne_of_none eb hL)]
        exact s5 _ _ eb
      · rw [upd_same, if_pos rfl, List.map_append]
        rfl
    | false =>
      refine iteF ⟨s5, ?_⟩
      rw [if_neg (by decide), List.append_nil]
      exact e5
  obtain ⟨s4, eL⟩ := h4
  rw [List.length_map, lt, List.take_length] at eL
  have eW4 := s4 _ _ eW3
  have ha4 := s4 _ _ ha3
  have pT4 := Paired.mapP pT3 fun a z h => s4 _ _ h
  refine ⟨_, rfl, W, rfl, ⟨_, .of eW4⟩, fun G hG => ?_⟩
  refine lc_list (xs := tups.map V.ref) (fun j H' => Same H4 H' ∧ H' G = some (.lst ((((pOf t 0 i).take j).filter fun z => decide (lab z.1 = ("found" : Str)) && decide (z.2 = false)).map fun z => natV z.1))) ⟨Same.new hG, upd_same⟩ (fun j H' _ h' => .of (h'.1 _ _ eW4)) (fun j x H5 hx5 h5 => ?_) (fun H5 h5 => ?_)
  · obtain ⟨s5, e5⟩ := h5
    rw [List.getElem?_map] at hx5
    obtain ⟨T, hT, rfl⟩ := Option.map_eq_some_iff.mp hx5
    obtain ⟨⟨m, b⟩, hz2, eT⟩ := Paired.getL pT4 hT
    obtain ⟨hxm, okm⟩ := hx (m, b) (List.mem_of_getElem? hz2)
    have hj := (List.getElem?_eq_some_iff.mp hz2).1
    refine ⟨T, _, rfl, .of (s5 _ _ eT), rfl, _, _, rfl, _, [], rfl, rfl, rfl, ?_⟩
    refine ⟨_, rfl, _, rfl, a, _, _, _, rfl, rfl, .of (s5 _ _ ha4), at_of (j := m) rfl hxm, _, rfl, two, fun P1 h1 => ⟨two, fun P2 h2 => ?_⟩⟩
    have t1 := Same.new (o := .tup [V.str (lab m), sideV b]) h1
    have t2 := Same.new (o := .tup [V.str "found", V.str "left"]) h2
    have f1 := t1.trans t2
    have e1 := t2 P1 (.tup [V.str (lab m), sideV b]) upd_same
    have d1 : Dp K (upd (upd H5 P1 (.tup [V.str (lab m), sideV b])) P2 (.tup [V.str "found", V.str "left"])) (.ref P1) (pairD (lab m) b) := by
      rw [sideV_str] at e1 ⊢
      exact .tup (.of e1) (.cons (.str _) (.cons (.str _) .nil))
    refine ⟨pairD (lab m) b, pairD "found" false, d1, .tup (.of upd_same) (.cons (.str _) (.cons (.str _) .nil)), pair_shaped b okm, by decide +kernel, _, rfl, ?_⟩
    rw [pair_eqv]
    have e6 := f1 _ _ e5
    have s6 := s5.trans f1
    have et : ((pOf t 0 i).take (j + 1)).filter (fun z => decide (lab z.1 = ("found" : Str)) && decide (z.2 = false)) = ((pOf t 0 i).take j).filter (fun z => decide (lab z.1 = ("found" : Str)) && decide (z.2 = false)) ++ if (decide (lab m = ("found" : Str)) && decide (b = false)) = true then [(m, b)] else [] := by
      rw [List.take_add_one, hz2, List.filter_append]
      congr 1
      show ((m, b) :: []).filter _ = _
      rw [List.filter_cons]
      rfl
    rw [et]
    have lf := List.length_filter_le (fun z : Nat × Bool => decide (lab z.1 = ("found" : Str)) && decide (z.2 = false)) ((pOf t 0 i).take j)
    rw [List.length_take] at lf
    cases c : (decide (lab m = ("found" : Str)) && decide (b = false)) with
    | true =>
      refine iteT ⟨_, rfl, _, e6, ?_, fun b o eb => ?_, ?_⟩
      · rw [List.length_map]
        exact small1000 (by omega)
      · rw [upd_ne (ne_of_none eb hG)]
        exact s6 _ _ eb
      · rw [upd_same, if_pos rfl, List.map_append]
        rfl
    | false =>
      refine iteF ⟨s6, ?_⟩
      rw [if_neg (by decide), List.append_nil]
      exact e6
  obtain ⟨s5, eG⟩ := h5
  rw [List.length_map, lt, List.take_length] at eG
  have eL5 := s5 _ _ eL
  have s35 := s4.trans s5
  have eD5 := s35 _ _ eD
  have s15 := s1Z.trans s35
  refine ⟨_, rfl, zero, fun Z hZ => ?_⟩
  have sZ := Same.new (o := .lst []) hZ
  refine ⟨D, Z, _, rfl, rfl, .of (sZ _ _ eD5), .of upd_same, _, rfl, ?_⟩
  have kl : (((pOf t 0 i).filter fun z => kills (lab z.1) z.2).map fun z => natV z.1).isEmpty = (killerOf lab (pOf t 0 i)).isNone := by
    have := kill_any' (lab := lab) (pOf t 0 i)
    rw [List.isEmpty_map]
    cases e : killerOf lab (pOf t 0 i) with
    | none => exact this.mpr e
    | some k =>
      cases e2 : ((pOf t 0 i).filter fun z => kills (lab z.1) z.2).isEmpty with
      | false => rfl
      | true =>
        rw [this.mp e2] at e
        cases e
  rw [kl]
  unfold mayOf at q
  cases ek : killerOf lab (pOf t 0 i) with
  | some k =>
    rw [ek, if_pos (show (some k).isSome = true from rfl)] at q
    refine iteT ⟨one, fun R nR => ?_⟩
    exact q _ R (s15.trans (sZ.trans (Same.new nR))) ((s15.trans sZ).free nR) upd_same
  | none =>
  rw [ek, if_neg (show ¬ (none : Option Nat).isSome = true from Bool.false_ne_true)] at q
  refine iteF ?_
  have s1Z := s15.trans sZ
  have eL5 := sZ _ _ eL5
  have eG := sZ _ _ eG
  generalize upd H5 Z (.lst []) = H6 at s1Z eL5 eG ⊢
  have bt := bound_any (lab := lab) (c := true) (pOf t 0 i) none
  have bf := bound_any (lab := lab) (c := false) (pOf t 0 i) none
  rw [show (none : Option Nat).isSome = false from rfl, Bool.false_or] at bt bf
  rw [bt, bf] at q
  generalize ((pOf t 0 i).filter fun z => decide (lab z.1 = ("found" : Str)) && decide (z.2 = true)) = la at eL5 q
  generalize ((pOf t 0 i).filter fun z => decide (lab z.1 = ("found" : Str)) && decide (z.2 = false)) = lb at eG q
  clear eL s4 s5 eW3 eW4 ha3 ha4 pT3 pT4 hL hG bt bf kl
  have ifb : ∀ b : Bool, 0 ≤ (if b = true then (1 : Int) else 0) ∧ (if b = true then (1 : Int) else 0) ≤ 1 ∧ (if b = true then (1 : Int) else 0).toNat ≤ 1 := fun b => by cases b <;> exact ⟨by decide, by decide, by decide⟩
  have rep1 : ∀ (b : Bool) (x : V), (List.replicate (if b = true then (1 : Int) else 0).toNat [x]).flatten = if b = true then [x] else [] := fun b x => by cases b <;> rfl
  refine ⟨one, fun P1 n1 => ⟨one, fun P2 n2 => ⟨_, rfl, zero, fun Z2 nZ2 => ?_⟩⟩⟩
  have t1 := Same.new (o := .lst [V.str "found"]) n1
  have t2 := Same.new (o := .lst [V.str "low"]) n2
  have t3 := Same.new (o := .lst []) nZ2
  have t13 := t1.trans (t2.trans t3)
  refine ⟨L, Z2, _, rfl, rfl, .of (t13 _ _ eL5), .of upd_same, .inr ⟨_, rfl, P2, _, _, rfl, rfl, t3 _ _ upd_same, by have := (ifb (!(la.map fun z => natV z.1).isEmpty)).1; omega, by have := (ifb (!(la.map fun z => natV z.1).isEmpty)).2.1; omega, ?_, fun P3 n3 => ?_⟩⟩
  · have := (ifb (!(la.map fun z => natV z.1).isEmpty)).2.2
    show 1 * _ ≤ 16777216
    omega
  rw [rep1]
  have t4 := Same.new (o := .lst (if (!(la.map fun z => natV z.1).isEmpty) = true then [V.str "low"] else [])) n3
  refine ⟨P1, P3, _, _, rfl, rfl, t4 _ _ (t3 _ _ (t2 _ _ upd_same)), upd_same, ?_, fun P4 n4 => ?_⟩
  · show 1 + _ ≤ 16777216
    split <;> decide
  have t5 := Same.new (o := .lst ([V.str "found"] ++ if (!(la.map fun z => natV z.1).isEmpty) = true then [V.str "low"] else [])) n4
  refine ⟨one, fun P5 n5 => ⟨_, rfl, zero, fun Z6 nZ6 => ?_⟩⟩
  have t6 := Same.new (o := .lst [V.str "high"]) n5
  have t7 := Same.new (o := .lst []) nZ6
  have t17 := t13.trans (t4.trans (t5.trans (t6.trans t7)))
  refine ⟨G, Z6, _, rfl, rfl, .of (t17 _ _ eG), .of upd_same, .inr ⟨_, rfl, P5, _, _, rfl, rfl, t7 _ _ upd_same, by have := (ifb (!(lb.map fun z => natV z.1).isEmpty)).1; omega, by have := (ifb (!(lb.map fun z => natV z.1).isEmpty)).2.1; omega, ?_, fun P7 n7 => ?_⟩⟩
  · have := (ifb (!(lb.map fun z => natV z.1).isEmpty)).2.2
    show 1 * _ ≤ 16777216
    omega
  rw [rep1]
  have t8 := Same.new (o := .lst (if (!(lb.map fun z => natV z.1).isEmpty) = true then [V.str "high"] else [])) n7
  refine ⟨P4, P7, _, _, rfl, rfl, t8 _ _ (t7 _ _ (t6 _ _ upd_same)), upd_same, ?_, fun R nR => ?_⟩
  · rw [List.length_append]
    show (1 + _) + _ ≤ 16777216
    split <;> split <;> decide
  have t9 := Same.new (o := .lst ([V.str "found"] ++ (if (!(la.map fun z => natV z.1).isEmpty) = true then [V.str "low"] else []) ++ if (!(lb.map fun z => natV z.1).isEmpty) = true then [V.str "high"] else [])) nR
  have t18 := t17.trans t8
  refine q _ R (s1Z.trans (t18.trans t9)) ((s1Z.trans t18).free nR) ?_
  rw [upd_same]
  rw [List.isEmpty_map, List.isEmpty_map]
  cases la.isEmpty <;> cases lb.isEmpty <;> rfl
end
end HSP
set_option maxHeartbeats 2000000
namespace HSP
open PySem PySem.Spec PyProof.Rows L2
/-! ### try: body, except A as n: suite; the exception is kept -/
/-- what the clause wishes, the exception kept in the heap -/
def wKeep1 (K : PySem.W.Frag) (c1 : Value) (i : Nat) (ts : Addr → TS) (Wo : WX) (D : Ends) : WX := fun cls d σ H =>
  ∃ b, PySem.W.exmOne K cls c1 = some b ∧
    (b = true → ∀ a, H a = none → ts a ⟨fun τ G => D.nx (τ.set i none) G, D.rt, fun τ G => D.bk (τ.set i none) G, fun τ G => D.ct (τ.set i none) G⟩ (σ.set i (some (.ref a))) (upd H a (exK cls d a))) ∧ (b = false → Wo cls d σ H)
section
variable {X : Cx}
variable {x1 n : Str} {c1 : Value} {i : Nat} {body suite : List Stmt} {b₀ : Stmt} {p1 pos pos' : Pos} {tb : WX → TS} {ts : Addr → TS} {Wo : WX}
theorem ps_try_keep1 (stk : X.stack = X.env :: X.outer) (fr : X.env.frame = some X.env.locals) (nod : X.N.Nodup) (at_i : X.N[i]? = some n) (lc : X.env.kindOf n = some .local) (nm1 : Names X x1 c1) (out : Takes X Wo)
    (does : ∀ (W : WX) (pn : List (Addr × Obj)) (xe : Value → Shared → Prop), Takes (X.tr pn xe) W → PassesOwn (model X.prog X.w) X.A X.env xe → PSs (X.tr pn xe) body (tb W))
    (then_ : ∀ (e : Addr) (pn : List (Addr × Obj)), PSs (X.suite e pn) (b₀ :: suite) (ts e)) :
    PS X (.Try body [.ExceptHandler (some (.Name x1 p1)) (some n) (b₀ :: suite) pos'] [] [] pos) (fun D σ H => tb (wKeep1 X.K c1 i ts Wo D) D σ H) := by
  refine ⟨fun pins s σ H D I rd => ?_⟩
  have okX := I.ok
  have frs0 : X.A.frames = some (X.env :: X.outer) := okX.frames.trans (congrArg some stk)
  refine wpAny_Try_except ?_
  have run := (does (wKeep1 X.K c1 i ts Wo D) (X.pn ++ pins) (fun v z => wpAny (model X.prog X.w) X.A (noteFrame v X.env) (fun _ z2 => wpAny (model X.prog X.w) X.A (setFlight v none) (fun _ z3 =>
    wpAny (model X.prog X.w) X.A (handleBy v X.env [.ExceptHandler (some (.Name x1 p1)) (some n) (b₀ :: suite) pos']) (SP X pins D) X.xe z3) X.xe z2) X.xe z)
    (fun u z flown => ?caught) PassesOwn.looking).run [] s σ H D (I.toTry _) rd
  case caught =>
    obtain ⟨e, B, z0, pins', τ, G, cls, d, rfl, J0, nb, up0, sky0, ne, os0, bare0, b, hit, yes, no⟩ := flown
    have J := J0.ofTry okX
    rw [show (X.tr (X.pn ++ pins) _).stack = X.env :: X.outer from stk] at sky0
    refine Sky.land Zc.steady frs0 fr sky0 fun g fl upg => ?_
    have Jg := J.landed (s' := { z with heap := g }) nb fl.1 (up0.trans upg) os0 bare0
    obtain ⟨o3, v3, got3, z3, dat3⟩ := fl.there
    have off : ∀ {h : Heap} {o : Obj} {vs : Array Value}, h.FunFrames B (X.env :: X.outer) → h.get? e = some o → o.data = .fields vs → ¬ e ∈ frs (X.env :: X.outer) := fun {h o vs} ff ge dd m => by
      obtain ⟨_, o', ge', bad⟩ := ff.mem m
      rw [ge] at ge'
      cases ge'
      exact bad vs dd
    have none_of := off fl.2.2.1 got3 dat3
    have n1 : e ≠ X.env.locals := fun z => none_of (List.mem_filterMap.mpr ⟨X.env, List.mem_cons_self, fr.trans (congrArg some z.symm)⟩)
    have n2 : e ∉ X.fs := fun m => by
      obtain ⟨y, my, ey⟩ := List.mem_filterMap.mp m
      exact none_of (List.mem_filterMap.mpr ⟨y, List.mem_cons_of_mem _ my, ey⟩)
    have Sg := Jg.suite got3 dat3 ne n1 n2
    refine wpAny_handleBy_cons (codeAny_handlers_test ?_) (fun q => by cases q)
    refine ld_name (X := X.suite e ((e, o3) :: (X.pn ++ pins))) nm1 Sg ?_
    have looks : PySem.W.Looks (model X.prog X.w) g (typeOf (.ref e)) cls := fun _ _ _ _ k q => wpAny_typeOf_ref (k _ _ got3) (by rw [z3.1]; exact q)
    have hits := PySem.W.exm_one (M := model X.prog X.w) Jg.kIn looks hit
    refine hits.here ?_
    cases b with
    | true =>
      refine codeAny_handlers_suite_as ?_
      refine HandSPX.lands_againZ fl fun g4 fl4 up4 => ?_
      have J4 := J.landed (s' := { z with heap := g4 }) nb fl4.1 ((up0.trans upg).trans up4) os0 bare0
      obtain ⟨o4, v4, got4, z4, dat4⟩ := fl4.there
      have new0 : z0.heap.get? e = none := by
        cases q : z0.heap.get? e with
        | none => rfl
        | some o =>
          have := nb e o q (by rw [show (X.tr (X.pn ++ pins) _).stack = X.env :: X.outer from stk]; exact none_of)
          rw [fl.2.1] at this
          cases this
      have K4 := J.keptNew (s' := { z with heap := g4 }) nb fl4.1 ((up0.trans upg).trans up4) os0 bare0 new0 ne (exK_ok got4 z4 dat4)
      have S4 := K4.bareSuite e
      refine store_ok (X := X.suite e (X.pn ++ pins)) (v := .ref e) S4 nod at_i (.inl lc) rfl (fun z5 S5 => ?_) (.inr lc)
      refine wpAny_mono ((then_ e (X.pn ++ pins)).run [] z5 _ (upd G e (exK cls d e)) _ S5 (yes rfl e ne)) (fun fw z6 fin => ?_) (fun _ _ q => q.elim)
      have over : ∀ {τ6 : L2.St} {G6 : Hp} {Q : Shared → Prop}, L2.Inv (X.suite e (X.pn ++ pins)) [] τ6 G6 z6 → (∀ z7, L2.Inv X pins (τ6.set i none) G6 z7 → Q z7) → wpAny (model X.prog X.w) X.A (do bindName X.env n .none; unbindBehindTheSuite X.env n pos') (fun _ z7 => Q z7) X.xe z6 :=
        fun {τ6 G6 Q} S6 q => gone_ok (S6.offSuite okX) nod at_i lc q
      cases fw with
      | ret u =>
        obtain ⟨v6, τ6, G6, S6, r6, q6⟩ := fin
        exact over S6 fun z7 J7 => ⟨_, _, _, J7, r6, q6⟩
      | _ =>
        obtain ⟨τ6, G6, S6, q6⟩ := fin
        exact over S6 fun z7 J7 => ⟨_, _, J7, q6⟩
    | false =>
      show wpAny _ X.A (handleBy (.ref e) X.env []) _ _ _
      refine wpAny_handleBy_nil ?_
      obtain ⟨_, _, _, o5, v5, T, oT, w5, got5, _, dat5, tr5, _⟩ := id fl
      unfold PySem.passOn
      refine wpAny_bind (wpAny_field got5 dat5 tr5 ?_)
      rw [if_neg (by simp : ¬ ((Value.ref T == Value.none) = true))]
      have flies : wpAny (model X.prog X.w) X.A (setFlight (.ref e) X.env.frame) (fun _ z4 => wpAny (model X.prog X.w) X.A (throw (.ref e) : Sem Flow) (SP X pins D) X.xe z4) X.xe { z with heap := g } := by
        rw [fr]
        exact HandSPX.setFlight_upZ fl fun g4 held up4 => wpAny_throw (out _ _ ⟨e, B, z0, pins, τ, G, cls, d, rfl, J, nb, (up0.trans upg).trans up4, .inr (.inr (by rw [stk]; exact held)), ne, os0, bare0, no rfl⟩)
      first
        | exact wpAny_bind (wpAny_pure (wpAny_bind flies))
        | exact wpAny_bind flies
  refine wpAny_mono run (fun fw z6 fin => ?_) (fun v z6 q => q)
  cases fw with
  | next =>
    obtain ⟨τ, G, J, q⟩ := fin
    exact wpAny_execs_nil ⟨τ, G, J.ofTry okX, q⟩
  | ret u =>
    obtain ⟨v, τ, G, J, r, q⟩ := fin
    exact ⟨v, τ, G, J.ofTry okX, r, q⟩
  | _ =>
    obtain ⟨τ, G, J, q⟩ := fin
    exact ⟨τ, G, J.ofTry okX, q⟩
end
end HSP
namespace HSP
open PySem PySem.Spec PyProof.Rows L2
/-! ## classes of errors: what the top tells of them -/
structure ClsT (K : PySem.W.Frag) (C : Addr) : Prop where
  k : PySem.W.keepIn K (.ref C) = true
  b : PySem.W.subIn K (.ref C) (.type "BaseException") = some true
  t : PySem.W.typeIn K (.ref C) = some (.type "type")
  c : ∃ q, PySem.W.clsIn K C = some q
  a : PySem.W.findIn K (.ref C) "__getattribute__" = some (some (.builtin "BaseException.__getattribute__"))
  g : PySem.W.findIn K (.ref C) "__getattr__" = some none
  d : PySem.W.hasDictIn K C = true
  l : PySem.W.findIn K (.ref C) "__class__" = some (some (.builtin "object.__class__"))
  n : PySem.W.specialIn K (.builtin "object.__class__") "__get__" = some (some (.builtin "getset_descriptor.__get__"))
  h : PySem.W.takesIn K (.builtin "object.__class__") = some true
  m : PySem.W.mroIn K C (.type "object") = some true
section
variable {K : PySem.W.Frag} {C C1 C2 : Addr} {b : Bool}
theorem ClsT.exc (T : ClsT K C) : ExcC K C := ⟨T.a, T.g, T.b, T.d, T.l, T.n, T.h, T.m⟩
theorem ClsT.xf (T : ClsT K C) : XfC K C := ⟨T.a, T.g, T.b, T.d⟩
theorem kit_sub {t : Value} (T2 : ClsT K C2) (s : PySem.W.subIn K t (.ref C2) = some b) : PySem.W.kitCls K t (.ref C2) = some b := by
  obtain ⟨q, e⟩ := T2.c
  show (if ((PySem.W.clsIn K C2).isSome && PySem.W.typeIn K (.ref C2) == some (.type "type")) = true then PySem.W.subIn K t (.ref C2) else none) = some b
  rw [if_pos, s]
  rw [e, T2.t]
  rfl
theorem kit_cls (T2 : ClsT K C2) (ne : (Value.ref C1 == Value.ref C2) = false) (s : PySem.W.subIn K (.ref C1) (.ref C2) = some b) : PySem.W.kitOne K (.ref C1) (.ref C2) = some b := by
  unfold PySem.W.kitOne
  rw [ne, if_neg Bool.false_ne_true]
  exact kit_sub T2 s
theorem kit_self : PySem.W.kitOne K (.ref C) (.ref C) = some true := by
  unfold PySem.W.kitOne
  rw [if_pos (beq_self_eq_true _)]
theorem exm_cls {t : Value} (T2 : ClsT K C2) (s : PySem.W.subIn K t (.ref C2) = some b) : PySem.W.exmOne K t (.ref C2) = some b := by
  unfold PySem.W.exmOne
  rw [if_pos (by rw [T2.b]; rfl)]
  exact kit_sub T2 s
theorem exm_two {t c1 c2 : Value} {b1 b2 : Bool} (h1 : PySem.W.exmOne K t c1 = some b1) (h2 : PySem.W.exmOne K t c2 = some b2) : PySem.W.exmAny K t [c1, c2] = some (b1 || (b2 || false)) := by
  simp only [PySem.W.exmAny, h1, h2]
end
end HSP
namespace HSP
open PySem PySem.Spec PyProof.Rows L2
/-! ## trees of halving, trees put together -/
/-- the tree of halving, to so many levels -/
def halv : Nat → Nat → Tr
  | 0, _ => .nil
  | _ + 1, 0 => .nil
  | k + 1, m + 1 => .nod (halv k ((m + 1) / 2)) (halv k (m + 1 - (m + 1) / 2 - 1))
theorem half_lt {k m : Nat} (h : m + 1 < 2 ^ (k + 1)) : (m + 1) / 2 < 2 ^ k ∧ m + 1 - (m + 1) / 2 - 1 < 2 ^ k := by
  have e : 2 ^ (k + 1) = 2 ^ k * 2 := Nat.pow_succ 2 k
  omega
theorem halv_size : ∀ (k m : Nat), m < 2 ^ k → (halv (k + 1) m).size = m
  | _, 0, _ => rfl
  | 0, m + 1, h => by
    have e : 2 ^ 0 = 1 := rfl
    omega
  | k + 1, m + 1, h => by
    obtain ⟨h1, h2⟩ := half_lt h
    show (halv (k + 1) ((m + 1) / 2)).size + 1 + (halv (k + 1) (m + 1 - (m + 1) / 2 - 1)).size = m + 1
    rw [halv_size k _ h1, halv_size k _ h2]
    omega
theorem halv_ht : ∀ (k m : Nat), (halv k m).ht ≤ k
  | 0, _ => Nat.le_refl _
  | _ + 1, 0 => Nat.zero_le _
  | k + 1, m + 1 => by
    have h1 := halv_ht k ((m + 1) / 2)
    have h2 := halv_ht k (m + 1 - (m + 1) / 2 - 1)
    show max (halv k ((m + 1) / 2)).ht (halv k (m + 1 - (m + 1) / 2 - 1)).ht + 1 ≤ k + 1
    omega
/-- the trees, with a node between each two -/
def joinT : Nat → List Tr → Tr
  | 0, _ => .nil
  | n + 1, ts => if ts.length = 1 then ts.headD .nil else .nod (joinT n (ts.take (ts.length / 2))) (joinT n (ts.drop (ts.length / 2)))
/-- how many nodes that makes -/
def wide : List Tr → Nat
  | [] => 0
  | [t] => t.size
  | t :: r => t.size + 1 + wide r
theorem wide_app : ∀ (a b : List Tr), a ≠ [] → b ≠ [] → wide (a ++ b) = wide a + 1 + wide b
  | [], _, h, _ => absurd rfl h
  | [t], [], _, h => absurd rfl h
  | [t], u :: r, _, _ => rfl
  | t :: u :: r, b, _, hb => by
    have ih := wide_app (u :: r) b (by simp) hb
    show t.size + 1 + wide ((u :: r) ++ b) = t.size + 1 + wide (u :: r) + 1 + wide b
    rw [ih]
    omega
theorem take_ne {α : Type} {l : List α} (h : 2 ≤ l.length) : l.take (l.length / 2) ≠ [] := fun z => by
  have := congrArg List.length z
  rw [List.length_take, List.length_nil] at this
  omega
theorem drop_ne {α : Type} {l : List α} (h : 2 ≤ l.length) : l.drop (l.length / 2) ≠ [] := fun z => by
  have := congrArg List.length z
  rw [List.length_drop, List.length_nil] at this
  omega
theorem half_len {n : Nat} {α : Type} {l : List α} (h : l.length ≤ 2 ^ (n + 1)) : (l.take (l.length / 2)).length ≤ 2 ^ n ∧ (l.drop (l.length / 2)).length ≤ 2 ^ n := by
  have e : 2 ^ (n + 1) = 2 ^ n * 2 := Nat.pow_succ 2 n
  rw [List.length_take, List.length_drop]
  omega
theorem one_list {α : Type} {l : List α} (h : l ≠ []) (h2 : l.length ≤ 2 ^ 0) : ∃ t, l = [t] := by
  match l, h, h2 with
  | [], h, _ => exact absurd rfl h
  | [t], _, _ => exact ⟨t, rfl⟩
  | _ :: _ :: r, _, h2 =>
    have e : 2 ^ 0 = 1 := rfl
    rw [List.length_cons, List.length_cons] at h2
    omega
/-- what joinT makes, by halves -/
theorem join_ind {P : Nat → List Tr → Tr → Prop} (h1 : ∀ n t, P (n + 1) [t] t) (h2 : ∀ n a b x y, a ≠ [] → b ≠ [] → P n a x → P n b y → P (n + 1) (a ++ b) (.nod x y)) : ∀ (n : Nat) (ts : List Tr), ts ≠ [] → ts.length ≤ 2 ^ n → P (n + 1) ts (joinT (n + 1) ts)
  | 0, ts, hne, hl => by
    obtain ⟨t, rfl⟩ := one_list hne hl
    exact h1 0 t
  | n + 1, ts, hne, hl => by
    by_cases c : ts.length = 1
    · obtain ⟨t, rfl⟩ := one_list hne (Nat.le_of_eq c)
      exact h1 (n + 1) t
    · have c2 : 2 ≤ ts.length := by
        cases ts with
        | nil => exact absurd rfl hne
        | cons a r =>
          rw [List.length_cons] at c ⊢
          omega
      obtain ⟨l1, l2⟩ := half_len hl
      have a := join_ind h1 h2 n (ts.take (ts.length / 2)) (take_ne c2) l1
      have b := join_ind h1 h2 n (ts.drop (ts.length / 2)) (drop_ne c2) l2
      have z := h2 (n + 1) _ _ _ _ (take_ne c2) (drop_ne c2) a b
      rw [List.take_append_drop] at z
      show P (n + 1 + 1) ts (if ts.length = 1 then ts.headD .nil else .nod (joinT (n + 1) (ts.take (ts.length / 2))) (joinT (n + 1) (ts.drop (ts.length / 2))))
      rw [if_neg c]
      exact z
theorem join_size (n : Nat) (ts : List Tr) (h : ts ≠ []) (hl : ts.length ≤ 2 ^ n) : (joinT (n + 1) ts).size = wide ts :=
  join_ind (P := fun _ ts t => t.size = wide ts) (fun _ _ => rfl) (fun n a b x y ha hb e1 e2 => by
    show x.size + 1 + y.size = wide (a ++ b)
    rw [wide_app a b ha hb, e1, e2]) n ts h hl
theorem join_ht (m : Nat) (n : Nat) (ts : List Tr) (h : ts ≠ []) (hl : ts.length ≤ 2 ^ n) (hm : ∀ t, t ∈ ts → t.ht ≤ m) : (joinT (n + 1) ts).ht ≤ n + m := by
  have z := join_ind (P := fun k ts t => (∀ u, u ∈ ts → u.ht ≤ m) → t.ht + 1 ≤ k + m) (fun n t hm => by
    have := hm t (List.mem_singleton.mpr rfl)
    omega) (fun n a b x y ha hb e1 e2 hm => by
    have h1 := e1 fun u hu => hm u (List.mem_append_left _ hu)
    have h2 := e2 fun u hu => hm u (List.mem_append_right _ hu)
    show max x.ht y.ht + 1 + 1 ≤ n + 1 + m
    omega) n ts h hl hm
  omega
end HSP
namespace HSP
open PySem PySem.Spec PyProof.Rows L2
/-! ## goals of a list -/
structure GoalOk (g r : Nat → Int) (n : Nat) : Prop where
  up : ∀ i, i + 1 < n → r i ≤ r (i + 1)
  st : ∀ i, i < n → (i = 0 ∨ r (i - 1) ≠ r i) → r i ≤ g i
  en : ∀ i, i < n → (i + 1 = n ∨ r (i + 1) ≠ r i) → g i ≤ r i
  ex : ∀ i, i < n → ∃ j, j < n ∧ r j = r i ∧ g j = r i
theorem clamp_ge {lo hi : Option Int} {v : Int} (s : Straight lo hi) (h : lo ≠ some (clamp lo hi v)) : clamp lo hi v ≤ v := by
  cases lo with
  | none => cases hi with
    | none => exact Int.le_refl _
    | some b =>
      show (if v ≥ b then b else v) ≤ v
      split <;> omega
  | some a => cases hi with
    | none =>
      have e : clamp (some a) none v = if v ≤ a then a else v := rfl
      rw [e] at h ⊢
      by_cases c : v ≤ a
      · rw [if_pos c] at h
        exact absurd rfl h
      · rw [if_neg c]
        exact Int.le_refl _
    | some b =>
      have e : clamp (some a) (some b) v = if v ≤ a then a else if v ≥ b then b else v := rfl
      rw [e] at h ⊢
      by_cases c : v ≤ a
      · rw [if_pos c] at h
        exact absurd rfl h
      · rw [if_neg c]
        split <;> omega
theorem clamp_le {lo hi : Option Int} {v : Int} (s : Straight lo hi) (h : hi ≠ some (clamp lo hi v)) : v ≤ clamp lo hi v := by
  cases hi with
  | none => cases lo with
    | none => exact Int.le_refl _
    | some a =>
      show v ≤ if v ≤ a then a else v
      split <;> omega
  | some b => cases lo with
    | none =>
      have e : clamp none (some b) v = if v ≥ b then b else v := rfl
      rw [e] at h ⊢
      by_cases c : v ≥ b
      · rw [if_pos c] at h
        exact absurd rfl h
      · rw [if_neg c]
        exact Int.le_refl _
    | some a =>
      have e : clamp (some a) (some b) v = if v ≤ a then a else if v ≥ b then b else v := rfl
      have ab := s a b rfl rfl
      rw [e] at h ⊢
      by_cases c : v ≤ a
      · rw [if_pos c]
        exact c
      · rw [if_neg c] at h ⊢
        by_cases d : v ≥ b
        · rw [if_pos d] at h
          exact absurd rfl h
        · rw [if_neg d]
          exact Int.le_refl _
theorem get_app {α : Type} {a b : List α} {c : α} {i : Nat} : (a ++ c :: b)[i]? = if i < a.length then a[i]? else if i = a.length then some c else b[i - a.length - 1]? := by
  by_cases h : i < a.length
  · rw [if_pos h, List.getElem?_append_left h]
  · rw [if_neg h, List.getElem?_append_right (by omega)]
    by_cases e : i = a.length
    · rw [if_pos e, e, Nat.sub_self]
      rfl
    · rw [if_neg e, show i - a.length = (i - a.length - 1) + 1 by omega, List.getElem?_cons_succ]
      rfl
theorem up_get {l : List Int} (h : l.Pairwise (· ≤ ·)) {i j : Nat} {x y : Int} (hij : i < j) (hx : l[i]? = some x) (hy : l[j]? = some y) : x ≤ y := by
  obtain ⟨h1, e1⟩ := List.getElem?_eq_some_iff.mp hx
  obtain ⟨h2, e2⟩ := List.getElem?_eq_some_iff.mp hy
  rw [← e1, ← e2]
  exact List.pairwise_iff_getElem.mp h i j h1 h2 hij
/-- a block of the representative starts at a value that is not less, ends at one that is not greater, and holds an equal one -/
theorem rep_blocks {g : Nat → Int} : ∀ (t : Tr) (f : Nat) (lo hi : Option Int), Straight lo hi →
    (∀ (i : Nat) (v : Int), (repOf g t f lo hi)[i]? = some v → lo ≠ some v → (i = 0 ∨ (repOf g t f lo hi)[i - 1]? ≠ some v) → v ≤ g (f + i)) ∧
    (∀ (i : Nat) (v : Int), (repOf g t f lo hi)[i]? = some v → hi ≠ some v → (repOf g t f lo hi)[i + 1]? ≠ some v → g (f + i) ≤ v) ∧
    ∀ (i : Nat) (v : Int), (repOf g t f lo hi)[i]? = some v → lo ≠ some v → hi ≠ some v → ∃ j : Nat, (repOf g t f lo hi)[j]? = some v ∧ g (f + j) = v
  | .nil, f, lo, hi, _ => ⟨fun i v h => (by cases h), fun i v h => (by cases h), fun i v h => (by cases h)⟩
  | .nod l r, f, lo, hi, s => by
    obtain ⟨s1, s2⟩ := clamp_in s (g (f + l.size))
    obtain ⟨a1, a2, a3⟩ := rep_blocks (g := g) l f lo (some (clamp lo hi (g (f + l.size)))) s1
    obtain ⟨b1, b2, b3⟩ := rep_blocks (g := g) r (f + l.size + 1) (some (clamp lo hi (g (f + l.size)))) hi s2
    obtain ⟨u1, m1⟩ := rep_in (g := g) l f lo (some (clamp lo hi (g (f + l.size)))) s1
    obtain ⟨u2, m2⟩ := rep_in (g := g) r (f + l.size + 1) (some (clamp lo hi (g (f + l.size)))) hi s2
    have ge : lo ≠ some (clamp lo hi (g (f + l.size))) → clamp lo hi (g (f + l.size)) ≤ g (f + l.size) := clamp_ge s
    have le : hi ≠ some (clamp lo hi (g (f + l.size))) → g (f + l.size) ≤ clamp lo hi (g (f + l.size)) := clamp_le s
    have ll := repOf_len g l f lo (some (clamp lo hi (g (f + l.size))))
    rw [repOf_nod]
    generalize clamp lo hi (g (f + l.size)) = c at *
    generalize repOf g l f lo (some c) = Rl at *
    generalize repOf g r (f + l.size + 1) (some c) hi = Rr at *
    have lowR : ∀ {j : Nat} {v : Int}, Rr[j]? = some v → c ≤ v := fun h => (m2 _ (List.mem_of_getElem? h)).1 c rfl
    have highL : ∀ {j : Nat} {v : Int}, Rl[j]? = some v → v ≤ c := fun h => (m1 _ (List.mem_of_getElem? h)).2 c rfl
    refine ⟨fun i v h hlo st => ?_, fun i v h hhi en => ?_, fun i v h hlo hhi => ?_⟩
    · rw [get_app] at h
      by_cases c1 : i < Rl.length
      · rw [if_pos c1] at h
        refine a1 i v h hlo (st.imp id fun q => ?_)
        rw [get_app, if_pos (by omega)] at q
        exact q
      · rw [if_neg c1] at h
        by_cases c2 : i = Rl.length
        · rw [if_pos c2] at h
          cases h
          rw [c2, ll]
          exact ge hlo
        · rw [if_neg c2] at h
          have cv : c ≠ v := fun z => by
            rcases st with q | q
            · omega
            · rw [get_app, if_neg (by omega)] at q
              by_cases c3 : i - 1 = Rl.length
              · rw [if_pos c3] at q
                exact q (congrArg some z)
              · rw [if_neg c3] at q
                obtain ⟨y, hy⟩ : ∃ y, Rr[i - 1 - Rl.length - 1]? = some y := ⟨_, List.getElem?_eq_getElem (by have := (List.getElem?_eq_some_iff.mp h).1; omega)⟩
                have h1 := up_get u2 (show i - 1 - Rl.length - 1 < i - Rl.length - 1 by omega) hy h
                have h2 := lowR hy
                rw [hy] at q
                exact q (congrArg some (by omega))
          have z := b1 (i - Rl.length - 1) v h (fun z => cv (Option.some.inj z)) (by
            by_cases c3 : i - Rl.length - 1 = 0
            · exact .inl c3
            · refine .inr ?_
              rcases st with q | q
              · omega
              · rw [get_app, if_neg (by omega), if_neg (by omega)] at q
                rw [show i - Rl.length - 1 - 1 = i - 1 - Rl.length - 1 by omega]
                exact q)
          rw [show f + l.size + 1 + (i - Rl.length - 1) = f + i by omega] at z
          exact z
    · rw [get_app] at h
      by_cases c1 : i < Rl.length
      · rw [if_pos c1] at h
        have cv : c ≠ v := fun z => by
          rw [get_app] at en
          by_cases c2 : i + 1 < Rl.length
          · rw [if_pos c2] at en
            obtain ⟨y, hy⟩ : ∃ y, Rl[i + 1]? = some y := ⟨_, List.getElem?_eq_getElem c2⟩
            have h1 := up_get u1 (Nat.lt_succ_self i) h hy
            have h2 := highL hy
            rw [hy] at en
            exact en (congrArg some (by omega))
          · rw [if_neg c2, if_pos (by omega)] at en
            exact en (congrArg some z)
        refine a2 i v h (fun z => cv (Option.some.inj z)) ?_
        by_cases c2 : i + 1 < Rl.length
        · rw [get_app, if_pos c2] at en
          exact en
        · rw [List.getElem?_eq_none (by omega)]
          exact fun z => by cases z
      · rw [if_neg c1] at h
        by_cases c2 : i = Rl.length
        · rw [if_pos c2] at h
          cases h
          rw [c2, ll]
          exact le hhi
        · rw [if_neg c2] at h
          have z := b2 (i - Rl.length - 1) v h hhi (by
            rw [get_app, if_neg (by omega), if_neg (by omega)] at en
            rw [show i - Rl.length - 1 + 1 = i + 1 - Rl.length - 1 by omega]
            exact en)
          rw [show f + l.size + 1 + (i - Rl.length - 1) = f + i by omega] at z
          exact z
    · by_cases cv : v = c
      · have h1 := ge (by rw [← cv]; exact hlo)
        have h2 := le (by rw [← cv]; exact hhi)
        refine ⟨Rl.length, ?_, by rw [ll]; omega⟩
        rw [get_app, if_neg (by omega), if_pos rfl, cv]
      · rw [get_app] at h
        by_cases c1 : i < Rl.length
        · rw [if_pos c1] at h
          obtain ⟨j, h1, h2⟩ := a3 i v h hlo (fun z => cv (Option.some.inj z).symm)
          refine ⟨j, ?_, h2⟩
          rw [get_app, if_pos (List.getElem?_eq_some_iff.mp h1).1]
          exact h1
        · rw [if_neg c1] at h
          by_cases c2 : i = Rl.length
          · rw [if_pos c2] at h
            exact absurd (Option.some.inj h).symm cv
          · rw [if_neg c2] at h
            obtain ⟨j, h1, h2⟩ := b3 _ v h (fun z => cv (Option.some.inj z).symm) hhi
            refine ⟨Rl.length + 1 + j, ?_, ?_⟩
            · rw [get_app, if_neg (by omega), if_neg (by omega), show Rl.length + 1 + j - Rl.length - 1 = j by omega]
              exact h1
            · rw [← h2]
              exact congrArg g (by omega)
theorem rep_goal {g : Nat → Int} {t : Tr} {n : Nat} (hn : t.size = n) {r : Nat → Int} (hr : ∀ i, i < n → (repOf g t 0 none none)[i]? = some (r i)) : GoalOk g r n := by
  obtain ⟨a, b, c⟩ := rep_blocks (g := g) t 0 none none straight_none
  have up := (rep_in (g := g) t 0 none none straight_none).1
  have len := repOf_len g t 0 none none
  generalize repOf g t 0 none none = R at *
  refine ⟨fun i h => up_get up (Nat.lt_succ_self i) (hr i (by omega)) (hr (i + 1) h), fun i h st => ?_, fun i h en => ?_, fun i h => ?_⟩
  · have z := a i (r i) (hr i h) (fun z => by cases z) (by
      by_cases c : i = 0
      · exact .inl c
      · refine .inr ?_
        rw [hr (i - 1) (by omega)]
        exact fun z => (st.resolve_left c) (Option.some.inj z))
    rw [Nat.zero_add] at z
    exact z
  · have z := b i (r i) (hr i h) (fun z => by cases z) (by
      by_cases c : i + 1 < n
      · rw [hr (i + 1) c]
        exact fun z => (en.resolve_left (by omega)) (Option.some.inj z)
      · rw [List.getElem?_eq_none (by omega)]
        exact fun z => by cases z)
    rw [Nat.zero_add] at z
    exact z
  · obtain ⟨j, h1, h2⟩ := c i (r i) (hr i h) (fun z => by cases z) (fun z => by cases z)
    have hj := (List.getElem?_eq_some_iff.mp h1).1
    rw [Nat.zero_add] at h2
    rw [hr j (by omega)] at h1
    exact ⟨j, by omega, Option.some.inj h1, h2⟩
end HSP
namespace HSP
open PySem PySem.Spec PyProof.Rows L2
/-! ## a tree for a goal -/
def hiT (high : Nat) : Tr := if 0 < high then .nod .nil (halv 8 (high - 1)) else .nil
def passT (low high : Nat) : Tr := if 0 < low then .nod (halv 8 (low - 1)) (hiT high) else hiT high
theorem hiT_size {m : Nat} (h : m ≤ 64) : (hiT m).size = m := by
  unfold hiT
  by_cases c : 0 < m
  · rw [if_pos c]
    show 0 + 1 + (halv 8 (m - 1)).size = m
    rw [halv_size 7 _ (by show m - 1 < 128; omega)]
    omega
  · rw [if_neg c]
    show 0 = m
    omega
theorem passT_size {a b : Nat} (ha : a ≤ 64) (hb : b ≤ 64) : (passT a b).size = a + b := by
  unfold passT
  by_cases c : 0 < a
  · rw [if_pos c]
    show (halv 8 (a - 1)).size + 1 + (hiT b).size = a + b
    rw [halv_size 7 _ (by show a - 1 < 128; omega), hiT_size hb]
    omega
  · rw [if_neg c, hiT_size hb]
    omega
theorem passT_ht (a b : Nat) : (passT a b).ht ≤ 10 := by
  have h1 := halv_ht 8 (a - 1)
  have h2 := halv_ht 8 (b - 1)
  have h3 : (hiT b).ht ≤ 9 := by
    unfold hiT
    split
    · show max 0 (halv 8 (b - 1)).ht + 1 ≤ 9
      omega
    · exact Nat.zero_le _
  unfold passT
  split
  · show max (halv 8 (a - 1)).ht (hiT b).ht + 1 ≤ 10
    omega
  · omega
theorem rep_dead (g : Nat → Int) (v : Int) : ∀ (t : Tr) (f : Nat), repOf g t f (some v) (some v) = List.replicate t.size v
  | .nil, _ => rfl
  | .nod l r, f => by
    have c : ∀ x, clamp (some v) (some v) x = v := fun x => by
      show (if x ≤ v then v else if x ≥ v then v else x) = v
      split
      · rfl
      · split
        · rfl
        · omega
    rw [repOf_nod, c, rep_dead g v l, rep_dead g v r]
    show _ = List.replicate (l.size + 1 + r.size) v
    rw [show v :: List.replicate r.size v = List.replicate (1 + r.size) v by rw [Nat.add_comm]; rfl, List.replicate_append_replicate, Nat.add_assoc]
theorem rep_hi {g : Nat → Int} {f m : Nat} {lo hi : Option Int} {b : Int} (hm : m ≤ 64) (s : Straight lo hi) (h : 0 < m → hi = some b ∧ b ≤ g f) : repOf g (hiT m) f lo hi = List.replicate m b := by
  unfold hiT
  by_cases c : 0 < m
  · obtain ⟨e, h2⟩ := h c
    rw [if_pos c, repOf_nod]
    have ec : clamp lo hi (g (f + Tr.nil.size)) = b := by
      show clamp lo hi (g (f + 0)) = b
      rw [e, Nat.add_zero]
      cases lo with
      | none =>
        show (if g f ≥ b then b else g f) = b
        rw [if_pos h2]
      | some l =>
        have := s l b rfl e
        show (if g f ≤ l then l else if g f ≥ b then b else g f) = b
        by_cases c2 : g f ≤ l
        · rw [if_pos c2]
          omega
        · rw [if_neg c2, if_pos h2]
    rw [ec, e, rep_dead, halv_size 7 _ (by show m - 1 < 128; omega)]
    show b :: List.replicate (m - 1) b = _
    rw [show m = (m - 1) + 1 by omega]
    rfl
  · rw [if_neg c, show m = 0 by omega]
    rfl
theorem rep_pass {g : Nat → Int} {f low high : Nat} {lo hi : Option Int} {a b : Int} (h1 : low ≤ 64) (h2 : high ≤ 64) (s : Straight lo hi) (hl : 0 < low → lo = some a ∧ g (f + low - 1) ≤ a) (hh : 0 < high → hi = some b ∧ b ≤ g (f + low)) :
    repOf g (passT low high) f lo hi = List.replicate low a ++ List.replicate high b := by
  unfold passT
  by_cases c : 0 < low
  · obtain ⟨e, q⟩ := hl c
    have hs : (halv 8 (low - 1)).size = low - 1 := halv_size 7 _ (by show low - 1 < 128; omega)
    rw [if_pos c, repOf_nod, hs]
    have ec : clamp lo hi (g (f + (low - 1))) = a := by
      rw [e, show f + (low - 1) = f + low - 1 by omega]
      cases hi with
      | none =>
        show (if g (f + low - 1) ≤ a then a else g (f + low - 1)) = a
        rw [if_pos q]
      | some d =>
        show (if g (f + low - 1) ≤ a then a else _) = a
        rw [if_pos q]
    rw [ec, e, rep_dead, hs, rep_hi h2 (fun l h x y => by cases x; exact s a h e y) (fun q => by rw [show f + (low - 1) + 1 = f + low by omega]; exact hh q)]
    rw [show a :: List.replicate high b = [a] ++ List.replicate high b from rfl, ← List.append_assoc, show List.replicate (low - 1) a ++ [a] = List.replicate low a by
      rw [show low = (low - 1) + 1 by omega, List.replicate_succ']
      rfl]
  · rw [if_neg c, show low = 0 by omega]
    exact rep_hi h2 s fun q => by
      have := hh q
      rw [show low = 0 by omega] at this
      exact this
/-! ### parts put together -/
def flatRep (g : Nat → Int) : Nat → Option Int → Option Int → List Tr → List Int
  | _, _, _, [] => []
  | f, lo, hi, [t] => repOf g t f lo hi
  | f, lo, hi, t :: u :: r => repOf g t f lo (some (g (f + t.size))) ++ g (f + t.size) :: flatRep g (f + t.size + 1) (some (g (f + t.size))) hi (u :: r)
def IncG (g : Nat → Int) : Nat → Option Int → Option Int → List Tr → Prop
  | _, _, _, [] => True
  | _, _, _, [_] => True
  | f, lo, hi, t :: u :: r => downTo lo (g (f + t.size)) ∧ upTo hi (g (f + t.size)) ∧ IncG g (f + t.size + 1) (some (g (f + t.size))) hi (u :: r)
theorem inc_app {g : Nat → Int} : ∀ (a b : List Tr) (f : Nat) (lo hi : Option Int), a ≠ [] → b ≠ [] → IncG g f lo hi (a ++ b) →
    downTo lo (g (f + wide a)) ∧ upTo hi (g (f + wide a)) ∧ IncG g f lo (some (g (f + wide a))) a ∧ IncG g (f + wide a + 1) (some (g (f + wide a))) hi b
  | [], _, _, _, _, h, _, _ => absurd rfl h
  | [t], [], _, _, _, _, h, _ => absurd rfl h
  | [t], u :: r, f, lo, hi, _, _, h => ⟨h.1, h.2.1, trivial, h.2.2⟩
  | t :: u :: r, b, f, lo, hi, _, hb, h => by
    have h' : downTo lo (g (f + t.size)) ∧ upTo hi (g (f + t.size)) ∧ IncG g (f + t.size + 1) (some (g (f + t.size))) hi ((u :: r) ++ b) := h
    obtain ⟨h1, h2, h3⟩ := h'
    obtain ⟨i1, i2, i3, i4⟩ := inc_app (u :: r) b (f + t.size + 1) (some (g (f + t.size))) hi (List.cons_ne_nil _ _) hb h3
    have e : f + wide (t :: u :: r) = f + t.size + 1 + wide (u :: r) := by
      show f + (t.size + 1 + wide (u :: r)) = _
      omega
    rw [e]
    have le := i1 _ rfl
    exact ⟨fun l q => Int.le_trans (h1 l q) le, i2, ⟨h1, fun x q => by cases q; exact le, i3⟩, i4⟩
theorem flat_app {g : Nat → Int} : ∀ (a b : List Tr) (f : Nat) (lo hi : Option Int), a ≠ [] → b ≠ [] → flatRep g f lo hi (a ++ b) = flatRep g f lo (some (g (f + wide a))) a ++ g (f + wide a) :: flatRep g (f + wide a + 1) (some (g (f + wide a))) hi b
  | [], _, _, _, _, h, _ => absurd rfl h
  | [t], [], _, _, _, _, h => absurd rfl h
  | [t], u :: r, f, lo, hi, _, _ => rfl
  | t :: u :: r, b, f, lo, hi, _, hb => by
    have ih := flat_app (g := g) (u :: r) b (f + t.size + 1) (some (g (f + t.size))) hi (List.cons_ne_nil _ _) hb
    have e : f + wide (t :: u :: r) = f + t.size + 1 + wide (u :: r) := by
      show f + (t.size + 1 + wide (u :: r)) = _
      omega
    show repOf g t f lo (some (g (f + t.size))) ++ g (f + t.size) :: flatRep g (f + t.size + 1) (some (g (f + t.size))) hi ((u :: r) ++ b) = _
    rw [ih, e]
    show _ = (repOf g t f lo (some (g (f + t.size))) ++ g (f + t.size) :: flatRep g (f + t.size + 1) (some (g (f + t.size))) (some (g (f + t.size + 1 + wide (u :: r)))) (u :: r)) ++ _
    rw [List.append_assoc]
    rfl
theorem join_rep {g : Nat → Int} (n : Nat) (ts : List Tr) (h : ts ≠ []) (hl : ts.length ≤ 2 ^ n) (f : Nat) (lo hi : Option Int) (hi' : IncG g f lo hi ts) : repOf g (joinT (n + 1) ts) f lo hi = flatRep g f lo hi ts := by
  have z := join_ind (P := fun _ ts t => t.size = wide ts ∧ ∀ f lo hi, IncG g f lo hi ts → repOf g t f lo hi = flatRep g f lo hi ts) (fun _ t => ⟨rfl, fun f lo hi _ => rfl⟩) (fun k a b s t ha hb ⟨z1, h1⟩ ⟨z2, h2⟩ => by
    refine ⟨by show s.size + 1 + t.size = wide (a ++ b); rw [wide_app a b ha hb, z1, z2], fun f lo hi q => ?_⟩
    obtain ⟨i1, i2, i3, i4⟩ := inc_app a b f lo hi ha hb q
    rw [flat_app a b f lo hi ha hb, repOf_nod, z1, clamp_id i1 i2, h1 f lo _ i3, h2 _ _ hi i4]) n ts h hl
  exact z.2 f lo hi hi'
/-! ### the blocks of a goal -/
def Chain (r : Nat → Int) : Nat → List (Nat × Nat) → Nat → Prop
  | a, [], n => a = n
  | a, (x, y) :: rest, n => x = a ∧ a < y ∧ y ≤ n ∧ (∀ i, a ≤ i → i < y → r i = r a) ∧ (y < n → r y ≠ r (y - 1)) ∧ Chain r y rest n
def isFirst (r : Nat → Int) (i : Nat) : Bool := decide (i = 0) || !decide (r (i - 1) = r i)
def firstsOf (r : Nat → Int) (n : Nat) : List Nat := (List.range n).filter (isFirst r)
def pairsOf (r : Nat → Int) (n : Nat) : List (Nat × Nat) := (firstsOf r n).zip ((firstsOf r n).drop 1 ++ [n])
theorem const_to {r : Nat → Int} {a y : Nat} (h : ∀ i, a < i → i < y → r (i - 1) = r i) : ∀ (k i : Nat), i = a + k → i < y → r i = r a
  | 0, i, e, _ => by rw [e]; rfl
  | k + 1, i, e, hy => by
    have ih := const_to h k (i - 1) (by omega) (by omega)
    rw [← h i (by omega) hy]
    exact ih
theorem chain_of {r : Nat → Int} {n : Nat} : ∀ (l : List Nat) (a : Nat), a < n → (a :: l).Pairwise (· < ·) → (∀ i, i ∈ l → i < n) → (∀ i, a < i → i < n → (r (i - 1) ≠ r i ↔ i ∈ l)) → Chain r a ((a :: l).zip (l ++ [n])) n
  | [], a, ha, _, _, h => by
    refine ⟨rfl, ha, Nat.le_refl _, fun i h1 h2 => const_to (fun i h3 h4 => ?_) (i - a) i (by omega) h2, fun q => absurd q (Nat.lt_irrefl _), rfl⟩
    by_cases e : r (i - 1) = r i
    · exact e
    · exact absurd ((h i h3 h4).mp e) (by simp)
  | b :: l, a, ha, hp, hl, h => by
    obtain ⟨p1, p2⟩ := List.pairwise_cons.mp hp
    obtain ⟨p3, p4⟩ := List.pairwise_cons.mp p2
    have ab := p1 b List.mem_cons_self
    have bn := hl b List.mem_cons_self
    have ih := chain_of l b bn p2 (fun i hi => hl i (List.mem_cons_of_mem _ hi)) fun i h1 h2 => by
      rw [h i (by omega) h2]
      constructor
      · intro q
        rcases List.mem_cons.mp q with q | q
        · omega
        · exact q
      · exact fun q => List.mem_cons_of_mem _ q
    refine ⟨rfl, ab, Nat.le_of_lt bn, fun i h1 h2 => const_to (fun i h3 h4 => ?_) (i - a) i (by omega) h2, fun _ => fun z => ((h b ab bn).mpr List.mem_cons_self) z.symm, ih⟩
    by_cases e : r (i - 1) = r i
    · exact e
    · rcases List.mem_cons.mp ((h i h3 (by omega)).mp e) with q | q
      · omega
      · have := p3 i q
        omega
theorem chain_pairs (r : Nat → Int) (n : Nat) : Chain r 0 (pairsOf r n) n := by
  by_cases c : n = 0
  · rw [c]
    rfl
  have hp : (firstsOf r n).Pairwise (· < ·) := (List.pairwise_lt_range (n := n)).sublist List.filter_sublist
  have h0 : 0 ∈ firstsOf r n := List.mem_filter.mpr ⟨List.mem_range.mpr (by omega), rfl⟩
  unfold pairsOf
  have mem : ∀ i, i ∈ firstsOf r n → i < n := fun i hi => List.mem_range.mp (List.mem_filter.mp hi).1
  have iff : ∀ i, 0 < i → i < n → (r (i - 1) ≠ r i ↔ i ∈ firstsOf r n) := fun i h1 h2 => by
    unfold firstsOf
    rw [List.mem_filter, List.mem_range]
    unfold isFirst
    rw [decide_eq_false (show ¬ i = 0 by omega), Bool.false_or]
    simp [h2]
  cases e : firstsOf r n with
  | nil =>
    rw [e] at h0
    cases h0
  | cons x l =>
    rw [e] at hp h0 mem iff
    have x0 : x = 0 := by
      rcases List.mem_cons.mp h0 with q | q
      · exact q.symm
      · have := (List.pairwise_cons.mp hp).1 0 q
        omega
    rw [x0] at hp mem iff ⊢
    refine chain_of l 0 (by omega) hp (fun i hi => mem i (List.mem_cons_of_mem _ hi)) fun i h1 h2 => ?_
    rw [iff i h1 h2]
    constructor
    · intro q
      rcases List.mem_cons.mp q with q | q
      · omega
      · exact q
    · exact fun q => List.mem_cons_of_mem _ q
/-! ### the tree -/
def findIn (g r : Nat → Int) (a b : Nat) : Option Nat := if g a < r a ∨ g (b - 1) > r a then none else (List.range (b - a)).find? fun k => decide (g (a + k) = r a)
def partsFrom (g r : Nat → Int) : List (Nat × Nat) → Nat → Option (List Tr)
  | [], low => some [passT low 0]
  | (a, b) :: rest, low => match findIn g r a b with
    | none => none
    | some p => (partsFrom g r rest (b - a - p - 1)).map (passT low p :: ·)
theorem find_in {g r : Nat → Int} {a b p : Nat} (h : findIn g r a b = some p) : r a ≤ g a ∧ g (b - 1) ≤ r a ∧ p < b - a ∧ g (a + p) = r a := by
  unfold findIn at h
  by_cases c : g a < r a ∨ g (b - 1) > r a
  · rw [if_pos c] at h
    cases h
  · rw [if_neg c] at h
    obtain ⟨h1, h2, _⟩ := List.find?_range_eq_some.mp h
    exact ⟨by omega, by omega, List.mem_range.mp h2, of_decide_eq_true h1⟩
theorem parts_ne {g r : Nat → Int} : ∀ {ps : List (Nat × Nat)} {low : Nat} {ts : List Tr}, partsFrom g r ps low = some ts → ts ≠ []
  | [], low, ts, h => by
    cases h
    exact List.cons_ne_nil _ _
  | (a, b) :: rest, low, ts, h => by
    have h' : (match findIn g r a b with | none => none | some p => (partsFrom g r rest (b - a - p - 1)).map (passT low p :: ·)) = some ts := h
    cases e : findIn g r a b with
    | none => rw [e] at h'; cases h'
    | some p =>
      rw [e] at h'
      obtain ⟨ts', _, rfl⟩ := Option.map_eq_some_iff.mp h'
      exact List.cons_ne_nil _ _
theorem parts_rep {g r : Nat → Int} {n : Nat} (hn : n ≤ 64) (up : ∀ i, i + 1 < n → r i ≤ r (i + 1)) : ∀ (ps : List (Nat × Nat)) (a low : Nat) (lo : Option Int) (v : Int) (ts : List Tr), Chain r a ps n → partsFrom g r ps low = some ts → low ≤ a →
    (a < n → downTo lo (r a)) → (0 < low → lo = some v ∧ g (a - 1) ≤ v) → IncG g (a - low) lo none ts ∧ flatRep g (a - low) lo none ts = List.replicate low v ++ (List.range (n - a)).map (fun i => r (a + i)) ∧ a - low + wide ts = n ∧ ts.length ≤ n - a + 1 ∧ ∀ t, t ∈ ts → t.ht ≤ 10
  | [], a, low, lo, v, ts, hc, h, hla, _, hl => by
    cases h
    have e : a = n := hc
    refine ⟨trivial, ?_, ?_, Nat.le_add_left _ _, fun t ht => by rw [List.mem_singleton.mp ht]; exact passT_ht low 0⟩
    · show repOf g (passT low 0) (a - low) lo none = _
      rw [rep_pass (a := v) (b := 0) (by omega) (Nat.zero_le _) (fun l h _ q => by cases q) (fun q => by rw [show a - low + low - 1 = a - 1 by omega]; exact hl q) (fun q => absurd q (Nat.lt_irrefl 0)), show n - a = 0 by omega]
      rfl
    · show a - low + (passT low 0).size = n
      rw [passT_size (by omega) (Nat.zero_le _)]
      omega
  | (x, y) :: rest, a, low, lo, v, ts, hc, h, hla, hd, hl => by
    obtain ⟨rfl, c1, c2, c3, c4, c5⟩ := hc
    have h' : (match findIn g r x y with | none => none | some p => (partsFrom g r rest (y - x - p - 1)).map (passT low p :: ·)) = some ts := h
    cases e : findIn g r x y with
    | none => rw [e] at h'; cases h'
    | some p =>
      rw [e] at h'
      obtain ⟨ts', ht', rfl⟩ := Option.map_eq_some_iff.mp h'
      obtain ⟨f1, f2, f3, f4⟩ := find_in e
      have last : r (y - 1) = r x := c3 (y - 1) (by omega) (by omega)
      obtain ⟨i1, i2, i3, i4, i5⟩ := parts_rep hn up rest y (y - x - p - 1) (some (r x)) (r x) ts' c5 ht' (by omega) (fun q l z => by
        cases z
        have := up (y - 1) (by omega)
        rw [last, show y - 1 + 1 = y by omega] at this
        exact this) (fun _ => ⟨rfl, f2⟩)
      have ne := parts_ne ht'
      have ea : y - (y - x - p - 1) = x + p + 1 := by omega
      rw [ea] at i1 i2 i3
      have sz : (passT low p).size = low + p := passT_size (by omega) (by omega)
      have es : x - low + (passT low p).size = x + p := by
        rw [sz]
        omega
      cases ts' with
      | nil => exact absurd rfl ne
      | cons u w =>
        refine ⟨?_, ?_, ?_, ?_, fun t ht => ?_⟩
        · show downTo lo (g (x - low + (passT low p).size)) ∧ upTo none (g (x - low + (passT low p).size)) ∧ IncG g (x - low + (passT low p).size + 1) (some (g (x - low + (passT low p).size))) none (u :: w)
          rw [es, f4]
          exact ⟨hd (by omega), fun l z => (by cases z), i1⟩
        · show repOf g (passT low p) (x - low) lo (some (g (x - low + (passT low p).size))) ++ g (x - low + (passT low p).size) :: flatRep g (x - low + (passT low p).size + 1) (some (g (x - low + (passT low p).size))) none (u :: w) = _
          rw [es, f4, i2, rep_pass (a := v) (b := r x) (by omega) (by omega) (fun l h z1 z2 => by cases z2; exact hd (by omega) l z1) (fun q => by rw [show x - low + low - 1 = x - 1 by omega]; exact hl q) (fun _ => ⟨rfl, by rw [show x - low + low = x by omega]; exact f1⟩)]
          rw [List.append_assoc]
          congr 1
          have split : (List.range (n - x)).map (fun i => r (x + i)) = List.replicate (y - x) (r x) ++ (List.range (n - y)).map (fun i => r (y + i)) := by
            rw [show n - x = (y - x) + (n - y) by omega, List.range_add, List.map_append, List.map_map]
            congr 1
            · refine List.ext_getElem (by simp) fun i q1 q2 => ?_
              rw [List.length_map, List.length_range] at q1
              rw [List.getElem_map, List.getElem_range, List.getElem_replicate]
              exact c3 (x + i) (by omega) (by omega)
            · exact List.map_congr_left fun i _ => congrArg r (by show x + (y - x + i) = y + i; omega)
          rw [split, show y - x = p + (1 + (y - x - p - 1)) by omega, ← List.replicate_append_replicate, ← List.replicate_append_replicate, show p + (1 + (y - x - p - 1)) - p - 1 = y - x - p - 1 by omega, List.append_assoc, List.append_assoc]
          rfl
        · show x - low + ((passT low p).size + 1 + wide (u :: w)) = n
          omega
        · rw [List.length_cons]
          omega
        · rcases List.mem_cons.mp ht with q | q
          · rw [q]
            exact passT_ht low p
          · exact i5 t q
def treeFor (g r : Nat → Int) (n : Nat) : Option Tr := (partsFrom g r (pairsOf r n) 0).map (joinT 8)
theorem tree_for {g r : Nat → Int} {n : Nat} {t : Tr} (hn : n ≤ 64) (up : ∀ i, i + 1 < n → r i ≤ r (i + 1)) (h : treeFor g r n = some t) : repOf g t 0 none none = (List.range n).map r ∧ t.size = n ∧ t.ht ≤ 17 := by
  obtain ⟨ts, ht, rfl⟩ := Option.map_eq_some_iff.mp h
  obtain ⟨i1, i2, i3, i4, i5⟩ := parts_rep hn up (pairsOf r n) 0 0 none 0 ts (chain_pairs r n) ht (Nat.le_refl _) (fun _ l z => by cases z) (fun q => absurd q (Nat.lt_irrefl 0))
  have ne := parts_ne ht
  have few : ts.length ≤ 2 ^ 7 := by
    show ts.length ≤ 128
    omega
  rw [Nat.sub_zero] at i1 i2 i3 i4
  refine ⟨?_, ?_, ?_⟩
  · rw [join_rep 7 ts ne few 0 none none i1, i2]
    show [] ++ _ = _
    rw [List.nil_append]
    exact List.map_congr_left fun i _ => congrArg r (Nat.zero_add i)
  · rw [join_size 7 ts ne few]
    omega
  · exact join_ht 10 7 ts ne few i5
/-- where the three looks at each block succeed, there is one -/
theorem parts_some {g r : Nat → Int} {n : Nat} (ok : GoalOk g r n) : ∀ (ps : List (Nat × Nat)) (a low : Nat), Chain r a ps n → (a = 0 ∨ a = n ∨ r (a - 1) ≠ r a) → partsFrom g r ps low ≠ none
  | [], a, low, _, _ => fun z => by cases z
  | (x, y) :: rest, a, low, hc, hs => by
    obtain ⟨rfl, c1, c2, c3, c4, c5⟩ := hc
    have xn : x < n := by omega
    have mono : ∀ (k i : Nat), i + k < n → r i ≤ r (i + k) := fun k => by
      induction k with
      | zero => intro i _; exact Int.le_refl _
      | succ k ih =>
        intro i h
        exact Int.le_trans (ih i (by omega)) (ok.up (i + k) h)
    have st : r x ≤ g x := ok.st x xn (by
      rcases hs with q | q | q
      · exact .inl q
      · omega
      · exact .inr q)
    have last : r (y - 1) = r x := c3 (y - 1) (by omega) (by omega)
    have en : g (y - 1) ≤ r x := by
      rw [← last]
      refine ok.en (y - 1) (by omega) ?_
      by_cases q : y < n
      · refine .inr ?_
        rw [show y - 1 + 1 = y by omega]
        exact c4 q
      · exact .inl (by omega)
    obtain ⟨j, j1, j2, j3⟩ := ok.ex x xn
    have hj : x ≤ j ∧ j < y := by
      constructor
      · by_cases q : x ≤ j
        · exact q
        · have h1 := mono (x - 1 - j) j (by omega)
          rw [show j + (x - 1 - j) = x - 1 by omega] at h1
          have h2 := mono 1 (x - 1) (by omega)
          rw [show x - 1 + 1 = x by omega] at h2
          rcases hs with z | z | z
          · omega
          · omega
          · exact absurd (by omega) z
      · by_cases q : j < y
        · exact q
        · have h1 := mono (j - y) y (by omega)
          rw [show y + (j - y) = j by omega] at h1
          have h2 := mono 1 (y - 1) (by omega)
          rw [show y - 1 + 1 = y by omega] at h2
          exact absurd (by omega) (c4 (by omega))
    have e : findIn g r x y ≠ none := by
      unfold findIn
      rw [if_neg (by omega)]
      intro z
      have := List.find?_range_eq_none.mp z (j - x) (by omega)
      rw [show x + (j - x) = j by omega, decide_eq_true j3] at this
      cases this
    intro z
    have z' : (match findIn g r x y with | none => none | some p => (partsFrom g r rest (y - x - p - 1)).map (passT low p :: ·)) = none := z
    cases e2 : findIn g r x y with
    | none => exact e e2
    | some p =>
      rw [e2] at z'
      exact parts_some ok rest y (y - x - p - 1) c5 (by
        by_cases q : y < n
        · exact .inr (.inr (Ne.symm (c4 q)))
        · exact .inr (.inl (by omega))) (Option.map_eq_none_iff.mp z')
theorem tree_some {g r : Nat → Int} {n : Nat} (ok : GoalOk g r n) : treeFor g r n ≠ none := fun z =>
  parts_some ok (pairsOf r n) 0 0 (chain_pairs r n) (.inl rfl) (Option.map_eq_none_iff.mp z)
end HSP
namespace HSP
open PySem PySem.Spec PyProof.Rows L2
/-! ### all trees of so many nodes -/
def trees : Nat → Nat → List Tr
  | _, 0 => [.nil]
  | 0, _ + 1 => []
  | f + 1, n + 1 => (List.range (n + 1)).flatMap fun a => (trees f a).flatMap fun l => (trees f (n - a)).map fun r => .nod l r
theorem trees_all : ∀ (f : Nat) (t : Tr), t.size ≤ f → t ∈ trees f t.size
  | 0, .nil, _ => List.mem_singleton.mpr rfl
  | _ + 1, .nil, _ => List.mem_singleton.mpr rfl
  | 0, .nod l r, h => by
    have : l.size + 1 + r.size ≤ 0 := h
    omega
  | f + 1, .nod l r, h => by
    have h' : l.size + 1 + r.size ≤ f + 1 := h
    have e : (Tr.nod l r).size = (l.size + r.size) + 1 := by
      show l.size + 1 + r.size = _
      omega
    rw [e]
    show Tr.nod l r ∈ (List.range (l.size + r.size + 1)).flatMap fun a => (trees f a).flatMap fun l' => (trees f (l.size + r.size - a)).map fun r' => Tr.nod l' r'
    refine List.mem_flatMap.mpr ⟨l.size, List.mem_range.mpr (by omega), List.mem_flatMap.mpr ⟨l, trees_all f l (by omega), List.mem_map.mpr ⟨r, ?_, rfl⟩⟩⟩
    have e2 : l.size + r.size - l.size = r.size := by omega
    rw [e2]
    exact trees_all f r (by omega)
theorem trees_size : ∀ (f n : Nat) (t : Tr), t ∈ trees f n → t.size = n
  | 0, 0, t, h => by rw [List.mem_singleton.mp h]; rfl
  | _ + 1, 0, t, h => by rw [List.mem_singleton.mp h]; rfl
  | 0, _ + 1, t, h => by cases h
  | f + 1, n + 1, t, h => by
    obtain ⟨a, ha, h⟩ := List.mem_flatMap.mp h
    obtain ⟨l, hl, h⟩ := List.mem_flatMap.mp h
    obtain ⟨r, hr, rfl⟩ := List.mem_map.mp h
    have h1 := List.mem_range.mp ha
    have h2 := trees_size f a l hl
    have h3 := trees_size f (n - a) r hr
    show l.size + 1 + r.size = n + 1
    omega
theorem flatMap_same {α β : Type} {f g : α → List β} : ∀ {l : List α}, (∀ x, x ∈ l → f x = g x) → l.flatMap f = l.flatMap g
  | [], _ => rfl
  | x :: r, h => by rw [List.flatMap_cons, List.flatMap_cons, h x List.mem_cons_self, flatMap_same fun y hy => h y (List.mem_cons_of_mem _ hy)]
/-- more room makes no more trees -/
theorem trees_same : ∀ (f g n : Nat), n ≤ f → n ≤ g → trees f n = trees g n
  | 0, 0, 0, _, _ => rfl
  | 0, _ + 1, 0, _, _ => rfl
  | _ + 1, 0, 0, _, _ => rfl
  | _ + 1, _ + 1, 0, _, _ => rfl
  | 0, _, _ + 1, h, _ => absurd h (by omega)
  | _ + 1, 0, _ + 1, _, h => absurd h (by omega)
  | f + 1, g + 1, n + 1, h1, h2 => by
    show ((List.range (n + 1)).flatMap fun a => (trees f a).flatMap fun l => (trees f (n - a)).map fun r => Tr.nod l r) = (List.range (n + 1)).flatMap fun a => (trees g a).flatMap fun l => (trees g (n - a)).map fun r => Tr.nod l r
    refine flatMap_same fun a ha => ?_
    have ha' := List.mem_range.mp ha
    rw [trees_same f g a (by omega) (by omega), trees_same f g (n - a) (by omega) (by omega)]
/-- all trees of so many nodes -/
def shapesOf (n : Nat) : List Tr := trees n n
theorem shapes_succ (n : Nat) : shapesOf (n + 1) = (List.range (n + 1)).flatMap fun a => (shapesOf a).flatMap fun l => (shapesOf (n - a)).map fun r => Tr.nod l r := by
  show ((List.range (n + 1)).flatMap fun a => (trees n a).flatMap fun l => (trees n (n - a)).map fun r => Tr.nod l r) = _
  refine flatMap_same fun a ha => ?_
  have ha' := List.mem_range.mp ha
  rw [trees_same n a a (by omega) (by omega), trees_same n (n - a) (n - a) (by omega) (by omega)]
  rfl
theorem shapes_in (t : Tr) : t ∈ shapesOf t.size := trees_all _ t (Nat.le_refl _)
theorem shapes_size {n : Nat} {t : Tr} (h : t ∈ shapesOf n) : t.size = n := trees_size _ _ t h
theorem shapes_few : ((List.range 6).all fun n => decide ((shapesOf n).length ≤ 42)) = true := by decide +kernel
theorem shapes_le {n : Nat} (h : n < 6) : (shapesOf n).length ≤ 42 := of_decide_eq_true (List.all_eq_true.mp shapes_few n (List.mem_range.mpr h))
theorem len_flatMap_le {α β : Type} {f : α → List β} {c : Nat} : ∀ {l : List α}, (∀ x, x ∈ l → (f x).length ≤ c) → (l.flatMap f).length ≤ l.length * c
  | [], _ => Nat.zero_le _
  | x :: r, h => by
    have h1 := h x List.mem_cons_self
    have h2 := len_flatMap_le fun y hy => h y (List.mem_cons_of_mem _ hy)
    rw [List.flatMap_cons, List.length_append, List.length_cons, Nat.add_mul, Nat.one_mul]
    omega
end HSP
namespace HSP
open PySem PySem.Spec PyProof.Rows L2
/-! ## the representative, cut from the root down -/
def capHi (c : Int) : Option Int → Int
  | none => c
  | some h => if h < c then h else c
def minI (v c : Int) : Int := if c < v then c else v
def maxI (v c : Int) : Int := if c > v then c else v
def capLo (c : Int) : Option Int → Int
  | none => c
  | some l => if l > c then l else c
theorem clamp_cap {lo hi : Option Int} {c v : Int} (s : Straight lo hi) : clamp (lo.map fun l => minI l c) (some (capHi c hi)) v = minI (clamp lo hi v) c := by
  cases lo with
  | none => cases hi with
    | none =>
      show (if v ≥ c then c else v) = if c < v then c else v
      split <;> split <;> omega
    | some h =>
      show (if v ≥ (if h < c then h else c) then (if h < c then h else c) else v) = if c < (if v ≥ h then h else v) then c else if v ≥ h then h else v
      repeat' split
      all_goals omega
  | some l => cases hi with
    | none =>
      show (if v ≤ (if c < l then c else l) then (if c < l then c else l) else if v ≥ c then c else v) = if c < (if v ≤ l then l else v) then c else if v ≤ l then l else v
      repeat' split
      all_goals omega
    | some h =>
      have := s l h rfl rfl
      show (if v ≤ (if c < l then c else l) then (if c < l then c else l) else if v ≥ (if h < c then h else c) then (if h < c then h else c) else v) = if c < (if v ≤ l then l else if v ≥ h then h else v) then c else if v ≤ l then l else if v ≥ h then h else v
      repeat' split
      all_goals omega
theorem rep_cap {g : Nat → Int} {c : Int} : ∀ (t : Tr) (f : Nat) (lo hi : Option Int), Straight lo hi → repOf g t f (lo.map fun l => minI l c) (some (capHi c hi)) = (repOf g t f lo hi).map fun v => minI v c
  | .nil, _, _, _, _ => rfl
  | .nod l r, f, lo, hi, s => by
    obtain ⟨s1, s2⟩ := clamp_in s (g (f + l.size))
    have h1 := rep_cap (g := g) (c := c) l f lo (some (clamp lo hi (g (f + l.size)))) s1
    have h2 := rep_cap (g := g) (c := c) r (f + l.size + 1) (some (clamp lo hi (g (f + l.size)))) hi s2
    rw [repOf_nod, repOf_nod, clamp_cap s, List.map_append, List.map_cons]
    have e1 : capHi c (some (clamp lo hi (g (f + l.size)))) = minI (clamp lo hi (g (f + l.size))) c := by
      show (if clamp lo hi (g (f + l.size)) < c then clamp lo hi (g (f + l.size)) else c) = if c < clamp lo hi (g (f + l.size)) then c else clamp lo hi (g (f + l.size))
      repeat' split
      all_goals omega
    rw [e1] at h1
    rw [h1]
    exact congrArg (fun z => _ ++ _ :: z) h2
theorem clamp_floor {lo hi : Option Int} {c v : Int} (s : Straight lo hi) : clamp (some (capLo c lo)) (hi.map fun h => maxI h c) v = maxI (clamp lo hi v) c := by
  cases lo with
  | none => cases hi with
    | none =>
      show (if v ≤ c then c else v) = if c > v then c else v
      split <;> split <;> omega
    | some h =>
      show (if v ≤ c then c else if v ≥ (if c > h then c else h) then (if c > h then c else h) else v) = if c > (if v ≥ h then h else v) then c else if v ≥ h then h else v
      repeat' split
      all_goals omega
  | some l => cases hi with
    | none =>
      show (if v ≤ (if l > c then l else c) then (if l > c then l else c) else v) = if c > (if v ≤ l then l else v) then c else if v ≤ l then l else v
      repeat' split
      all_goals omega
    | some h =>
      have := s l h rfl rfl
      show (if v ≤ (if l > c then l else c) then (if l > c then l else c) else if v ≥ (if c > h then c else h) then (if c > h then c else h) else v) = if c > (if v ≤ l then l else if v ≥ h then h else v) then c else if v ≤ l then l else if v ≥ h then h else v
      repeat' split
      all_goals omega
theorem rep_floor {g : Nat → Int} {c : Int} : ∀ (t : Tr) (f : Nat) (lo hi : Option Int), Straight lo hi → repOf g t f (some (capLo c lo)) (hi.map fun h => maxI h c) = (repOf g t f lo hi).map fun v => maxI v c
  | .nil, _, _, _, _ => rfl
  | .nod l r, f, lo, hi, s => by
    obtain ⟨s1, s2⟩ := clamp_in s (g (f + l.size))
    have h1 := rep_floor (g := g) (c := c) l f lo (some (clamp lo hi (g (f + l.size)))) s1
    have h2 := rep_floor (g := g) (c := c) r (f + l.size + 1) (some (clamp lo hi (g (f + l.size)))) hi s2
    rw [repOf_nod, repOf_nod, clamp_floor s, List.map_append, List.map_cons]
    have e1 : capLo c (some (clamp lo hi (g (f + l.size)))) = maxI (clamp lo hi (g (f + l.size))) c := by
      show (if clamp lo hi (g (f + l.size)) > c then clamp lo hi (g (f + l.size)) else c) = if c > clamp lo hi (g (f + l.size)) then c else clamp lo hi (g (f + l.size))
      repeat' split
      all_goals omega
    rw [e1] at h2
    rw [h2]
    exact congrArg (fun z => z ++ _) h1
theorem rep_congr {g g' : Nat → Int} : ∀ (t : Tr) (f f' : Nat) (lo hi : Option Int), (∀ i, i < t.size → g (f + i) = g' (f' + i)) → repOf g t f lo hi = repOf g' t f' lo hi
  | .nil, _, _, _, _, _ => rfl
  | .nod l r, f, f', lo, hi, h => by
    have z : (Tr.nod l r).size = l.size + 1 + r.size := rfl
    rw [z] at h
    rw [repOf_nod, repOf_nod, h l.size (by omega), rep_congr l f f' lo _ (fun i hi => h i (by omega)), rep_congr r (f + l.size + 1) (f' + l.size + 1) _ hi (fun i hi => by
      have := h (l.size + 1 + i) (by omega)
      rw [show f + (l.size + 1 + i) = f + l.size + 1 + i by omega, show f' + (l.size + 1 + i) = f' + l.size + 1 + i by omega] at this
      exact this)]
/-- the cut of a tree and a list -/
def cutT (t : Tr) (ns : List Int) : List Int := repOf (valAt ns) t 0 none none
theorem cut_len (t : Tr) (ns : List Int) : (cutT t ns).length = t.size := repOf_len _ _ _ _ _
theorem cut_nod {l r : Tr} {ns : List Int} (h : ns.length = l.size + 1 + r.size) :
    cutT (.nod l r) ns = ((cutT l (ns.take l.size)).map fun v => minI v (valAt ns l.size)) ++ valAt ns l.size :: (cutT r (ns.drop (l.size + 1))).map fun v => maxI v (valAt ns l.size) := by
  unfold cutT
  rw [repOf_nod, Nat.zero_add]
  have ec : clamp none none (valAt ns l.size) = valAt ns l.size := rfl
  rw [ec]
  have h1 := rep_cap (g := valAt ns) (c := valAt ns l.size) l 0 none none straight_none
  have h2 := rep_floor (g := valAt ns) (c := valAt ns l.size) r (l.size + 1) none none straight_none
  have h1 : repOf (valAt ns) l 0 none (some (valAt ns l.size)) = (repOf (valAt ns) l 0 none none).map fun v => minI v (valAt ns l.size) := h1
  have h2 : repOf (valAt ns) r (l.size + 1) (some (valAt ns l.size)) none = (repOf (valAt ns) r (l.size + 1) none none).map fun v => maxI v (valAt ns l.size) := h2
  rw [h1, h2, rep_congr (g := valAt ns) (g' := valAt (ns.take l.size)) l 0 0 none none (fun i hi => by
    unfold valAt
    rw [List.getD_eq_getElem?_getD, List.getD_eq_getElem?_getD, List.getElem?_take, if_pos (by omega)]), rep_congr (g := valAt ns) (g' := valAt (ns.drop (l.size + 1))) r (l.size + 1) 0 none none (fun i hi => by
    unfold valAt
    rw [List.getD_eq_getElem?_getD, List.getD_eq_getElem?_getD, List.getElem?_drop, Nat.zero_add])]
/-! ### equal lists of numbers -/
theorem ints_eqv : ∀ a b : List Int, PyData.eqv (intsD a) (intsD b) = decide (a = b) := by
  have key : ∀ a b : List Int, PyData.eqvAll (a.map PyData.int) (b.map PyData.int) = decide (a = b) := fun a => by
    induction a with
    | nil =>
      intro b
      cases b with
      | nil => simp [PyData.eqvAll]
      | cons => simp [PyData.eqvAll]
    | cons x r ih =>
      intro b
      cases b with
      | nil => simp [PyData.eqvAll]
      | cons y s =>
        have := ih s
        simp only [List.map_cons, PyData.eqvAll, PyData.eqv, this]
        by_cases c : x = y
        · by_cases d : r = s
          · rw [c, d]
            simp
          · rw [decide_eq_false d, Bool.and_false, decide_eq_false (fun z => d (List.cons.inj z).2)]
        · rw [decide_eq_false (fun z => c (List.cons.inj z).1)]
          have : (x == y) = false := beq_eq_false_iff_ne.mpr c
          rw [this, Bool.false_and]
  intro a b
  unfold intsD
  simp only [PyData.eqv]
  exact key a b
theorem ints_any (x : List Int) : ∀ E : List (List Int), ((E.map intsD).any fun z => PyData.eqv z (intsD x)) = decide (x ∈ E)
  | [] => rfl
  | e :: E => by
    rw [List.map_cons, List.any_cons, ints_eqv, ints_any x E]
    by_cases c : e = x
    · rw [decide_eq_true c, Bool.true_or, decide_eq_true (List.mem_cons.mpr (.inl c.symm))]
    · rw [decide_eq_false c, Bool.false_or]
      by_cases d : x ∈ E
      · rw [decide_eq_true d, decide_eq_true (List.mem_cons_of_mem _ d)]
      · rw [decide_eq_false d, decide_eq_false (fun z => (List.mem_cons.mp z).elim (fun q => c q.symm) d)]
def listsD (E : List (List Int)) : PyData := .list (E.map intsD)
theorem lists_can : ∀ E : List (List Int), PyData.canLayAll0 (E.map intsD) = true
  | [] => by simp [PyData.canLayAll0]
  | e :: E => by
    have ih := lists_can E
    have h1 : PyData.canLay0 (intsD e) = true := by
      unfold intsD
      simp only [PyData.canLay0]
      exact ints_can e
    simp only [List.map_cons, PyData.canLayAll0, h1, ih, Bool.and_self]
theorem lists_deep : ∀ E : List (List Int), PyData.depthAll (E.map intsD) ≤ 3
  | [] => by simp [PyData.depthAll]
  | e :: E => by
    have ih := lists_deep E
    have h1 := ints_deep e
    have h2 : (intsD e).depth ≤ 2 := by
      unfold intsD
      simp only [PyData.depth]
      omega
    simp only [List.map_cons, PyData.depthAll]
    omega
theorem lists_shaped (E : List (List Int)) : SeqAt.shaped (listsD E) = true := by
  unfold SeqAt.shaped
  rw [Bool.and_eq_true]
  have h1 := lists_deep E
  refine ⟨?_, decide_eq_true ?_⟩
  · unfold listsD
    simp only [PyData.canLay0]
    exact lists_can E
  · unfold listsD
    simp only [PyData.depth]
    omega
theorem lists_dp {K : PySem.W.Frag} {H : Hp} {as : List Addr} {E : List (List Int)} (p : Paired (fun a (l : List Int) => H a = some (.lst (l.map V.int))) as E) : DpAll K H (as.map V.ref) (E.map intsD) := by
  induction p with
  | nil => exact .nil
  | cons e _ ih => exact .cons (.lst (.of e) (ints_dpAll _)) ih
end HSP
namespace HSP
open PySem PySem.Spec PyProof.Rows L2
/-! ### the nodes from the root down -/
def nds : Tr → Nat → List Nat
  | .nil, _ => []
  | .nod l r, f => (f + l.size) :: (nds l f ++ nds r (f + l.size + 1))
theorem pre_nds : ∀ (t : Tr) (f : Nat) (p : List (Nat × Bool)), (pre t f p).map (·.1) = nds t f
  | .nil, _, _ => rfl
  | .nod l r, f, p => by
    rw [pre_nod, List.map_cons, List.map_append, pre_nds l, pre_nds r]
    rfl
theorem nds_len (t : Tr) (f : Nat) : (nds t f).length = t.size := by
  rw [← pre_nds t f [], List.length_map, pre_len]
theorem nds_in {t : Tr} {f n : Nat} : n ∈ nds t f ↔ f ≤ n ∧ n < f + t.size := by
  rw [← pre_nds t f [], List.mem_map]
  constructor
  · rintro ⟨⟨m, s⟩, hm, rfl⟩
    obtain ⟨h1, h2, _⟩ := pre_in t f [] m s hm
    exact ⟨h1, h2⟩
  · rintro ⟨h1, h2⟩
    exact ⟨_, pre_mem t f [] n h1 h2, rfl⟩
theorem nds_nodup : ∀ (t : Tr) (f : Nat), (nds t f).Nodup
  | .nil, _ => List.nodup_nil
  | .nod l r, f => by
    have h1 := nds_nodup l f
    have h2 := nds_nodup r (f + l.size + 1)
    show ((f + l.size) :: (nds l f ++ nds r (f + l.size + 1))).Nodup
    refine List.nodup_cons.mpr ⟨fun h => ?_, List.nodup_append.mpr ⟨h1, h2, fun a ha b hb z => ?_⟩⟩
    · rcases List.mem_append.mp h with z | z
      · have := nds_in.mp z; omega
      · have := nds_in.mp z; omega
    · have g1 := nds_in.mp ha
      have g2 := nds_in.mp hb
      omega
theorem find_map {α : Type} {g : Nat → Bool} : ∀ {l : List (Nat × α)} {q : Nat × α → Bool}, (∀ z, z ∈ l → q z = g z.1) → (l.find? q).map (·.1) = (l.map (·.1)).find? g
  | [], _, _ => rfl
  | z :: r, q, h => by
    have ih := find_map (l := r) (q := q) fun z hz => h z (List.mem_cons_of_mem _ hz)
    have h1 := h z List.mem_cons_self
    rw [List.map_cons, List.find?_cons, List.find?_cons, h1]
    cases g z.1 with
    | true => rfl
    | false => exact ih
/-- as the law looks for it -/
theorem imp_nds (lab : Nat → Str) (t : Tr) : impOf lab t = (nds t 0).find? fun n => !decide (lab n ∈ mayOf lab (pOf t 0 n)) := by
  unfold impOf
  rw [← pre_nds t 0 []]
  refine find_map fun z hz => ?_
  obtain ⟨n, s⟩ := z
  obtain ⟨_, _, e⟩ := pre_in t 0 [] n s hz
  rw [List.nil_append] at e
  rw [e]
  exact congrArg (!·) (poss_may lab _ n)
/-! ### what both sides tell -/
def resV : Option (Option Nat) → List V
  | none => [.str "told"]
  | some o => [.str "raised", optN o]
def ResIs (o : Option (List (Option Str))) (t : Tr) (r : Option (Option Nat)) : Prop := (∃ ls, Strings o t.size ls ∧ r = (impOf (strAt ls) t).map some) ∨ ((∀ ls, ¬ Strings o t.size ls) ∧ r = some none)
theorem ResIs.one {o : Option (List (Option Str))} {t : Tr} {r r' : Option (Option Nat)} (h : ResIs o t r) (h' : ResIs o t r') : r = r' := by
  rcases h with ⟨ls, s, e⟩ | ⟨n, e⟩
  · rcases h' with ⟨ls', s', e'⟩ | ⟨n', _⟩
    · have : ls = ls' := some_injS (Option.some.inj (s.1.symm.trans s'.1))
      rw [e, e', this]
    · exact absurd s (n' ls)
  · rcases h' with ⟨ls', s', _⟩ | ⟨_, e'⟩
    · exact absurd s' (n ls')
    · rw [e, e']
section
variable {P : Program} {w : World} {K : PySem.W.Frag} {mg : Str → Option Value} {base : Heap}
/-! ### _law_nodes -/
theorem sc_law_nodes : FnScope n_law_nodes ["a_tree", "first"] (defScope s_law_nodes) := ⟨rfl, rfl, rfl, by decide +kernel, rfl, by decide +kernel, by decide +kernel⟩
def spNodes (n : Nat) : Sp := fun vs H Q _ => ∃ (v : V) (t : Tr) (f : Nat), vs = [v, natV f] ∧ TrAt H v t ∧ t.ht < n ∧ t.size ≤ 300 ∧ ∀ (H' : Hp) (q : Addr), Same H H' → H q = none → H' q = some (.lst ((nds t f).map natV)) → Q (.ref q) H'
theorem ok_nodes {n : Nat} (Z : Df P w K mg base "_law_size" n n_law_size (spSize n)) (a : At K mg "_law_nodes" s_law_nodes) : ∀ k, Df P w K mg base "_law_nodes" (n + k) ["a_tree", "first"] (fun vs H Q E => ∃ (v : V) (t : Tr) (f : Nat), vs = [v, natV f] ∧ TrAt H v t ∧ t.ht < n ∧ t.ht < k ∧ t.size ≤ 300 ∧ ∀ (H' : Hp) (q : Addr), Same H H' → H q = none → H' q = some (.lst ((nds t f).map natV)) → Q (.ref q) H')
  | 0 => Df.none' a (fun vs H Q E h => by obtain ⟨_, _, _, _, _, _, h, _⟩ := h; exact absurd h (Nat.not_lt_zero _)) (fun _ _ _ _ _ _ us hl => match us, hl with | [_, _], _ => rfl) n
  | k + 1 => by
    have S := ok_nodes Z a k
    refine Df.mk' a sc_law_nodes (fun vs H Q E h => ?_) (fun _ _ _ _ _ _ us hl => match us, hl with | [_, _], _ => rfl) (fun f cdv A outer s H vs Q E hr h => ?_)
    · obtain ⟨_, _, _, rfl, _⟩ := h
      rfl
    obtain ⟨v, t, f, rfl, ht, hn, hk, hz, q⟩ := h
    have zero : 0 ≤ sizeLine := by show 0 ≤ sizeLine; decide
    have one : 1 ≤ sizeLine := by show 1 ≤ sizeLine; decide
    refine ⟨_, (pss_cons (ps_if (pt_cmpR op_isN (pv 0) pe_non (nomark _)) (pss_one (ps_ret (pe_lst pa_nil))) pss_nil)
 (pss_cons (ps_set (i := 2) sc_law_nodes.nd rfl (.inl rfl) (pe_op op_add (pv 1) (pe_df Z (hr.mono (Nat.le_add_right n k)) (pa_cons (pe_ix ix_tup (pv 0) pe_int (fun _ _ => rfl)) pa_nil))))
 (pss_one (ps_ret (pe_op op_cat (pe_op op_cat (pe_lst (pa_cons (pv 2) pa_nil)) (pe_df S hr (pa_cons (pe_ix ix_tup (pv 0) pe_int (fun _ _ => rfl)) (pa_cons (pv 1) pa_nil)))) (pe_df S hr (pa_cons (pe_ix ix_tup (pv 0) pe_int (fun _ _ => rfl)) (pa_cons (pe_op op_add (pv 2) pe_int) pa_nil)))))))), ?_⟩
    refine ⟨v, rfl, rfl, _, rfl, ?_⟩
    cases ht with
    | nil => exact iteT ⟨zero, fun R nR => q _ R (Same.new nR) nR upd_same⟩
    | @nod b x1 x2 l r e hl hr2 =>
      have hsz : (Tr.nod l r).size = l.size + 1 + r.size := rfl
      have hht : (Tr.nod l r).ht = max l.ht r.ht + 1 := rfl
      rw [hht] at hn hk
      rw [hsz] at hz
      refine iteF ⟨_, rfl, _, rfl, b, _, _, x1, rfl, rfl, .of e, atI_nat (j := 0) rfl, x1, l, rfl, hl, by omega, _, _, rfl, rfl, ?_⟩
      refine ⟨_, rfl, one, fun P1 n1 => ?_⟩
      have s1 := Same.new (o := .lst [V.int ((f : Int) + (l.size : Int))]) n1
      refine ⟨_, rfl, b, _, _, x1, rfl, rfl, .of (s1 _ _ e), atI_nat (j := 0) rfl, _, rfl, x1, l, f, rfl, hl.same s1, by omega, by omega, by omega, fun H2 q2 s2 n2 e2 => ?_⟩
      have s12 := s1.trans s2
      have l2 := nds_len l f
      refine ⟨P1, q2, _, _, rfl, rfl, s2 _ _ upd_same, e2, ?_, fun P3 n3 => ?_⟩
      · rw [List.length_map]
        show 1 + _ ≤ 16777216
        omega
      have s3 := Same.new (o := .lst ([V.int ((f : Int) + (l.size : Int))] ++ (nds l f).map natV)) n3
      have s13 := s12.trans s3
      refine ⟨_, rfl, b, _, _, x2, rfl, rfl, .of (s13 _ _ e), atI_nat (j := 1) rfl, _, rfl, _, _, rfl, rfl, x2, r, f + l.size + 1, congrArg (fun z => [x2, V.int z]) (by omega : (f : Int) + (l.size : Int) + 1 = ((f + l.size + 1 : Nat) : Int)), hr2.same s13, by omega, by omega, by omega, fun H4 q4 s4 n4 e4 => ?_⟩
      have l4 := nds_len r (f + l.size + 1)
      refine ⟨P3, q4, _, _, rfl, rfl, s4 _ _ upd_same, e4, ?_, fun R nR => ?_⟩
      · rw [List.length_append, List.length_map, List.length_map]
        show 1 + _ + _ ≤ 16777216
        omega
      have sR := Same.new (o := .lst ([V.int ((f : Int) + (l.size : Int))] ++ (nds l f).map natV ++ (nds r (f + l.size + 1)).map natV)) nR
      refine q _ R (s13.trans (s4.trans sR)) ((s13.trans s4).free nR) ?_
      rw [upd_same]
      show _ = some (HO.lst (((f + l.size) :: (nds l f ++ nds r (f + l.size + 1))).map natV))
      rw [List.map_cons, List.map_append, ← show V.int ((f : Int) + (l.size : Int)) = natV (f + l.size) from congrArg V.int (by omega)]
      rfl
theorem nodes_of {n m : Nat} (D : Df P w K mg base "_law_nodes" m ["a_tree", "first"] (fun vs H Q E => ∃ (v : V) (t : Tr) (f : Nat), vs = [v, natV f] ∧ TrAt H v t ∧ t.ht < n ∧ t.ht < n ∧ t.size ≤ 300 ∧ ∀ (H' : Hp) (q : Addr), Same H H' → H q = none → H' q = some (.lst ((nds t f).map natV)) → Q (.ref q) H')) : Df P w K mg base "_law_nodes" m ["a_tree", "first"] (spNodes n) :=
  D.imp fun vs H Q E ⟨v, t, f, e, h1, h2, h3⟩ => ⟨v, t, f, e, h1, h2, h2, h3⟩
/-! ### _law_due -/
theorem strs_dpAll {H : Hp} : ∀ l : List Str, DpAll K H (l.map V.str) (l.map PyData.str)
  | [] => .nil
  | s :: r => .cons (.str s) (strs_dpAll r)
theorem strs_any (s : Str) : ∀ l : List Str, (l.map PyData.str).any (fun z => PyData.eqv z (.str s)) = decide (s ∈ l)
  | [] => rfl
  | x :: r => by
    have ih := strs_any s r
    rw [List.map_cons, List.any_cons, ih]
    simp only [PyData.eqv]
    by_cases c : x = s
    · rw [c, beq_self_eq_true, Bool.true_or, decide_eq_true List.mem_cons_self]
    · rw [beq_eq_false_iff_ne.mpr c, Bool.false_or]
      by_cases d : s ∈ r
      · rw [decide_eq_true d, decide_eq_true (List.mem_cons_of_mem _ d)]
      · rw [decide_eq_false d, decide_eq_false fun z => (List.mem_cons.mp z).elim (fun z => c z.symm) d]
theorem may_shaped (lab : Nat → Str) (p : List (Nat × Bool)) : SeqAt.shaped (.list ((mayOf lab p).map PyData.str)) = true := by
  unfold mayOf
  split
  · decide +kernel
  · split <;> split <;> decide +kernel
theorem str_shaped {l : Str} (h : PyData.strOk l = true) : SeqAt.shaped (.str l) = true := by
  unfold SeqAt.shaped
  rw [Bool.and_eq_true]
  exact ⟨by simpa only [PyData.canLay0] using h, decide_eq_true (by simp only [PyData.depth]; omega)⟩
theorem sc_law_due : FnScope n_law_due ["a_tree", "a_pattern"] (defScope s_law_due) := ⟨rfl, rfl, rfl, by decide +kernel, rfl, by decide +kernel, by decide +kernel⟩
def spDueP (K : PySem.W.Frag) (n : Nat) : Sp := fun vs H Q _ => ∃ (v : V) (t : Tr) (y : V) (o : Option (List (Option Str))), vs = [v, y] ∧ TrAt H v t ∧ t.ht < n ∧ t.size ≤ 300 ∧ PatAt K H y o ∧ (∀ os, o = some os → os.length ≤ 1000) ∧ ∀ (H' : Hp) (q : Addr) (r : Option (Option Nat)), Same H H' → H q = none → ResIs o t r → H' q = some (.lst (resV r)) → Q (.ref q) H'
theorem ok_dueP {n : Nat} (B : Bl mg) (Z : Df P w K mg base "_law_size" n n_law_size (spSize n)) (Nd : Df P w K mg base "_law_nodes" (n + n) ["a_tree", "first"] (spNodes n)) (My : Df P w K mg base "_law_may" (n + 2) ["a_tree", "a_pattern", "node"] (spMay n)) (hn : 2 ≤ n) (a : At K mg "_law_due" s_law_due) : Df P w K mg base "_law_due" (n + n + 1) ["a_tree", "a_pattern"] (spDueP K n) := by
  refine Df.mk' a sc_law_due (fun vs H Q E h => ?_) (fun _ _ _ _ _ _ us hl => match us, hl with | [_, _], _ => rfl) (fun f cdv A outer s H vs Q E hr h => ?_)
  · obtain ⟨_, _, _, _, rfl, _⟩ := h
    rfl
  obtain ⟨v, t, y, o, rfl, ht, hd, hz, hy, hlen, q⟩ := h
  have zero : 0 ≤ sizeLine := by show 0 ≤ sizeLine; decide
  have one : 1 ≤ sizeLine := by show 1 ≤ sizeLine; decide
  have two : 2 ≤ sizeLine := by show 2 ≤ sizeLine; decide
  refine ⟨_, (pss_cons (ps_if (PW.pt (pw_or (pt_not (pt_val (pe_callB call_isi (by rfl) B.isinstance (by decide +kernel) (pa_cons (pv 1) (pa_cons (pe_bltn (v := .ty "list") (by rfl) B.list (by decide +kernel) rfl) pa_nil))))) (pw_or1 (pt_cmpR op_ne (pe_callB call_len_seq (by rfl) B.len PySem.boot_len (pa_cons (pv 1) pa_nil)) (pe_df Z (hr.mono (by omega)) (pa_cons (pv 0) pa_nil)) (nomark _))))) (pss_one (ps_ret (pe_lst (pa_cons pe_str (pa_cons pe_non pa_nil))))) pss_nil)
 (pss_cons (ps_if (pt_cmpR (op_neN (Nat.lt_of_succ_lt (hu_of hr))) (pe_lc (own := [("label", 3)]) (g := (gName 3)) (by rfl) sc_law_due.nd (pi_list (pv 1)) (blkOk_by (N := n_law_due) (sc := defScope s_law_due) (by decide +kernel)) (fun _ _ _ _ _ => (pg_name (i := 3) sc_law_due.nd rfl (.inl rfl))) (fun _ _ _ _ _ => (pts_one (pt_not (pt_val (pe_callB (show CallR _ (Value.builtin "isinstance") (rIsi K) from call_isi) (by rfl) B.isinstance (by decide +kernel) (pa_cons (pv 3) (pa_cons (pe_bltn (v := .ty "str") (by rfl) B.str (by decide +kernel) rfl) pa_nil))))))) (fun _ _ _ _ _ => (pv 3))) (pe_lst pa_nil) (nomark _)) (pss_one (ps_ret (pe_lst (pa_cons pe_str (pa_cons pe_non pa_nil))))) pss_nil)
 (pss_cons (ps_for PassesOwn.never rfl (pi_list (pe_df Nd hr (pa_cons (pv 0) (pa_cons pe_int pa_nil)))) (pg_name (i := 2) sc_law_due.nd rfl (.inl rfl)) (pss_one (ps_if (pt_cmpR (op_notInD (room65p hr)) (pe_ix ix_list (pv 1) (pv 2) (fun _ _ => rfl)) (pe_df My (hr.mono (by omega)) (pa_cons (pv 0) (pa_cons (pv 1) (pa_cons (pv 2) pa_nil)))) (by rfl)) (pss_one (ps_ret (pe_lst (pa_cons pe_str (pa_cons (pv 2) pa_nil))))) pss_nil)))
 (pss_one (ps_ret (pe_lst (pa_cons pe_str pa_nil))))))), ?_⟩
  have bad : ∀ H', Same H H' → (∀ ls, ¬ Strings o t.size ls) → ∀ R, H' R = none → Q (.ref R) (upd H' R (.lst [V.str "raised", V.non])) := fun H' s' h R nR => q _ R _ (s'.trans (Same.new nR)) (s'.free nR) (.inr ⟨h, rfl⟩) upd_same
  cases o with
  | none =>
    obtain ⟨ty, t1, k1⟩ := hy
    refine ⟨_, rfl, _, _, _, _, false, rfl, .ty "list", t1, k1, false, rfl, iteT ⟨two, fun R nR => ?_⟩⟩
    exact bad H (Same.refl _) (fun ls h => by cases h.1) R nR
  | some os =>
  obtain ⟨p, xs, rfl, ep, px⟩ := hy
  have lx := Paired.length px
  have l1000 := hlen os rfl
  refine ⟨_, rfl, _, _, _, _, true, rfl, .ty "list", .base (.lst ep), rfl, true, rfl, iteF ?_⟩
  refine ⟨_, rfl, p, _, rfl, .inl (.of ep), _, rfl, v, t, rfl, ht, hd, rfl, _, rfl, ?_⟩
  by_cases c : os.length = t.size
  · rw [decide_eq_true (show V.int ((xs.length : Nat) : Int) = V.int ((t.size : Nat) : Int) by rw [lx, c])]
    refine iteF ?_
    refine ⟨_, rfl, p, rfl, ⟨_, .of ep⟩, fun D hD => ?_⟩
    refine lc_list (xs := xs) (fun j H' => Same H H' ∧ ∃ acc : List V, H' D = some (.lst acc) ∧ acc.length ≤ j ∧ (acc.isEmpty = true ↔ ∃ ls : List Str, os.take j = ls.map some)) ⟨Same.new hD, [], upd_same, Nat.le_refl _, ⟨fun _ => ⟨[], rfl⟩, fun _ => rfl⟩⟩ (fun j H' _ h' => .of (h'.1 _ _ ep)) (fun j x H1 hx h1 => ?_) (fun H1 h1 => ?_)
    · obtain ⟨s1, acc, e1, l1, i1⟩ := h1
      obtain ⟨l, hl, hlx⟩ := Paired.getL px hx
      have hj := (List.getElem?_eq_some_iff.mp hl).1
      refine ⟨rfl, ?_⟩
      cases l with
      | none =>
        obtain ⟨ty, t1, k1⟩ := NotS.same s1 hlx
        refine ⟨_, rfl, _, _, _, _, false, rfl, .ty "str", t1, k1, false, rfl, iteT ⟨_, rfl, acc, e1, ?_, fun b o eb => ?_, acc ++ [x], upd_same, by rw [List.length_append, List.length_singleton]; omega, ?_⟩⟩
        · show _ < 16777216
          omega
        · rw [upd_ne (ne_of_none eb hD)]
          exact s1 _ _ eb
        · refine ⟨fun h => (by cases acc <;> cases h), fun ⟨ls, h⟩ => ?_⟩
          have h2 : (os.take (j + 1))[j]? = (ls.map some)[j]? := by rw [h]
          rw [List.getElem?_take, if_pos (by omega), hl, List.getElem?_map] at h2
          obtain ⟨_, _, z⟩ := Option.map_eq_some_iff.mp h2.symm
          cases z
      | some l =>
        obtain ⟨rfl, _⟩ := (show x = V.str l ∧ PyData.strOk l = true from hlx)
        refine ⟨_, rfl, _, _, _, _, true, rfl, .ty "str", .base (.str l), kit_ty (by decide +kernel), true, rfl, iteF ⟨s1, acc, e1, by omega, ?_⟩⟩
        rw [i1]
        constructor
        · rintro ⟨ls, h⟩
          exact ⟨ls ++ [l], by rw [List.take_add_one, hl, h, List.map_append]; rfl⟩
        · rintro ⟨ls, h⟩
          refine ⟨ls.take j, ?_⟩
          have := congrArg (List.take j) h
          rw [List.take_take, Nat.min_eq_left (Nat.le_succ j)] at this
          rw [this, List.map_take]
    obtain ⟨s1, acc, e1, l1, i1⟩ := h1
    rw [lx, List.take_length] at i1
    refine ⟨zero, fun Z2 hZ2 => ?_⟩
    have sZ := Same.new (o := .lst []) hZ2
    have s1Z := s1.trans sZ
    refine ⟨D, Z2, acc, rfl, rfl, .of (sZ _ _ e1), .of upd_same, _, rfl, ?_⟩
    cases em : acc.isEmpty with
    | false =>
      refine iteT ⟨two, fun R nR => bad _ s1Z (fun ls h => ?_) R nR⟩
      rw [i1.mpr ⟨ls, Option.some.inj h.1⟩] at em
      cases em
    | true =>
    obtain ⟨ls, el⟩ := i1.mp em
    subst el
    obtain ⟨rfl, okl⟩ := labels_strs px
    have ll : ls.length = t.size := by rw [← c, List.length_map]
    have S : Strings (some (ls.map some)) t.size ls := ⟨rfl, ll⟩
    refine iteF ?_
    generalize upd H1 Z2 (.lst []) = H2 at s1Z ⊢
    have ep2 := s1Z _ _ ep
    refine ⟨_, rfl, v, t, 0, rfl, ht.same s1Z, hd, hz, fun H3 N s3 nN eN => ?_⟩
    have s13 := s1Z.trans s3
    have im := imp_nds (strAt ls) t
    refine ⟨N, rfl, ⟨_, .of eN⟩, for_list (xs := (nds t 0).map natV) (fun i σ H' => (∃ y2 : Option V, σ = [some v, some (.ref p), y2, none]) ∧ Same H3 H' ∧ impOf (strAt ls) t = ((nds t 0).drop i).find? fun n => !decide (strAt ls n ∈ mayOf (strAt ls) (pOf t 0 n))) ⟨⟨none, rfl⟩, Same.refl _, im⟩ (fun i σ H' _ h' => .of (h'.2.1 _ _ eN)) (fun i x σ H4 hx h4 => ?_) (fun σ H4 h4 => ?_)⟩
    · obtain ⟨⟨y2, rfl⟩, s4, ef⟩ := h4
      rw [List.getElem?_map] at hx
      obtain ⟨m, hm, rfl⟩ := Option.map_eq_some_iff.mp hx
      have hm2 := nds_in.mp (List.mem_of_getElem? hm)
      have hi := (List.getElem?_eq_some_iff.mp hm).1
      have ed : (nds t 0).drop i = m :: (nds t 0).drop (i + 1) := by
        rw [List.drop_eq_getElem_cons hi, (List.getElem?_eq_some_iff.mp hm).2]
      have s14 := s13.trans s4
      have ep4 := s14 _ _ ep
      refine ⟨_, rfl, _, rfl, p, _, _, _, rfl, rfl, .of ep4, at_of (j := m) rfl (strAt_get (by omega)), ?_⟩
      refine ⟨_, rfl, _, rfl, _, rfl, v, t, p, m, ls.map V.str, strAt ls, rfl, ht.same s14, hd, by omega, hz, ep4, fun z hz2 => ⟨strAt_get (by have := pOf_in0 t m z hz2; omega), strAt_ok okl (by have := pOf_in0 t m z hz2; omega)⟩, fun H5 M s5 nM eM => ?_⟩
      refine ⟨.str (strAt ls m), (mayOf (strAt ls) (pOf t 0 m)).map PyData.str, .str _, .lst (.of eM) (strs_dpAll _), str_shaped (strAt_ok okl (by omega)), may_shaped _ _, _, rfl, ?_⟩
      rw [strs_any]
      by_cases d : strAt ls m ∈ mayOf (strAt ls) (pOf t 0 m)
      · rw [decide_eq_true d]
        refine iteF ⟨⟨_, rfl⟩, s4.trans s5, ?_⟩
        rw [ef, ed, List.find?_cons, decide_eq_true d]
        rfl
      · rw [decide_eq_false d]
        refine iteT ⟨_, rfl, two, fun R nR => ?_⟩
        have s15 := s14.trans s5
        refine q _ R (some (some m)) (s15.trans (Same.new nR)) (s15.free nR) (.inl ⟨ls, S, ?_⟩) upd_same
        rw [ef, ed, List.find?_cons, decide_eq_false d]
        rfl
    · obtain ⟨_, s4, ef⟩ := h4
      rw [List.length_map, List.drop_length] at ef
      refine ⟨one, fun R nR => ?_⟩
      have s14 := s13.trans s4
      exact q _ R none (s14.trans (Same.new nR)) (s14.free nR) (.inl ⟨ls, S, by rw [ef]; rfl⟩) upd_same
  · rw [decide_eq_false (show ¬ V.int ((xs.length : Nat) : Int) = V.int ((t.size : Nat) : Int) from fun z => c (by have := V.int.inj z; omega))]
    refine iteT ⟨two, fun R nR => ?_⟩
    exact bad H (Same.refl _) (fun ls h => c (by rw [← h.2, Option.some.inj h.1, List.length_map])) R nR
end
end HSP
namespace HSP
open PySem PySem.Spec PyProof.Rows L2
section
variable {P : Program} {w : World} {K : PySem.W.Frag} {mg : Str → Option Value} {base : Heap}
/-! ### _law_size -/
theorem sc_law_size : FnScope n_law_size n_law_size (defScope s_law_size) := ⟨rfl, rfl, rfl, by decide +kernel, rfl, by decide +kernel, by decide +kernel⟩
theorem ok_size (a : At K mg "_law_size" s_law_size) : ∀ n, Df P w K mg base "_law_size" n n_law_size (spSize n)
  | 0 => Df.none' a (fun vs H Q E h => by obtain ⟨v, t, _, _, h, _⟩ := h; exact absurd h (Nat.not_lt_zero _)) (fun _ _ _ _ _ _ us hl => match us, hl with | [_], _ => rfl) 0
  | n + 1 => by
    have S := ok_size a n
    refine Df.mk' a sc_law_size (fun vs H Q E h => ?_) (fun _ _ _ _ _ _ us hl => match us, hl with | [_], _ => rfl) (fun f cdv A outer s H vs Q E hr h => ?_)
    · obtain ⟨v, t, rfl, _⟩ := h
      rfl
    obtain ⟨v, t, rfl, ht, hd, q⟩ := h
    refine ⟨_, (pss_one (ps_ret (pe_ifExp (pt_cmpR op_isN (pv 0) pe_non (nomark _)) pe_int (pe_op op_add (pe_op op_add (pe_df S hr (pa_cons (pe_ix ix_tup (pv 0) pe_int (fun _ _ => rfl)) pa_nil)) pe_int) (pe_df S hr (pa_cons (pe_ix ix_tup (pv 0) pe_int (fun _ _ => rfl)) pa_nil)))))), ?_⟩
    refine ⟨v, rfl, rfl, _, rfl, ?_⟩
    cases ht with
    | nil => exact iteT q
    | @nod b x1 x2 l r e hl hr2 =>
      have hd' : max l.ht r.ht + 1 < n + 1 := hd
      refine iteF ?_
      refine ⟨_, rfl, b, _, _, x1, rfl, rfl, .of e, atI_nat (j := 0) rfl, x1, l, rfl, hl, by omega, ?_⟩
      refine ⟨_, _, rfl, rfl, _, rfl, b, _, _, x2, rfl, rfl, .of e, atI_nat (j := 1) rfl, x2, r, rfl, hr2, by omega, ?_⟩
      refine ⟨_, _, rfl, rfl, ?_⟩
      have e2 : ((l.size : Int) + 1 + (r.size : Int)) = (((Tr.nod l r).size : Nat) : Int) := by
        show _ = ((l.size + 1 + r.size : Nat) : Int)
        omega
      rw [← e2] at q
      exact q
/-! ### _law_tree -/
theorem sc_law_tree : FnScope n_law_tree ["draws", "room"] (defScope s_law_tree) := ⟨rfl, rfl, rfl, by decide +kernel, rfl, by decide +kernel, by decide +kernel⟩
def spDraw (n : Nat) : Sp := fun vs H Q _ => ∃ (p : Addr) (m k : Nat), vs = [.ref p, .int (m : Int)] ∧ m < n ∧ DrAt H p k ∧ k + 2 * m ≤ 100000 ∧ ∀ (H' : Hp) (v : V) (t : Tr), Keep p H H' → DrAt H' p (k + 2 * m) → TrAt H' v t → t.size = m → Q v H'
theorem ok_drawT (B : Bl mg) (N : Df P w K mg base "_law_next" 1 ["draws"] spNext) (a : At K mg "_law_tree" s_law_tree) : ∀ n, Df P w K mg base "_law_tree" (n + 1) ["draws", "room"] (spDraw n)
  | 0 => Df.none' a (fun vs H Q E h => by obtain ⟨p, m, k, _, h, _⟩ := h; exact absurd h (Nat.not_lt_zero _)) (fun _ _ _ _ _ _ us hl => match us, hl with | [_, _], _ => rfl) 1
  | n + 1 => by
    have D := ok_drawT B N a n
    refine Df.mk' a sc_law_tree (fun vs H Q E h => ?_) (fun _ _ _ _ _ _ us hl => match us, hl with | [_, _], _ => rfl) (fun f cdv A outer s H vs Q E hr h => ?_)
    · obtain ⟨p, m, k, rfl, _⟩ := h
      rfl
    obtain ⟨p, m, k, rfl, hm, hd, hk, q⟩ := h
    refine ⟨_, (pss_cons (ps_if (pt_cmpR op_eq (pv 1) pe_int (nomark _)) (pss_one (ps_ret pe_non)) pss_nil)
 (pss_cons (ps_set (i := 2) sc_law_tree.nd rfl (.inl rfl) (pe_ix ix_list (pe_lst (pa_cons (pe_op op_fdiv (pv 1) pe_int) (pa_cons (pe_op op_fdiv (pe_op op_sub (pv 1) pe_int) pe_int) (pa_cons (pe_op op_mod (pe_callTy call_int1 (by rfl) B.int (by decide +kernel) (pa_cons (pe_df N (hr.mono (by omega)) (pa_cons (pv 0) pa_nil)) pa_nil)) (pv 1)) (pa_cons pe_int (pa_cons (pe_op op_sub (pv 1) pe_int) pa_nil)))))) (pe_op op_mod (pe_callTy call_int1 (by rfl) B.int (by decide +kernel) (pa_cons (pe_df N (hr.mono (by omega)) (pa_cons (pv 0) pa_nil)) pa_nil)) pe_int) (fun _ _ => rfl)))
 (pss_one (ps_ret (pe_tup (pa_cons (pe_df D hr (pa_cons (pv 0) (pa_cons (pv 2) pa_nil))) (pa_cons (pe_df D hr (pa_cons (pv 0) (pa_cons (pe_op op_sub (pe_op op_sub (pv 1) (pv 2)) pe_int) pa_nil))) pa_nil))))))), ?_⟩
    refine ⟨_, rfl, rfl, _, rfl, ?_⟩
    refine ite2 (fun c => ?_) (fun c => ?_)
    · have m0 : (m : Int) = 0 := V.int.inj (of_decide_eq_true c)
      exact q H .non .nil (Keep.refl _ _) (hd.mono (by omega)) .nil (by show 0 = m; omega)
    have m1 : ¬ (m : Int) = 0 := fun z => c (decide_eq_true (congrArg V.int z))
    have mp : (0 : Int) < (m : Int) := by omega
    refine ⟨_, rfl, _, _, rfl, rfl, ⟨by decide, by decide⟩, _, rfl, _, _, rfl, rfl, _, _, rfl, rfl, ⟨by decide, by decide⟩, _, rfl, p, k, rfl, hd, by omega, fun H1 r1 kp1 d1 a1 a2 => .inl ⟨_, rfl, _, rfl, _, _, rfl, rfl, mp, _, rfl, _, _, rfl, rfl, (by show 5 ≤ sizeLine; decide), fun L hL => ?_⟩⟩
    refine ⟨_, rfl, p, k + 1, rfl, d1.same (Same.new hL), by omega, fun H2 r2 kp2 d2 a3 a4 => .inl ⟨_, rfl, _, _, rfl, rfl, (by show (0 : Int) < 5; decide), ?_⟩⟩
    have eL := kp2 L _ (d1.ne hL) upd_same
    obtain ⟨x, hx, j, rfl, hj⟩ := at_any (xs := [V.int ((m : Int) / 2), V.int (((m : Int) - 1) / 2), V.int (r1 % (m : Int)), V.int 0, V.int ((m : Int) - 1)]) (C := fun x => ∃ j : Nat, x = V.int (j : Int) ∧ j < m) (fun x hx => by
      have nat : ∀ z : Int, 0 ≤ z → z < (m : Int) → ∃ j : Nat, V.int z = V.int (j : Int) ∧ j < m := fun z z0 z1 => ⟨z.toNat, congrArg V.int (by omega), by omega⟩
      simp only [List.mem_cons, List.not_mem_nil, or_false] at hx
      rcases hx with rfl | rfl | rfl | rfl | rfl
      · exact nat _ (by omega) (by omega)
      · exact nat _ (by omega) (by omega)
      · exact nat _ (Int.emod_nonneg _ (by omega)) (Int.emod_lt_of_pos _ mp)
      · exact nat _ (by omega) (by omega)
      · exact nat _ (by omega) (by omega)) (i := r2 % 5) (Int.emod_nonneg _ (by decide)) (Int.emod_lt_of_pos _ (by decide))
    refine ⟨L, _, _, _, rfl, rfl, .of eL, hx, ?_⟩
    have kpA : Keep p H H2 := kp1.trans ((Keep.new hL).trans kp2)
    refine ⟨_, rfl, _, rfl, p, j, k + 1 + 1, rfl, by omega, d2, by omega, fun H3 v3 t3 kp3 d3 b3 s3 => ?_⟩
    refine ⟨_, rfl, _, rfl, _, rfl, _, _, rfl, rfl, _, _, rfl, rfl, p, m - 1 - j, k + 1 + 1 + 2 * j, congrArg (fun z => [V.ref p, V.int z]) (by omega : (m : Int) - (j : Int) - 1 = ((m - 1 - j : Nat) : Int)), by omega, d3, by omega, fun H4 v4 t4 kp4 d4 b4 s4 => ?_⟩
    refine ⟨(by show 2 ≤ sizeLine; decide), fun T hT => ?_⟩
    have s5 := Same.new (o := .tup [v3, v4]) hT
    refine q _ (.ref T) (.nod t3 t4) (kpA.trans (kp3.trans (kp4.trans (Keep.new hT)))) ((d4.mono (by omega)).same s5) (.nod upd_same ((d3.tree kp4 b3).same s5) (b4.same s5)) ?_
    show t3.size + 1 + t4.size = m
    omega
end
end HSP
namespace HSP
open PySem PySem.Spec PyProof.Rows L2
theorem DrAt.neOf {H : Hp} {p q : Addr} {k : Nat} {ns : List Int} (d : DrAt H p k) (e : H q = some (.lst (ns.map V.int))) : q ≠ p := fun z => by
  obtain ⟨n, j, b, e2, _⟩ := d
  rw [z, e2] at e
  have h := HO.lst.inj (Option.some.inj e)
  match ns, h with
  | [], h => exact absurd (congrArg List.length h) (by simp)
  | [_], h => exact absurd (congrArg List.length h) (by simp)
  | [_, _], h => exact absurd (congrArg List.length h) (by simp)
  | _ :: _ :: z :: _, h => exact absurd (congrArg (fun l => l[2]?) h) (by simp)
theorem DrAt.put {H : Hp} {p q : Addr} {k : Nat} {o : HO} (d : DrAt H p k) (n : q ≠ p) : DrAt (upd H q o) p k := by
  obtain ⟨z, j, b, e, l⟩ := d
  exact ⟨z, j, b, by rw [upd_ne n.symm]; exact e, l⟩
/-- a place that was not tracked at first may be written -/
theorem Keep.put {p q : Addr} {H H1 : Hp} {o : HO} (h : H q = none) (k : Keep p H H1) : Keep p H (upd H1 q o) := fun b u n e => by
  rw [upd_ne (ne_of_none e h)]
  exact k b u n e
/-- a value drawn is near 0 -/
def Near (ns : List Int) : Prop := ∀ v, v ∈ ns → -1000001 ≤ v ∧ v ≤ 1000001
theorem Near.nil : Near [] := fun _ h => by cases h
theorem Near.snoc {ns : List Int} {v : Int} (h : Near ns) (h1 : -1000001 ≤ v ∧ v ≤ 1000001) : Near (ns ++ [v]) := fun x hx => by
  rcases List.mem_append.mp hx with z | z
  · exact h x z
  · rw [List.mem_singleton.mp z]
    exact h1
theorem Near.set {ns : List Int} {v : Int} {i : Nat} (h : Near ns) (h1 : -1000001 ≤ v ∧ v ≤ 1000001) : Near (ns.set i v) := fun x hx => by
  rcases List.mem_or_eq_of_mem_set hx with z | z
  · exact h x z
  · rw [z]
    exact h1
theorem near_of {r sp : Int} (h0 : 0 ≤ sp) (h1 : sp ≤ 1000000) : -1000001 ≤ r % (sp + 1) - sp / 2 ∧ r % (sp + 1) - sp / 2 ≤ 1000001 := by
  have a1 := Int.emod_nonneg r (show sp + 1 ≠ 0 by omega)
  have a2 := Int.emod_lt_of_pos r (show (0 : Int) < sp + 1 by omega)
  omega
end HSP
namespace HSP
open PySem PySem.Spec PyProof.Rows L2
section
variable {P : Program} {w : World} {K : PySem.W.Frag} {mg : Str → Option Value} {base : Heap}
/-! ### _law_told -/
/-- what the law asks of the class -/
structure OneL (K : PySem.W.Frag) (mg : Str → Option Value) (C : Addr) : Prop where
  g : mg "InvalidLabels" = some (.ref C)
  x : PySem.W.exmOne K (.ref C) (.ref C) = some true
  e : ExcC K C
  f : XfC K C
  n : PySem.W.findIn K (.ref C) "node" = some none
  v : PySem.W.kitOne K (.ref C) (.type "ValueError") = some true
theorem sc_law_told : FnScope n_law_told ["a_tree", "a_pattern"] (defScope s_law_told) := ⟨rfl, rfl, rfl, by decide +kernel, rfl, by decide +kernel, by decide +kernel⟩
def spToldP (K : PySem.W.Frag) : Sp := fun vs H Q _ => ∃ (v : V) (t : Tr) (y : V) (o : Option (List (Option Str))), vs = [v, y] ∧ TrAt H v t ∧ t.size ≤ 300 ∧ PatAt K H y o ∧ ∀ (H' : Hp) (q : Addr) (r : Option (Option Nat)), Same H H' → H q = none → ResIs o t r → H' q = some (.lst (resV r)) → Q (.ref q) H'
theorem ok_toldP {C : Addr} (B : Bl mg) (Ve : mg "ValueError" = none) (T : OneL K mg C) (Cp : DfX P w K mg base "check_pattern" 4 ["tree", "pattern"] (spChkP K C)) (a : At K mg "_law_told" s_law_told) : Df P w K mg base "_law_told" 5 ["a_tree", "a_pattern"] (spToldP K) := by
  refine Df.mk' a sc_law_told (fun vs H Q E h => ?_) (fun _ _ _ _ _ _ us hl => match us, hl with | [_, _], _ => rfl) (fun f cdv A outer s H vs Q E hr h => ?_)
  · obtain ⟨_, _, _, _, rfl, _⟩ := h
    rfl
  obtain ⟨v, t, y, o, rfl, ht, hz, hy, q⟩ := h
  have one : 1 ≤ sizeLine := by show 1 ≤ sizeLine; decide
  have two : 2 ≤ sizeLine := by show 2 ≤ sizeLine; decide
  refine ⟨_, (pss_cons (ps_set (i := 2) sc_law_told.nd rfl (.inl rfl) pe_non)
 (pss_cons (ps_set (i := 3) sc_law_told.nd rfl (.inl rfl) pe_non)
 (pss_cons (ps_try_keep1 (i := 4) rfl rfl sc_law_told.nd rfl rfl ⟨rfl, by decide, .inl T.g⟩ takes0 (fun W pn xe tk _ => (pss_one (ps_set (i := 3) sc_law_told.nd rfl (.inl rfl) (pe_dfX Cp hr tk (pa_cons (pv 0) (pa_cons (pv 1) pa_nil)))))) (fun e pn => (pss_one (ps_set (i := 2) sc_law_told.nd rfl (.inl rfl) (pv 4)))))
 (pss_cons (ps_if (pt_cmpR op_isN (pv 2) pe_non (nomark _)) (pss_one (ps_ret (pe_ifExp (pt_cmpR op_isN (pv 3) pe_non (nomark _)) (pe_lst (pa_cons pe_str pa_nil)) (pe_lst (pa_cons pe_str pa_nil))))) pss_nil)
 (pss_one (ps_ret (pe_ifExp (pt_val (pe_callB call_isK (by rfl) B.isinstance (by decide +kernel) (pa_cons (pv 2) (pa_cons (pe_bltn (v := .ty "ValueError") (by rfl) Ve (by decide +kernel) rfl) pa_nil)))) (pe_lst (pa_cons pe_str (pa_cons (pe_xfK (pv 2)) pa_nil))) (pe_lst (pa_cons pe_str pa_nil))))))))), ?_⟩
  refine ⟨_, rfl, _, rfl, v, t, y, o, rfl, ht, hz, hy, fun H1 ls s1 hs hi => ?_, fun hn H1 dd s1 e1 => ?_, fun ls i hs hi H1 dd s1 e1 => ?_⟩
  · refine ⟨_, rfl, rfl, _, rfl, ?_⟩
    refine iteT ⟨_, rfl, rfl, _, rfl, iteT ⟨one, fun R nR => ?_⟩⟩
    exact q _ R none (s1.trans (Same.new nR)) (s1.free nR) (.inl ⟨ls, hs, by rw [hi]; rfl⟩) upd_same
  · refine ⟨true, T.x, fun _ e ne => ?_, fun z => nomatch z⟩
    have se := Same.new (o := exK (.ref C) (some dd) e) ne
    have s2 := s1.trans se
    have e2 := se _ _ e1
    refine ⟨_, rfl, ?_⟩
    refine ⟨_, rfl, rfl, _, rfl, iteF ?_⟩
    refine ⟨_, rfl, e, C, _, _, true, rfl, ⟨some dd, upd_same, fun d2 z => ⟨_, by cases z; exact e2⟩⟩, T.e, fun u h => h, T.v, true, rfl, iteT ?_⟩
    refine ⟨_, rfl, e, C, dd, _, .non, rfl, upd_same, T.f, T.n, e2, rfl, two, fun R nR => ?_⟩
    exact q _ R (some none) (s2.trans (Same.new nR)) (s2.free nR) (.inr ⟨hn, rfl⟩) upd_same
  · refine ⟨true, T.x, fun _ e ne => ?_, fun z => nomatch z⟩
    have se := Same.new (o := exK (.ref C) (some dd) e) ne
    have s2 := s1.trans se
    have e2 := se _ _ e1
    refine ⟨_, rfl, ?_⟩
    refine ⟨_, rfl, rfl, _, rfl, iteF ?_⟩
    refine ⟨_, rfl, e, C, _, _, true, rfl, ⟨some dd, upd_same, fun d2 z => ⟨_, by cases z; exact e2⟩⟩, T.e, fun u h => h, T.v, true, rfl, iteT ?_⟩
    refine ⟨_, rfl, e, C, dd, _, natV i, rfl, upd_same, T.f, T.n, e2, rfl, two, fun R nR => ?_⟩
    exact q _ R (some (some i)) (s2.trans (Same.new nR)) (s2.free nR) (.inl ⟨ls, hs, by rw [hi]; rfl⟩) upd_same
/-! ### _law_drawn -/
theorem may_words (lab : Nat → Str) (p : List (Nat × Bool)) {s : Str} (h : s ∈ mayOf lab p) : PyData.strOk s = true := by
  have key : s = ("dead" : Str) ∨ s = ("found" : Str) ∨ s = ("low" : Str) ∨ s = ("high" : Str) := by
    unfold mayOf at h
    split at h
    · exact .inl (List.mem_singleton.mp h)
    · rcases List.mem_cons.mp h with z | z
      · exact .inr (.inl z)
      · rcases List.mem_append.mp z with z | z
        · split at z
          · exact .inr (.inr (.inl (List.mem_singleton.mp z)))
          · cases z
        · split at z
          · exact .inr (.inr (.inr (List.mem_singleton.mp z)))
          · cases z
  rcases key with rfl | rfl | rfl | rfl <;> decide +kernel
theorem may_ne (lab : Nat → Str) (p : List (Nat × Bool)) : 0 < (mayOf lab p).length ∧ (mayOf lab p).length ≤ 3 := by
  unfold mayOf
  split
  · exact ⟨by decide, by decide⟩
  · refine ⟨Nat.succ_pos _, ?_⟩
    rw [List.length_cons, List.length_append]
    split <;> split <;> decide
theorem may_same {lab lab' : Nat → Str} {p : List (Nat × Bool)} (h : ∀ z, z ∈ p → lab z.1 = lab' z.1) : mayOf lab p = mayOf lab' p := by
  unfold mayOf
  rw [killerOf_same h, boundOf_same h, boundOf_same h]
def optS : Option Str → V
  | none => .non
  | some s => .str s
def labO (os : List (Option Str)) (i : Nat) : Str := (os.getD i none).getD ""
theorem labO_at {os : List (Option Str)} {i : Nat} {s : Str} (h : os[i]? = some (some s)) : labO os i = s := by
  unfold labO
  rw [List.getD_eq_getElem?_getD, h]
  rfl
theorem nodup_at {l : List Nat} (nd : l.Nodup) {a b x : Nat} (h : a < b) (ha : l[a]? = some x) (hb : l[b]? = some x) : False := by
  obtain ⟨h1, e1⟩ := List.getElem?_eq_some_iff.mp ha
  obtain ⟨h2, e2⟩ := List.getElem?_eq_some_iff.mp hb
  exact List.pairwise_iff_getElem.mp nd a b h1 h2 h (e1.trans e2.symm)
/-- the ancestors of a node come before it -/
theorem anc_before {t : Tr} {k n : Nat} (h : (nds t 0)[k]? = some n) {z : Nat × Bool} (hz : z ∈ pOf t 0 n) : z.1 ∈ (nds t 0).take k := by
  rw [← pre_nds t 0 [], List.getElem?_map] at h
  obtain ⟨⟨m, s⟩, h1, h2⟩ := Option.map_eq_some_iff.mp h
  have h2 : m = n := h2
  subst h2
  obtain ⟨_, _, e⟩ := pre_in t 0 [] m s (List.mem_of_getElem? h1)
  rw [List.nil_append] at e
  rw [← e] at hz
  rcases pre_anc t 0 [] k m s h1 z hz with q | ⟨j, s', hj, h3⟩
  · cases q
  · have h4 : (nds t 0)[j]? = some z.1 := by
      rw [← pre_nds t 0 [], List.getElem?_map, h3]
      rfl
    refine List.mem_of_getElem? (i := j) ?_
    rw [List.getElem?_take, if_pos hj]
    exact h4
theorem sc_law_drawn : FnScope n_law_drawn ["draws", "a_tree"] (defScope s_law_drawn) := ⟨rfl, rfl, rfl, by decide +kernel, rfl, by decide +kernel, by decide +kernel⟩
def spDrawnP (n : Nat) : Sp := fun vs H Q _ => ∃ (p : Addr) (k : Nat) (v : V) (t : Tr), vs = [.ref p, v] ∧ DrAt H p k ∧ k + t.size ≤ 90000 ∧ TrAt H v t ∧ t.ht < n ∧ t.size ≤ 300 ∧ ∀ (H' : Hp) (q : Addr) (ls : List Str), Keep p H H' → DrAt H' p (k + t.size) → H q = none → H' q = some (.lst (ls.map V.str)) → ls.length = t.size → StrsOk ls → impOf (strAt ls) t = none → Q (.ref q) H'
theorem ok_drawnP {n : Nat} (B : Bl mg) (N : Df P w K mg base "_law_next" 1 ["draws"] spNext) (Z : Df P w K mg base "_law_size" n n_law_size (spSize n)) (Nd : Df P w K mg base "_law_nodes" (n + n) ["a_tree", "first"] (spNodes n)) (My : Df P w K mg base "_law_may" (n + 2) ["a_tree", "a_pattern", "node"] (spMay n)) (hn : 2 ≤ n) (a : At K mg "_law_drawn" s_law_drawn) : Df P w K mg base "_law_drawn" (n + n + 1) ["draws", "a_tree"] (spDrawnP n) := by
  refine Df.mk' a sc_law_drawn (fun vs H Q E h => ?_) (fun _ _ _ _ _ _ us hl => match us, hl with | [_, _], _ => rfl) (fun f cdv A outer s H vs Q E hr h => ?_)
  · obtain ⟨_, _, _, _, rfl, _⟩ := h
    rfl
  obtain ⟨p, k, v, t, rfl, hd, hk, ht, hh, hz, q⟩ := h
  have one : 1 ≤ sizeLine := by show 1 ≤ sizeLine; decide
  refine ⟨_, (pss_cons (ps_set (i := 2) sc_law_drawn.nd rfl (.inl rfl) (pe_op op_rep (pe_lst (pa_cons pe_non pa_nil)) (pe_df Z (hr.mono (by omega)) (pa_cons (pv 1) pa_nil))))
 (pss_cons (ps_for PassesOwn.never rfl (pi_list (pe_df Nd hr (pa_cons (pv 1) (pa_cons pe_int pa_nil)))) (pg_name (i := 3) sc_law_drawn.nd rfl (.inl rfl)) (pss_cons (ps_set (i := 4) sc_law_drawn.nd rfl (.inl rfl) (pe_df My (hr.mono (by omega)) (pa_cons (pv 1) (pa_cons (pv 2) (pa_cons (pv 3) pa_nil)))))
 (pss_one (ps_asg (pe_ix ix_list (pv 4) (pe_op op_mod (pe_callTy call_int1 (by rfl) B.int (by decide +kernel) (pa_cons (pe_df N (hr.mono (by omega)) (pa_cons (pv 0) pa_nil)) pa_nil)) (pe_callB call_len_seq (by rfl) B.len PySem.boot_len (pa_cons (pv 4) pa_nil))) (fun _ _ => rfl)) (pg_sub (pv 2) (pv 3) set_list)))))
 (pss_one (ps_ret (pv 2))))), ?_⟩
  refine ⟨one, fun P0 n0 => ⟨_, rfl, v, t, rfl, ht.same (Same.new n0), hh, ?_⟩⟩
  have s0 := Same.new (o := .lst [V.non]) n0
  refine ⟨P0, _, _, rfl, rfl, upd_same, by omega, by omega, ?_, fun T nT => ?_⟩
  · show 1 * _ ≤ 16777216
    omega
  have sT := Same.new (o := .lst (List.replicate ((t.size : Nat) : Int).toNat [V.non]).flatten) nT
  have s01 := s0.trans sT
  have e0 : (List.replicate ((t.size : Nat) : Int).toNat [V.non]).flatten = (List.replicate t.size (none : Option Str)).map optS := by
    rw [Int.toNat_natCast, List.map_replicate]
    have key : ∀ m : Nat, (List.replicate m [V.non]).flatten = List.replicate m V.non := fun m => by
      induction m with
      | zero => rfl
      | succ m ih => rw [List.replicate_succ, List.flatten_cons, ih, List.replicate_succ]; rfl
    exact key _
  have nTp : T ≠ p := (hd.same s0).ne nT
  have nT0 : H T = none := s0.free nT
  have eT : (upd (upd H P0 (.lst [V.non])) T (.lst (List.replicate ((t.size : Nat) : Int).toNat [V.non]).flatten)) T = some (.lst ((List.replicate t.size (none : Option Str)).map optS)) := by rw [upd_same, e0]
  generalize upd (upd H P0 (.lst [V.non])) T (.lst (List.replicate ((t.size : Nat) : Int).toNat [V.non]).flatten) = H1 at s01 eT ⊢
  clear s0 sT n0 nT e0
  have d1 := hd.same s01
  refine ⟨_, rfl, v, t, 0, rfl, ht.same s01, hh, hz, fun H2 M s2 nM eM => ?_⟩
  have d2 := d1.same s2
  have eT2 := s2 _ _ eT
  have ht2 := ht.same (s01.trans s2)
  have kp2 : Keep p H H2 := .of (s01.trans s2)
  have nMT : M ≠ T := fun z => by rw [z, eT] at nM; cases nM
  have nMp : M ≠ p := d1.ne nM
  have nd := nds_nodup t 0
  have ln := nds_len t 0
  refine ⟨M, rfl, ⟨_, .of eM⟩, for_list (xs := (nds t 0).map natV) (fun i σ H' => (∃ y3 y4 : Option V, σ = [some (.ref p), some v, some (.ref T), y3, y4]) ∧ Stay [p, T] H2 H' ∧ DrAt H' p (k + i) ∧ ∃ os : List (Option Str), H' T = some (.lst (os.map optS)) ∧ os.length = t.size ∧ ∀ m, m ∈ (nds t 0).take i → ∃ s, os[m]? = some (some s) ∧ s ∈ mayOf (labO os) (pOf t 0 m)) ⟨⟨none, none, rfl⟩, .refl _ _, d2, List.replicate t.size none, eT2, List.length_replicate, fun m h => (by rw [List.take_zero] at h; cases h)⟩ (fun i σ H' _ h' => .of (h'.2.1 _ _ (no2 nMp nMT) eM)) (fun i x σ H3 hx h3 => ?_) (fun σ H3 h3 => ?_)⟩
  · obtain ⟨⟨y3, y4, rfl⟩, st3, d3, os, eT3, lo, hos⟩ := h3
    rw [List.getElem?_map] at hx
    obtain ⟨m, hm, rfl⟩ := Option.map_eq_some_iff.mp hx
    have hi := (List.getElem?_eq_some_iff.mp hm).1
    have hm2 := nds_in.mp (List.mem_of_getElem? hm)
    have X2 : ∀ x, x ∈ [p, T] → ∃ ys, H2 x = some (.lst ys) := fun x hx => by
      rcases List.mem_cons.mp hx with z | z
      · obtain ⟨_, _, _, e, _⟩ := d2
        rw [z]
        exact ⟨_, e⟩
      · rw [List.mem_singleton.mp z]
        exact ⟨_, eT2⟩
    have ht3 := ht2.stay st3 X2
    refine ⟨_, rfl, _, rfl, _, rfl, v, t, T, m, os.map optS, labO os, rfl, ht3, hh, by omega, hz, eT3, fun z hz2 => ?_, fun H4 S s4 nS eS => ?_⟩
    · obtain ⟨s, h1, h2⟩ := hos z.1 (anc_before hm hz2)
      have e := labO_at h1
      refine ⟨?_, ?_⟩
      · rw [List.getElem?_map, h1, e]
        rfl
      · rw [e]
        exact may_words _ _ h2
    obtain ⟨mp, m3⟩ := may_ne (labO os) (pOf t 0 m)
    have d4 := d3.same s4
    have nSp : S ≠ p := d3.ne nS
    have eT4 := s4 _ _ eT3
    refine ⟨_, rfl, _, rfl, p, k + i, rfl, d4, by omega, fun H5 r5 kp5 d5 b1 b2 => .inl ⟨_, rfl, _, rfl, S, _, rfl, .inl (.of (kp5 _ _ nSp eS)), _, _, rfl, rfl, ?_, ?_⟩⟩
    · show (0 : Int) < ((((mayOf (labO os) (pOf t 0 m)).map V.str).length : Nat) : Int)
      rw [List.length_map]
      omega
    have w1 := Int.emod_nonneg r5 (show ((((mayOf (labO os) (pOf t 0 m)).map V.str).length : Nat) : Int) ≠ 0 by rw [List.length_map]; omega)
    have w2 := Int.emod_lt_of_pos r5 (show (0 : Int) < ((((mayOf (labO os) (pOf t 0 m)).map V.str).length : Nat) : Int) by rw [List.length_map]; omega)
    obtain ⟨x, hx, l, rfl, hl⟩ := at_any (xs := (mayOf (labO os) (pOf t 0 m)).map V.str) (C := fun x => ∃ l, x = V.str l ∧ l ∈ mayOf (labO os) (pOf t 0 m)) (fun x hx => by
      obtain ⟨l, hl, rfl⟩ := List.mem_map.mp hx
      exact ⟨l, rfl, hl⟩) w1 w2
    have eT5 := kp5 _ _ nTp eT4
    refine ⟨S, _, _, _, rfl, rfl, .of (kp5 _ _ nSp eS), hx, ?_⟩
    refine ⟨_, rfl, _, rfl, T, _, _, _, rfl, rfl, eT5, ixN_in (by omega) (by rw [List.length_map, lo]; omega), ?_⟩
    have hmo : m < os.length := by omega
    refine ⟨⟨_, _, rfl⟩, ?_, DrAt.put (DrAt.mono d5 (show k + i + 1 ≤ k + (i + 1) by omega)) nTp, os.set m (some l), ?_, by rw [List.length_set, lo], fun m2 hm2' => ?_⟩
    · exact ((st3.then s4).trans (fun b o nb e => kp5 b o (fun z => nb (by rw [z]; exact List.mem_cons_self)) e)).put (List.mem_cons_of_mem _ List.mem_cons_self)
    · rw [upd_same, List.map_set]
      rfl
    · -- what stood there stays
      have anc : ∀ m3, m3 ∈ (nds t 0).take (i + 1) → ∀ z, z ∈ pOf t 0 m3 → labO (os.set m (some l)) z.1 = labO os z.1 := fun m3 h3 z hz3 => by
        obtain ⟨j, hj⟩ := List.mem_iff_getElem?.mp h3
        rw [List.getElem?_take] at hj
        have hj1 : j < i + 1 := by
          by_cases c : j < i + 1
          · exact c
          · rw [if_neg c] at hj
            cases hj
        rw [if_pos hj1] at hj
        have h4 := anc_before hj hz3
        have ne : z.1 ≠ m := fun e => by
          rw [e] at h4
          obtain ⟨j2, hj2⟩ := List.mem_iff_getElem?.mp h4
          rw [List.getElem?_take] at hj2
          have hj3 : j2 < j := by
            by_cases c : j2 < j
            · exact c
            · rw [if_neg c] at hj2
              cases hj2
          rw [if_pos hj3] at hj2
          exact nodup_at nd (show j2 < i by omega) hj2 hm
        unfold labO
        rw [List.getD_eq_getElem?_getD, List.getD_eq_getElem?_getD, List.getElem?_set_ne (Ne.symm ne)]
      rw [may_same (fun z hz3 => anc m2 hm2' z hz3)]
      rw [List.take_add_one, hm] at hm2'
      rcases List.mem_append.mp hm2' with g | g
      · obtain ⟨s, h1, h2⟩ := hos m2 g
        have ne : m2 ≠ m := fun e => by
          rw [e] at g
          obtain ⟨j2, hj2⟩ := List.mem_iff_getElem?.mp g
          rw [List.getElem?_take] at hj2
          have hj3 : j2 < i := by
            by_cases c : j2 < i
            · exact c
            · rw [if_neg c] at hj2
              cases hj2
          rw [if_pos hj3] at hj2
          exact nodup_at nd hj3 hj2 hm
        exact ⟨s, by rw [List.getElem?_set_ne (Ne.symm ne)]; exact h1, h2⟩
      · have e : m2 = m := by simpa using g
        rw [e]
        exact ⟨l, by rw [List.getElem?_set_self hmo], hl⟩
  · obtain ⟨⟨y3, y4, rfl⟩, st3, d3, os, eT3, lo, hos⟩ := h3
    rw [List.length_map, ln] at d3
    rw [List.length_map, List.take_length] at hos
    have all : ∀ i, i < t.size → ∃ s, os[i]? = some (some s) ∧ s ∈ mayOf (labO os) (pOf t 0 i) := fun i hi => hos i (nds_in.mpr ⟨Nat.zero_le _, by omega⟩)
    have each : ∀ o, o ∈ os → ∃ s, o = some s ∧ PyData.strOk s = true := fun o ho => by
      obtain ⟨i, hi⟩ := List.mem_iff_getElem?.mp ho
      obtain ⟨s, h1, h2⟩ := all i (by have := (List.getElem?_eq_some_iff.mp hi).1; omega)
      rw [h1] at hi
      exact ⟨s, (Option.some.inj hi).symm, may_words _ _ h2⟩
    obtain ⟨ls, e, ok⟩ : ∃ ls : List Str, os = ls.map some ∧ StrsOk ls := by
      have key : ∀ l : List (Option Str), (∀ o, o ∈ l → ∃ s, o = some s ∧ PyData.strOk s = true) → ∃ ls : List Str, l = ls.map some ∧ StrsOk ls := fun l => by
        induction l with
        | nil => intro _; exact ⟨[], rfl, fun x h => (by cases h)⟩
        | cons o r ih =>
          intro h
          obtain ⟨ls, e, ok⟩ := ih fun x hx => h x (List.mem_cons_of_mem _ hx)
          obtain ⟨s, e2, o2⟩ := h o List.mem_cons_self
          refine ⟨s :: ls, by rw [e2, e]; rfl, fun x hx => ?_⟩
          rcases List.mem_cons.mp hx with z | z
          · rw [z]; exact o2
          · exact ok x z
      exact key os each
    subst e
    rw [List.length_map] at lo
    have labs : ∀ i, i < t.size → labO (ls.map some) i = strAt ls i := fun i hi => by
      refine labO_at ?_
      rw [List.getElem?_map, List.getElem?_eq_getElem (by omega)]
      unfold strAt
      rw [List.getD_eq_getElem?_getD, List.getElem?_eq_getElem (by omega)]
      rfl
    refine ⟨_, rfl, q H3 T ls (fun b o nb e => ?_) d3 nT0 ?_ lo ok ?_⟩
    · exact st3 _ _ (no2 nb (fun z => by rw [z, nT0] at e; cases e)) (kp2 _ _ nb e)
    · rw [eT3, List.map_map]
      rfl
    · rw [imp_nds]
      refine List.find?_eq_none.mpr fun m hm => ?_
      have hm2 := nds_in.mp hm
      obtain ⟨s, h1, h2⟩ := all m (by omega)
      have e2 : strAt ls m = s := by
        rw [← labs m (by omega)]
        exact labO_at h1
      rw [may_same (lab' := labO (ls.map some)) fun z hz3 => (labs z.1 (by have := pOf_in0 t m z hz3; omega)).symm, e2, decide_eq_true h2]
      decide
end
end HSP
namespace HSP
open PySem PySem.Spec PyProof.Rows L2
/-! ## data in which empty dicts may stand, and their repr -/
mutual
inductive DpE (K : PySem.W.Frag) (H : Hp) : V → PyData → Prop
  | non' : DpE K H .non .none
  | bl' (b : Bool) : DpE K H (.bl b) (.bool b)
  | int' (i : Int) : DpE K H (.int i) (.int i)
  | str' (x : Str) : DpE K H (.str x) (.str x)
  | emp {p : Addr} : H p = some (.dK []) → DpE K H (.ref p) (.dict [])
  | lst' {p : Addr} {ys : List V} {es : List PyData} : SqL K H p ys → DpEs K H ys es → DpE K H (.ref p) (.list es)
  | tup' {p : Addr} {ys : List V} {es : List PyData} : SqT K H p ys → DpEs K H ys es → DpE K H (.ref p) (.tuple es)
inductive DpEs (K : PySem.W.Frag) (H : Hp) : List V → List PyData → Prop
  | nil' : DpEs K H [] []
  | cons' {y : V} {ys : List V} {e : PyData} {es : List PyData} : DpE K H y e → DpEs K H ys es → DpEs K H (y :: ys) (e :: es)
end
mutual
theorem DpE.of {K : PySem.W.Frag} {H : Hp} : ∀ (d : PyData) (v : V), Dp K H v d → DpE K H v d
  | .none, _, h => by cases h; exact .non'
  | .bool b, _, h => by cases h; exact .bl' b
  | .int i, _, h => by cases h; exact .int' i
  | .str x, _, h => by cases h; exact .str' x
  | .list ds, _, h => by
    cases h with
    | lst a b => exact .lst' a (DpEs.of ds _ b)
  | .tuple ds, _, h => by
    cases h with
    | tup a b => exact .tup' a (DpEs.of ds _ b)
  | .dict _, _, h => by cases h
theorem DpEs.of {K : PySem.W.Frag} {H : Hp} : ∀ (ds : List PyData) (vs : List V), DpAll K H vs ds → DpEs K H vs ds
  | [], _, h => by cases h; exact .nil'
  | d :: ds, _, h => by
    cases h with
    | cons a b => exact .cons' (DpE.of d _ a) (DpEs.of ds _ b)
end
theorem seqT_same {K : PySem.W.Frag} {H H' : Hp} {a : Addr} {xs : List V} (e : Same H H') (h : SqT K H a xs) : SqT K H' a xs := by
  rcases h with (h | ⟨o, h⟩) | h
  · exact .inl (.inl (e _ _ h))
  · exact .inl (.inr ⟨o, e _ _ h⟩)
  · exact .inr h
mutual
theorem DpE.same {K : PySem.W.Frag} {H H' : Hp} (s : Same H H') : ∀ (d : PyData) (v : V), DpE K H v d → DpE K H' v d
  | .none, _, h => by cases h; exact .non'
  | .bool b, _, h => by cases h; exact .bl' b
  | .int i, _, h => by cases h; exact .int' i
  | .str x, _, h => by cases h; exact .str' x
  | .list ds, _, h => by
    cases h with
    | lst' a b => exact .lst' (Same.seq s a) (DpEs.same s ds _ b)
  | .tuple ds, _, h => by
    cases h with
    | tup' a b => exact .tup' (seqT_same s a) (DpEs.same s ds _ b)
  | .dict [], _, h => by
    cases h with
    | emp e => exact .emp (s _ _ e)
  | .dict (_ :: _), _, h => by cases h
theorem DpEs.same {K : PySem.W.Frag} {H H' : Hp} (s : Same H H') : ∀ (ds : List PyData) (vs : List V), DpEs K H vs ds → DpEs K H' vs ds
  | [], _, h => by cases h; exact .nil'
  | d :: ds, _, h => by
    cases h with
    | cons' a b => exact .cons' (DpE.same s d _ a) (DpEs.same s ds _ b)
end
section
variable {X : Cx} {pins : List (Addr × Obj)} {σ : L2.St} {H : Hp} {s : Shared}
theorem no_pairs {P : Program} {w : World} {h : Heap} {p : Addr} {H : Hp} (x : ObjOk P w H h p (.dK [])) : (p == sysModules) = false ∧ ∃ o n, h.get? p = some o ∧ o.cls = .type "dict" ∧ o.data = .dict #[] n := by
  obtain ⟨_, sy, us, kv, o, es, ep, ho, ex, hd, _, ps, _⟩ := x
  cases kv
  obtain ⟨l⟩ := es
  cases l with
  | cons e r => cases ps
  | nil => exact ⟨sy, o, ep, ho, ex.1, hd⟩
mutual
theorem DpE.shows (I : Inv X pins σ H s) : ∀ (d : PyData) (v : V) (u : Value), DpE X.K H v d → RelV v u → d.showable = true → d.shown.length ≤ sizeLine → (∃ as, Reads s.heap u d as) ∧ ∃ bs, ReadAtMost s.heap d.depth bs ∧ ReprK X.prog X.w bs s.heap d.depth u d.shown
  | .none, _, _, h, r, g, z => by
    cases h
    cases r
    exact ⟨⟨_, .none⟩, ReprK.of_reads .none g (fun q => by simp [PyData.hasDict] at q) z⟩
  | .bool b, _, _, h, r, g, z => by
    cases h
    cases r
    exact ⟨⟨_, .bool b⟩, ReprK.of_reads (.bool b) g (fun q => by simp [PyData.hasDict] at q) z⟩
  | .int i, _, _, h, r, g, z => by
    cases h
    obtain ⟨k, rfl⟩ := r
    exact ⟨⟨_, .int i k⟩, ReprK.of_reads (.int i k) g (fun q => by simp [PyData.hasDict] at q) z⟩
  | .str x, _, _, h, r, g, z => by
    cases h
    obtain ⟨k, rfl⟩ := r
    exact ⟨⟨_, .str x k⟩, ReprK.of_reads (.str x k) g (fun q => by simp [PyData.hasDict] at q) z⟩
  | .dict [], _, _, h, r, _, _ => by
    cases h with
    | emp e =>
      cases r
      obtain ⟨sy, o, n, ho, hc, hd⟩ := no_pairs (I.hok _ _ e)
      have rd : ∃ as, Reads s.heap (.ref _) (.dict []) as := ⟨_, .dict ho hc hd .nil .nil⟩
      obtain ⟨as, rd⟩ := rd
      refine ⟨⟨as, rd⟩, [_], fun b hb => ⟨_, as, by rw [List.mem_singleton.mp hb]; exact rd, Nat.le_refl _⟩, ?_⟩
      have k := ReprK.dict (prog := X.prog) (w := X.w) (as := []) (h₀ := s.heap) (d := 0) ho hc hd sy (by simp) .nil
      simpa [PyData.depth, PyData.depthKv, PyData.shown, PyData.shownKv] using k
  | .dict (_ :: _), _, _, h, _, _, _ => by cases h
  | .list ds, _, _, h, r, g, z => by
    cases h with
    | lst' hs ha =>
      cases r
      obtain ⟨its, rv, ⟨o, n, ho, hc, _, hd⟩, _⟩ := I.list hs
      have z1 : (listText (PyData.shownAll ds)).length ≤ sizeLine := by simpa only [PyData.shown] using z
      obtain ⟨⟨as, hr⟩, bs, hb, hk⟩ := DpEs.shows I ds _ its ha rv (by simpa [PyData.showable] using g) fun t ht => Nat.le_trans (listText_mem_le ht) z1
      have rd := Reads.list ho hc hd hr
      refine ⟨⟨_, rd⟩, _ :: bs, ReadAtMost.cons rd (by simp only [PyData.depth]; omega) hb, ?_⟩
      have no := not_mem_of_deeper rd (by simp only [PyData.depth]; omega) hb
      simp only [PyData.depth, PyData.shown]
      cases its with
      | nil =>
        cases hr
        simp only [PyData.shownAll, listText_nil]
        exact ReprK.listEmpty ho hc hd
      | cons y r =>
        exact ReprK.list ho hc hd no (by simpa using hk.length_eq) fun i y e => hk.item i y (by simpa using e)
  | .tuple ds, _, _, h, r, g, z => by
    cases h with
    | tup' hs ha =>
      cases r
      obtain ⟨its, rv, ⟨o, ho, hc, n, hd⟩, _⟩ := I.tuple hs
      have z1 : (tupleText (PyData.shownAll ds)).length ≤ sizeLine := by simpa only [PyData.shown] using z
      obtain ⟨⟨as, hr⟩, bs, hb, hk⟩ := DpEs.shows I ds _ its ha rv (by simpa [PyData.showable] using g) fun t ht => Nat.le_trans (tupleText_mem_le ht) z1
      have rd := Reads.tuple ho hc hd hr
      refine ⟨⟨_, rd⟩, _ :: bs, ReadAtMost.cons rd (by simp only [PyData.depth]; omega) hb, ?_⟩
      simp only [PyData.depth, PyData.shown]
      exact ReprK.tuple ho hc hd (not_mem_of_deeper rd (by simp only [PyData.depth]; omega) hb) hk
theorem DpEs.shows (I : Inv X pins σ H s) : ∀ (ds : List PyData) (vs : List V) (us : List Value), DpEs X.K H vs ds → Vals vs us → PyData.showableAll ds = true → (∀ t ∈ PyData.shownAll ds, t.length ≤ sizeLine) → (∃ as, ReadsAll s.heap us ds as) ∧ ∃ bs, ReadAtMost s.heap (PyData.depthAll ds) bs ∧ ReprAllK X.prog X.w bs s.heap (PyData.depthAll ds) us (PyData.shownAll ds)
  | [], _, _, h, r, _, _ => by
    cases h
    cases r
    exact ⟨⟨_, .nil⟩, [], fun _ q => (by cases q), by simp only [PyData.shownAll]; exact .nil⟩
  | d :: ds, _, _, h, r, g, z => by
    cases h with
    | cons' h1 h2 =>
      cases r with
      | cons r1 r2 =>
        have g2 : d.showable = true ∧ PyData.showableAll ds = true := by simpa [PyData.showableAll] using g
        obtain ⟨⟨a1, q1⟩, b1, m1, k1⟩ := DpE.shows I d _ _ h1 r1 g2.1 (z _ (by simp only [PyData.shownAll]; exact List.mem_cons_self))
        obtain ⟨⟨a2, q2⟩, b2, m2, k2⟩ := DpEs.shows I ds _ _ h2 r2 g2.2 fun t ht => z t (by simp only [PyData.shownAll]; exact List.mem_cons_of_mem _ ht)
        have l1 : d.depth ≤ PyData.depthAll (d :: ds) := by simp only [PyData.depthAll]; omega
        have l2 : PyData.depthAll ds ≤ PyData.depthAll (d :: ds) := by simp only [PyData.depthAll]; omega
        refine ⟨⟨_, .cons q1 q2⟩, b1 ++ b2, (m1.mono l1).append (m2.mono l2), ?_⟩
        simp only [PyData.shownAll]
        exact .cons ((k1.more fun b q => List.mem_append_left _ q).level_le l1) (k2.more_le (fun b q => List.mem_append_right _ q) l2)
end
end
section
variable {X : Cx}
/-- repr of a list of such data -/
def rReprE (K : PySem.W.Frag) : List V → Hp → VK → Prop := fun vs H Q => ∃ (p : Addr) (ys : List V) (es : List PyData), vs = [.ref p] ∧ H p = some (.lst ys) ∧ DpEs K H ys es ∧ (PyData.list es).showable = true ∧ (PyData.list es).depth ≤ 60 ∧ (PyData.list es).shown.length ≤ sizeLine ∧ Q (.str (PyData.list es).shown) H
theorem cr_reprE (hgd : X.A.guards = some []) (hu : X.A.units + 64 < cLine) : CallR X (.builtin "repr") (rReprE X.K) := by
  intro pins s σ H vs us Q I r h
  obtain ⟨p, ys, es, rfl, hp, ha, g, h60, z, q⟩ := h
  rw [Vals.ref1 r]
  obtain ⟨its, rv, ⟨o, n, ho, hc, _, hd⟩, _⟩ := I.list (.of hp)
  have z1 : (listText (PyData.shownAll es)).length ≤ sizeLine := by simpa only [PyData.shown] using z
  obtain ⟨⟨as, hr⟩, bs, hb, hk⟩ := DpEs.shows I es _ its ha rv (by simpa [PyData.showable] using g) fun t ht => Nat.le_trans (listText_mem_le ht) z1
  have rd := Reads.list ho hc hd hr
  have no := not_mem_of_deeper rd (by simp only [PyData.depth]; omega) hb
  have ty : s.TypeIs (.ref p) "list" := ⟨o, ho, hc⟩
  have fin : ∀ h' u tk, (∀ b o, s.heap.get? b = some o → h'.get? b = some o) → (fun v s1 => ∃ y H', Inv X pins σ H' s1 ∧ RelV y v ∧ Q y H') (.str (PyData.list es).shown u) { s with heap := h', toks := tk } := fun h' u tk kp => ⟨.str _, H, I.kept kp, ⟨u, rfl⟩, q⟩
  have dp : (PyData.list es).depth = PyData.depthAll es + 1 := by simp only [PyData.depth]
  simp only [PyData.shown] at fin
  refine call_repr_slot (by omega) ty F.slot_list_repr.toG ?_
  cases its with
  | nil =>
    cases hr
    simp only [PyData.shownAll, listText_nil] at fin
    exact call_list_repr_empty ⟨o, ho, hc⟩ ho hd ⟨_, _, rfl, fin s.heap _ _ fun _ _ e => e⟩
  | cons y l =>
    exact call_list_reprK ho hc hd no (by simpa using hk.length_eq) (fun i y e => hk.item i y (by simpa using e)) hgd (fun b _ => Clear.nil b) (by show X.A.units + 1 + (PyData.depthAll es + 1) < cLine; omega) (fun _ _ e => e) (fun h' u tk kp => ⟨_, _, rfl, fin h' u tk kp⟩) z1
end
end HSP
namespace HSP
open PySem PySem.Spec PyProof.Rows L2
/-! ## how long the text of data is -/
mutual
def ndD : PyData → Nat
  | .list xs => 1 + ndDs xs
  | .tuple xs => 1 + ndDs xs
  | _ => 1
def ndDs : List PyData → Nat
  | [] => 0
  | x :: r => ndD x + ndDs r
end
mutual
def okD : PyData → Bool
  | .int i => decide (i.natAbs < 10 ^ 30)
  | .str s => decide ((reprText s).length ≤ 40)
  | .dict kvs => kvs.isEmpty
  | .list xs => okDs xs
  | .tuple xs => okDs xs
  | _ => true
def okDs : List PyData → Bool
  | [] => true
  | x :: r => okD x && okDs r
end
theorem okDs_all : ∀ {l : List PyData}, (∀ x, x ∈ l → okD x = true) → okDs l = true
  | [], _ => by simp [okDs]
  | x :: r, h => by
    have ih := okDs_all (l := r) fun y hy => h y (List.mem_cons_of_mem _ hy)
    simp [okDs, h x List.mem_cons_self, ih]
theorem ndDs_le (c : Nat) : ∀ {l : List PyData}, (∀ x, x ∈ l → ndD x ≤ c) → ndDs l ≤ c * l.length
  | [], _ => by simp [ndDs]
  | x :: r, h => by
    have ih := ndDs_le c (l := r) fun y hy => h y (List.mem_cons_of_mem _ hy)
    have h1 := h x List.mem_cons_self
    simp only [ndDs, List.length_cons, Nat.mul_succ]
    omega
theorem depthAll_le (c : Nat) : ∀ {l : List PyData}, (∀ x, x ∈ l → x.depth ≤ c) → PyData.depthAll l ≤ c
  | [], _ => by simp [PyData.depthAll]
  | x :: r, h => by
    have ih := depthAll_le c (l := r) fun y hy => h y (List.mem_cons_of_mem _ hy)
    have h1 := h x List.mem_cons_self
    simp only [PyData.depthAll]
    omega
mutual
theorem shown_nd : ∀ d : PyData, okD d = true → d.showable = true ∧ d.shown.length + 2 ≤ 60 * ndD d
  | .none, _ => ⟨by simp [PyData.showable], by simp only [PyData.shown, ndD]; decide +kernel⟩
  | .bool true, _ => ⟨by simp [PyData.showable], by simp only [PyData.shown, ndD]; decide +kernel⟩
  | .bool false, _ => ⟨by simp [PyData.showable], by simp only [PyData.shown, ndD]; decide +kernel⟩
  | .int i, h => by
    have h1 : i.natAbs < 10 ^ 30 := by simpa only [okD, decide_eq_true_eq] using h
    have h2 := int_len h1
    refine ⟨?_, ?_⟩
    · have := int_log h1
      simpa [PyData.showable] using this
    · simp only [ndD]
      omega
  | .str s, h => by
    have h1 : (reprText s).length ≤ 40 := by simpa only [okD, decide_eq_true_eq] using h
    refine ⟨by simp [PyData.showable], ?_⟩
    simp only [PyData.shown, ndD]
    omega
  | .dict [], _ => ⟨by simp [PyData.showable, PyData.showableKv], by simp only [PyData.shown, PyData.shownKv, ndD]; decide +kernel⟩
  | .dict (_ :: _), h => by simp [okD] at h
  | .list xs, h => by
    obtain ⟨h1, h2⟩ := shown_nds xs (by simpa only [okD] using h)
    have h3 := listText_le (PyData.shownAll xs)
    refine ⟨by simpa [PyData.showable] using h1, ?_⟩
    simp only [PyData.shown, ndD]
    omega
  | .tuple xs, h => by
    obtain ⟨h1, h2⟩ := shown_nds xs (by simpa only [okD] using h)
    have h3 := tupleText_le (PyData.shownAll xs)
    refine ⟨by simpa [PyData.showable] using h1, ?_⟩
    simp only [PyData.shown, ndD]
    omega
theorem shown_nds : ∀ l : List PyData, okDs l = true → PyData.showableAll l = true ∧ piled (PyData.shownAll l) ≤ 60 * ndDs l
  | [], _ => ⟨by simp [PyData.showableAll], by simp [PyData.shownAll, piled_nil]⟩
  | x :: r, h => by
    have h0 : okD x = true ∧ okDs r = true := by simpa only [okDs, Bool.and_eq_true] using h
    obtain ⟨a1, a2⟩ := shown_nd x h0.1
    obtain ⟨b1, b2⟩ := shown_nds r h0.2
    refine ⟨by simp [PyData.showableAll, a1, b1], ?_⟩
    simp only [PyData.shownAll, piled_cons, ndDs]
    omega
end
/-- data that repr shows -/
structure FineE (d : PyData) : Prop where
  ok : okD d = true
  nd : ndD d ≤ 100000
  deep : d.depth ≤ 50
theorem FineE.len {d : PyData} (f : FineE d) : d.shown.length ≤ sizeLine := by
  have h := (shown_nd d f.ok).2
  have h2 := f.nd
  show d.shown.length ≤ 16777216
  omega
theorem FineE.shows {d : PyData} (f : FineE d) : d.showable = true := (shown_nd d f.ok).1
end HSP
namespace HSP
open PySem PySem.Spec PyProof.Rows L2
/-! ### what does not stand at some places -/
def rs (A : List Addr) (H : Hp) : Hp := fun b => if b ∈ A then none else H b
theorem rs_up {A : List Addr} {H : Hp} {b : Addr} {o : HO} (e : rs A H b = some o) : b ∉ A ∧ H b = some o := by
  unfold rs at e
  by_cases c : b ∈ A
  · rw [if_pos c] at e
    cases e
  · rw [if_neg c] at e
    exact ⟨c, e⟩
theorem rs_in {A : List Addr} {H : Hp} {b : Addr} {o : HO} (n : b ∉ A) (e : H b = some o) : rs A H b = some o := by
  unfold rs
  rw [if_neg n]
  exact e
theorem rsS {A : List Addr} {H H' : Hp} (s : Same H H') : Same (rs A H) (rs A H') := fun b o e => by
  obtain ⟨h1, h2⟩ := rs_up e
  exact rs_in h1 (s _ _ h2)
theorem rsK {A : List Addr} {H H' : Hp} {p : Addr} (k : Keep p H H') (h : p ∈ A) : Same (rs A H) (rs A H') := fun b o e => by
  obtain ⟨h1, h2⟩ := rs_up e
  exact rs_in h1 (k _ _ (fun z => h1 (by rw [z]; exact h)) h2)
theorem rs_sub {A : List Addr} {H : Hp} : Same (rs A H) H := fun b o e => (rs_up e).2
def Trk (A : List Addr) (H : Hp) : Prop := ∀ a, a ∈ A → H a ≠ none
theorem Trk.same {A : List Addr} {H H' : Hp} (t : Trk A H) (s : Same H H') : Trk A H' := fun a ha z => by
  cases e : H a with
  | none => exact t a ha e
  | some o =>
    rw [s _ _ e] at z
    cases z
theorem Trk.out {A : List Addr} {H : Hp} (t : Trk A H) {v : Addr} (n : H v = none) : v ∉ A := fun h => t v h n
theorem rs_new {A : List Addr} {H Hx : Hp} (t : Trk A H) {v : Addr} {o : HO} (n : H v = none) (e : Hx v = some o) : rs A Hx v = some o := rs_in (t.out n) e
end HSP
namespace HSP
open PySem PySem.Spec PyProof.Rows L2
section
variable {P : Program} {w : World} {K : PySem.W.Frag} {mg : Str → Option Value} {base : Heap}
/-! ### check_pattern where nothing is amiss -/
theorem strs_labels {K : PySem.W.Frag} {H : Hp} : ∀ {ls : List Str}, StrsOk ls → Paired (LabelAt K H) (ls.map V.str) (ls.map some)
  | [], _ => .nil
  | l :: ls, h => .cons ⟨rfl, h l List.mem_cons_self⟩ (strs_labels fun x hx => h x (List.mem_cons_of_mem _ hx))
def spChkSG : Sp := fun vs H Q _ => ∃ (v : V) (t : Tr) (p : Addr) (ls : List Str), vs = [v, .ref p] ∧ TrAt H v t ∧ t.size ≤ 300 ∧ H p = some (.lst (ls.map V.str)) ∧ ls.length = t.size ∧ ∀ H', Same H H' → Q .non H'
theorem ok_chkSG (B : Bl mg) (Co : Df P w K mg base "count_nodes" 1 ["tree"] spCount) (Ct : Df P w K mg base "check_tree" 2 ["tree"] spChkT) (a : At K mg "check_strings" s_check_strings) : Df P w K mg base "check_strings" 3 ["tree", "pattern"] spChkSG := by
  refine Df.mk' a sc_check_strings (fun vs H Q E h => ?_) (fun _ _ _ _ _ _ us hl => match us, hl with | [_, _], _ => rfl) (fun f cdv A outer s H vs Q E hr h => ?_)
  · obtain ⟨_, _, _, _, rfl, _⟩ := h
    rfl
  obtain ⟨v, t, p, ls, rfl, ht, hz, ep, ll, q⟩ := h
  refine ⟨_, (pss_cons (ps_expr (pe_df Ct hr (pa_cons (pv 0) pa_nil)))
 (pss_cons (ps_if (PW.pt (pw_or (pt_not (pt_val (pe_callB call_isi (by rfl) B.isinstance (by decide +kernel) (pa_cons (pv 1) (pa_cons (pe_bltn (v := .ty "list") (by rfl) B.list (by decide +kernel) rfl) pa_nil))))) (pw_or1 (pt_cmpR op_ne (pe_callB call_len_seq (by rfl) B.len PySem.boot_len (pa_cons (pv 1) pa_nil)) (pe_df Co (hr.mono (by decide)) (pa_cons (pv 0) pa_nil)) (nomark _))))) (pss_one ps_never) pss_nil)
 (pss_one (ps_for PassesOwn.never rfl (pi_list (pv 1)) (pg_name (i := 2) sc_check_strings.nd rfl (.inl rfl)) (pss_one (ps_if (pt_not (pt_val (pe_callB call_isi (by rfl) B.isinstance (by decide +kernel) (pa_cons (pv 2) (pa_cons (pe_bltn (v := .ty "str") (by rfl) B.str (by decide +kernel) rfl) pa_nil))))) (pss_one ps_never) pss_nil)))))), ?_⟩
  refine ⟨_, rfl, v, t, rfl, ht, by omega, fun H1 s1 => ?_⟩
  have ep1 := s1 _ _ ep
  refine ⟨_, rfl, _, _, _, _, true, rfl, .ty "list", .base (.lst ep1), rfl, true, rfl, iteF ?_⟩
  refine ⟨_, rfl, p, _, rfl, .inl (.of ep1), _, rfl, v, t, rfl, ht.same s1, by omega, fun H2 s12 => ⟨rfl, _, rfl, ?_⟩⟩
  have s1 := s1.trans s12
  rw [decide_eq_true (show V.int (((ls.map V.str).length : Nat) : Int) = V.int ((t.size : Nat) : Int) by rw [List.length_map, ll])]
  refine iteF ?_
  refine ⟨_, rfl, p, rfl, ⟨_, .of (s1 _ _ ep)⟩, for_list (xs := ls.map V.str) (fun i σ H' => (∃ y2 : Option V, σ = [some v, some (.ref p), y2]) ∧ Same H H') ⟨⟨none, rfl⟩, s1⟩ (fun i σ H' _ h' => .of (h'.2 _ _ ep)) (fun i x σ H2 hx h2 => ?_) (fun σ H2 h2 => ?_)⟩
  · obtain ⟨⟨y2, rfl⟩, s2⟩ := h2
    rw [List.getElem?_map] at hx
    obtain ⟨l, _, rfl⟩ := Option.map_eq_some_iff.mp hx
    refine ⟨_, rfl, _, _, _, _, true, rfl, .ty "str", .base (.str l), kit_ty (by decide +kernel), true, rfl, iteF ?_⟩
    exact ⟨⟨_, rfl⟩, s2⟩
  · exact q H2 h2.2
def spChkG : Sp := fun vs H Q _ => ∃ (v : V) (t : Tr) (p : Addr) (ls : List Str), vs = [v, .ref p] ∧ TrAt H v t ∧ t.size ≤ 300 ∧ H p = some (.lst (ls.map V.str)) ∧ StrsOk ls ∧ ls.length = t.size ∧ impOf (strAt ls) t = none ∧ ∀ H', Same H H' → Q .non H'
theorem okB_chkG (Cs : Df P w K mg base "check_strings" 3 ["tree", "pattern"] spChkSG) (Im : Df P w K mg base "impossible_node" 3 ["tree", "pattern"] spImp) (a : At K mg "check_pattern" s_check_pattern) : DfB P w K mg base "check_pattern" 4 ["tree", "pattern"] ["pattern", "tree"] spChkG := by
  refine DfB.mk' a sc_check_pattern (fun vs H Q E h => ?_) (fun _ _ _ _ _ _ us hl => match us, hl with | [_, _], _ => rfl) (fun _ _ _ _ _ _ us hl => match us, hl with | [_, _], _ => rfl) (fun f cdv A outer s H vs Q E hr h => ?_)
  · obtain ⟨_, _, _, _, rfl, _⟩ := h
    rfl
  obtain ⟨v, t, p, ls, rfl, ht, hz, ep, ok, ll, good, q⟩ := h
  refine ⟨_, (pss_cons (ps_expr (pe_df Cs hr (pa_cons (pv 0) (pa_cons (pv 1) pa_nil))))
 (pss_cons (ps_set (i := 2) sc_check_pattern.nd rfl (.inl rfl) (pe_df Im hr (pa_cons (pv 0) (pa_cons (pv 1) pa_nil))))
 (pss_one (ps_if (pt_cmpR op_notN (pv 2) pe_non (nomark _)) (pss_one ps_never) pss_nil)))), ?_⟩
  refine ⟨_, rfl, _, rfl, v, t, p, ls, rfl, ht, hz, ep, ll, fun H1 s1 => ?_⟩
  refine ⟨_, rfl, _, rfl, v, t, p, ls, rfl, ht.same s1, hz, s1 _ _ ep, ok, ll, fun H2 s2 => ?_⟩
  refine ⟨_, rfl, rfl, _, rfl, ?_⟩
  rw [optN_non, good]
  exact iteF (q _ (s1.trans s2))
/-! ### what is told, as data -/
def optD : Option Nat → PyData
  | none => .none
  | some n => .int (n : Int)
def resDs : Option (Option Nat) → List PyData
  | none => [.str "told"]
  | some o => [.str "raised", optD o]
theorem res_dps {H : Hp} : ∀ r : Option (Option Nat), DpAll K H (resV r) (resDs r)
  | none => .cons (.str _) .nil
  | some none => .cons (.str _) (.cons .non .nil)
  | some (some n) => .cons (.str _) (.cons (.int _) .nil)
theorem res_shaped : ∀ r : Option (Option Nat), SeqAt.shaped (.list (resDs r)) = true
  | none => by decide +kernel
  | some none => by decide +kernel
  | some (some n) => by
    show (_ && _) = true
    simp [PyData.canLay0, PyData.depth, PyData.depthAll, PyData.canLayAll0, resDs, optD]
    decide +kernel
theorem res_told : ∀ r : Option (Option Nat), PyData.eqv (.list (resDs r)) (.list [.str "told"]) = r.isNone
  | none => by decide +kernel
  | some o => by
    have h : ((("raised" : String) : Str) == (("told" : String) : Str)) = false := by decide +kernel
    simp [resDs, PyData.eqv, PyData.eqvAll, h]
theorem res_fine {r : Option (Option Nat)} (h : ∀ i, r = some (some i) → i ≤ 1000) : FineE (.list (resDs r)) := by
  cases r with
  | none => exact ⟨by decide +kernel, by decide +kernel, by decide +kernel⟩
  | some o =>
    cases o with
    | none => exact ⟨by decide +kernel, by decide +kernel, by decide +kernel⟩
    | some n =>
      have := h n rfl
      have e : (10 : Nat) ^ 30 = 1000000000000000000000000000000 := by decide +kernel
      refine ⟨?_, (by show 3 ≤ 100000; decide), ?_⟩
      · have o1 : okD (.str "raised") = true := by decide +kernel
        have o2 : okD (.int (n : Int)) = true := by
          simp only [okD, decide_eq_true_eq]
          rw [e]
          omega
        simp only [resDs, optD, okD, okDs] at o1 o2 ⊢
        simp only [o1, o2, Bool.and_self]
      · simp only [resDs, optD, PyData.depth, PyData.depthAll]
        omega
theorem res_small {o : Option (List (Option Str))} {t : Tr} {r : Option (Option Nat)} (h : ResIs o t r) (z : t.size ≤ 300) : ∀ i, r = some (some i) → i ≤ 1000 := fun i hi => by
  rcases h with ⟨ls, _, e⟩ | ⟨_, e⟩
  · rw [hi] at e
    obtain ⟨n, h1, h2⟩ := Option.map_eq_some_iff.mp e.symm
    cases h2
    rw [imp_nds] at h1
    have := nds_in.mp (List.mem_of_find?_eq_some h1)
    omega
  · rw [hi] at e
    cases e
/-! ### labels as repr shows them -/
def LabG (K : PySem.W.Frag) (H : Hp) (z : V) : Prop := ∃ (o : Option Str) (d : PyData), LabelAt K H z o ∧ DpE K H z d ∧ okD d = true ∧ ndD d ≤ 2 ∧ d.depth ≤ 2
theorem LabG.same {H H' : Hp} {z : V} (s : Same H H') (h : LabG K H z) : LabG K H' z := by
  obtain ⟨o, d, a, b, c⟩ := h
  exact ⟨o, d, a.same s, DpE.same s _ _ b, c⟩
theorem labs_made {H : Hp} : ∀ {zs : List V}, (∀ z, z ∈ zs → LabG K H z) → ∃ (os : List (Option Str)) (ds : List PyData), Paired (LabelAt K H) zs os ∧ DpEs K H zs ds ∧ okDs ds = true ∧ ndDs ds ≤ 2 * zs.length ∧ PyData.depthAll ds ≤ 2
  | [], _ => ⟨[], [], .nil, .nil', by simp [okDs], by simp [ndDs], by simp [PyData.depthAll]⟩
  | z :: zs, h => by
    obtain ⟨os, ds, a, b, c, d, e⟩ := labs_made fun x hx => h x (List.mem_cons_of_mem _ hx)
    obtain ⟨o, x, a1, b1, c1, d1, e1⟩ := h z List.mem_cons_self
    refine ⟨o :: os, x :: ds, .cons a1 a, .cons' b1 b, by simp [okDs, c, c1], ?_, ?_⟩
    · simp only [ndDs, List.length_cons]
      omega
    · simp only [PyData.depthAll]
      omega
theorem labG_str {H : Hp} (s : Str) (h : (PyData.strOk s && decide ((reprText s).length ≤ 40)) = true) : LabG K H (.str s) := by
  rw [Bool.and_eq_true] at h
  exact ⟨some s, .str s, ⟨rfl, h.1⟩, .str' s, h.2, by show 1 ≤ 2; decide, by simp only [PyData.depth]; omega⟩
theorem not_s {H : Hp} {y : V} {n : String} (ty : TyX K H y (.type n)) (k : PySem.W.kitOne K (.type n) (.type "str") = some false) : NotS K H y := ⟨_, ty, k⟩
theorem labG_not {H : Hp} {z : V} {d : PyData} (h : NotS K H z) (dp : DpE K H z d) (o : okD d = true) (n : ndD d ≤ 2) (p : d.depth ≤ 2) : LabG K H z := ⟨none, d, h, dp, o, n, p⟩
theorem may_word {lab : Nat → Str} {p : List (Nat × Bool)} {s : Str} (h : s ∈ mayOf lab p) : (PyData.strOk s && decide ((reprText s).length ≤ 40)) = true := by
  have key : s = ("dead" : Str) ∨ s = ("found" : Str) ∨ s = ("low" : Str) ∨ s = ("high" : Str) := by
    unfold mayOf at h
    split at h
    · exact .inl (List.mem_singleton.mp h)
    · rcases List.mem_cons.mp h with z | z
      · exact .inr (.inl z)
      · rcases List.mem_append.mp z with z | z
        · split at z
          · exact .inr (.inr (.inl (List.mem_singleton.mp z)))
          · cases z
        · split at z
          · exact .inr (.inr (.inr (List.mem_singleton.mp z)))
          · cases z
  rcases key with rfl | rfl | rfl | rfl <;> decide +kernel
theorem good_words {H : Hp} {t : Tr} {ls : List Str} (ll : ls.length = t.size) (good : impOf (strAt ls) t = none) : ∀ x, x ∈ ls.map V.str → LabG K H x := fun x hx => by
  obtain ⟨s, hs, rfl⟩ := List.mem_map.mp hx
  obtain ⟨i, hi⟩ := List.mem_iff_getElem?.mp hs
  have hl := (List.getElem?_eq_some_iff.mp hi).1
  rw [imp_nds] at good
  have h := List.find?_eq_none.mp good i (nds_in.mpr ⟨Nat.zero_le _, by omega⟩)
  have e : strAt ls i = s := by
    unfold strAt
    rw [List.getD_eq_getElem?_getD, hi]
    rfl
  rw [e] at h
  refine labG_str s (may_word (lab := strAt ls) (p := pOf t 0 i) ?_)
  by_cases c : s ∈ mayOf (strAt ls) (pOf t 0 i)
  · exact c
  · rw [decide_eq_false c] at h
    exact absurd rfl h
theorem strs_of_labs {H : Hp} {ls : List Str} : Paired (LabelAt K H) (ls.map V.str) (ls.map some) → StrsOk ls := fun p => by
  obtain ⟨e, o⟩ := labels_strs p
  exact o
/-- the odd labels -/
abbrev odd13 : List V := [.str "dead", .str "found", .str "low", .str "high", .str "", .str "FOUND", .non, .int 5, .str "founds", .str "f", .str "low ", .str "lowest", .str "hi"]
theorem odds {H : Hp} {x0 d0 x1 : Addr} (e0 : H x0 = some (.lst [])) (e1 : H d0 = some (.dK [])) (e2 : H x1 = some (.lst [V.str "found"])) : ∀ x, x ∈ odd13 ++ [V.ref x0, V.ref d0, V.ref x1] → LabG K H x := fun x hx => by
  simp only [odd13, List.mem_append, List.mem_cons, List.not_mem_nil, or_false, or_assoc] at hx
  rcases hx with rfl | rfl | rfl | rfl | rfl | rfl | rfl | rfl | rfl | rfl | rfl | rfl | rfl | rfl | rfl | rfl
  · exact labG_str _ (by decide +kernel)
  · exact labG_str _ (by decide +kernel)
  · exact labG_str _ (by decide +kernel)
  · exact labG_str _ (by decide +kernel)
  · exact labG_str _ (by decide +kernel)
  · exact labG_str _ (by decide +kernel)
  · exact labG_not (not_s (.base .non) (kit_ty (by decide +kernel))) .non' (by decide +kernel) (by decide +kernel) (by decide +kernel)
  · exact labG_not (not_s (.base (.int 5)) (kit_ty (by decide +kernel))) (.int' 5) (by decide +kernel) (by decide +kernel) (by decide +kernel)
  · exact labG_str _ (by decide +kernel)
  · exact labG_str _ (by decide +kernel)
  · exact labG_str _ (by decide +kernel)
  · exact labG_str _ (by decide +kernel)
  · exact labG_str _ (by decide +kernel)
  · exact labG_not (d := .list []) (not_s (.base (.lst e0)) (kit_ty (by decide +kernel))) (.lst' (.of e0) .nil') (by decide +kernel) (by decide +kernel) (by decide +kernel)
  · exact labG_not (d := .dict []) (not_s (.base (.dK e1)) (kit_ty (by decide +kernel))) (.emp e1) (by decide +kernel) (by decide +kernel) (by decide +kernel)
  · exact labG_not (d := .list [.str "found"]) (not_s (.base (.lst e2)) (kit_ty (by decide +kernel))) (.lst' (.of e2) (.cons' (.str' _) .nil')) (by decide +kernel) (by decide +kernel) (by decide +kernel)
end
end HSP
namespace HSP
open PySem PySem.Spec PyProof.Rows L2
section
variable {P : Program} {w : World} {K : PySem.W.Frag} {mg : Str → Option Value} {base : Heap}
/-! ### halved -/
def spHalved (n : Nat) : Sp := fun vs H Q _ => ∃ (m k : Nat), n = k + 1 ∧ vs = [natV m, .str "upper"] ∧ m < 2 ^ k ∧ ∀ (H' : Hp) (v : V), Same H H' → TrAt H' v (halv n m) → Q v H'
/-! ### joined -/
def spJoined (n : Nat) : Sp := fun vs H Q _ => ∃ (a : Addr) (xs : List V) (ts : List Tr) (k : Nat), n = k + 1 ∧ vs = [.ref a] ∧ H a = some (.lst xs) ∧ Paired (fun v t => TrAt H v t) xs ts ∧ ts ≠ [] ∧ ts.length ≤ 2 ^ k ∧ ts.length ≤ 1000 ∧ ∀ (H' : Hp) (v : V), Same H H' → TrAt H' v (joinT n ts) → Q v H'
theorem Paired.take {α β : Type} {R : α → β → Prop} : ∀ (n : Nat) {l : List α} {m : List β}, Paired R l m → Paired R (l.take n) (m.take n)
  | 0, _, _, _ => by rw [List.take_zero, List.take_zero]; exact .nil
  | _ + 1, _, _, .nil => .nil
  | n + 1, _, _, .cons h t => .cons h (Paired.take n t)
theorem Paired.drop {α β : Type} {R : α → β → Prop} : ∀ (n : Nat) {l : List α} {m : List β}, Paired R l m → Paired R (l.drop n) (m.drop n)
  | 0, _, _, h => h
  | _ + 1, _, _, .nil => .nil
  | n + 1, _, _, .cons _ t => Paired.drop n t
end
end HSP
namespace HSP
open PySem PySem.Spec PyProof.Rows L2
/-! ## what the laws' right sides share -/
theorem Mid.of {ns : List Int} (h : Near ns) : Mid ns := fun v hv => by
  have := h v hv
  omega
def spRight : Sp := fun vs H Q _ => ∃ (p : Addr) (k : Nat), vs = [.ref p] ∧ DrAt H p k ∧ k ≤ 1000 ∧ ∀ H' : Hp, Keep p H H' → DrAt H' p (k + 200) → Q (.bl true) H'
end HSP
namespace HSP
open PySem PySem.Spec PyProof.Rows L2
theorem kit_ve {K : PySem.W.Frag} {C : Addr} (s : PySem.W.subIn K (.ref C) (.type "ValueError") = some true) : PySem.W.kitOne K (.ref C) (.type "ValueError") = some true := by
  unfold PySem.W.kitOne
  rw [if_neg (by intro h; cases h)]
  show (if PySem.W.kitMeta "ValueError" = true then PySem.W.subIn K (.ref C) (.type "ValueError") else none) = some true
  rw [if_pos (by decide +kernel), s]
section
variable {P : Program} {w : World} {K : PySem.W.Frag} {mg : Str → Option Value} {base : Heap}
theorem sc_law_right : FnScope n_law_right ["draws"] (defScope s_law_right) := ⟨rfl, rfl, rfl, by decide +kernel, rfl, by decide +kernel, by decide +kernel⟩
theorem told_dp {H : Hp} {L : Addr} (e : H L = some (.lst [V.str "told"])) : Dp K H (.ref L) (.list [.str "told"]) := .lst (.of e) (.cons (.str _) .nil)
theorem res_dp {H : Hp} {q : Addr} {r : Option (Option Nat)} (e : H q = some (.lst (resV r))) : Dp K H (.ref q) (.list (resDs r)) := .lst (.of e) (res_dps r)
theorem pat_len {H : Hp} {A : Addr} {xs : List V} {os : List (Option Str)} (p : Paired (LabelAt K H) xs os) : os.length = xs.length := (Paired.length p).symm
theorem not_ls {H : Hp} {y : V} {n : String} (ty : TyX K H y (.type n)) (k : PySem.W.kitOne K (.type n) (.type "list") = some false) : PatAt K H y none := ⟨_, ty, k⟩
/-- a pattern as the law tries it at last -/
def OthAt (K : PySem.W.Frag) (H : Hp) (y : V) : Prop := ∃ o, PatAt K H y o ∧ ∀ os, o = some os → os.length ≤ 1000
theorem OthAt.same {H H' : Hp} {y : V} (s : Same H H') (h : OthAt K H y) : OthAt K H' y := by
  obtain ⟨o, a, b⟩ := h
  exact ⟨o, a.same s, b⟩
theorem rs_less {p A : Addr} {H : Hp} : Same (rs [p, A] H) (rs [p] H) := fun b o e => by
  obtain ⟨h1, h2⟩ := rs_up e
  exact rs_in (fun z => h1 (by rw [List.mem_singleton.mp z]; exact List.mem_cons_self)) h2
set_option maxHeartbeats 1000000 in
theorem ok_right (B : Bl mg) (Rp : mg "repr" = none) (N : Df P w K mg base "_law_next" 1 ["draws"] spNext) (T : Df P w K mg base "_law_tree" 10 ["draws", "room"] (spDraw 9)) (Dr : Df P w K mg base "_law_drawn" 19 ["draws", "a_tree"] (spDrawnP 9)) (To : Df P w K mg base "_law_told" 5 ["a_tree", "a_pattern"] (spToldP K)) (Du : Df P w K mg base "_law_due" 19 ["a_tree", "a_pattern"] (spDueP K 9)) (Cg : DfB P w K mg base "check_pattern" 4 ["tree", "pattern"] ["pattern", "tree"] spChkG)
    (a : At K mg "_law_right" s_law_right) : DfG P w K mg base "_law_right" 20 ["draws"] spRight := by
  refine DfG.mk' a sc_law_right (fun vs H Q E h => ?_) (fun _ _ _ _ _ _ us hl => match us, hl with | [_], _ => rfl) (fun f cdv A0 outer s H vs Q E hg hr h => ?_)
  · obtain ⟨p, k, rfl, _⟩ := h
    rfl
  obtain ⟨p, k, rfl, hd, hk, q⟩ := h
  have zero : 0 ≤ sizeLine := by show 0 ≤ sizeLine; decide
  have one : 1 ≤ sizeLine := by show 1 ≤ sizeLine; decide
  have three : 3 ≤ sizeLine := by show 3 ≤ sizeLine; decide
  refine ⟨_, (pss_cons (ps_set (i := 1) sc_law_right.nd rfl (.inl rfl) (pe_df T (hr.mono (by decide)) (pa_cons (pv 0) (pa_cons (pe_op op_mod (pe_callTy call_int1 (by rfl) B.int (by decide +kernel) (pa_cons (pe_df N (hr.mono (by decide)) (pa_cons (pv 0) pa_nil)) pa_nil)) pe_int) pa_nil))))
 (pss_cons (ps_set (i := 2) sc_law_right.nd rfl (.inl rfl) (pe_df Dr hr (pa_cons (pv 0) (pa_cons (pv 1) pa_nil))))
 (pss_cons (ps_if (PW.pt (pw_or (pt_cmpR (op_neD hr.units) (pe_df To (hr.mono (by decide)) (pa_cons (pv 1) (pa_cons (pv 2) pa_nil))) (pe_lst (pa_cons pe_str pa_nil)) (nomark _)) (pw_or1 (pt_cmpR (op_neD hr.units) (pe_df Du hr (pa_cons (pv 1) (pa_cons (pv 2) pa_nil))) (pe_lst (pa_cons pe_str pa_nil)) (nomark _))))) (pss_one (ps_ret pe_bl)) pss_nil)
 (C8.pss_cut (ps_for PassesOwn.never rfl (pi_range1 (by rfl) B.range (pa_cons (pe_op op_mod (pe_callTy call_int1 (by rfl) B.int (by decide +kernel) (pa_cons (pe_df N (hr.mono (by decide)) (pa_cons (pv 0) pa_nil)) pa_nil)) pe_int) pa_nil)) (pg_name (i := 3) sc_law_right.nd rfl (.inl rfl)) (pss_one (ps_if (pt_cmpR (op_neN (Nat.lt_of_succ_lt (hu_of hr))) (pv 2) (pe_lst pa_nil) (nomark _)) (pss_cons (ps_set (i := 4) sc_law_right.nd rfl (.inl rfl) (pe_lst (pa_cons pe_str (pa_cons pe_str (pa_cons pe_str (pa_cons pe_str (pa_cons pe_str (pa_cons pe_str (pa_cons pe_non (pa_cons pe_int (pa_cons pe_str (pa_cons pe_str (pa_cons pe_str (pa_cons pe_str (pa_cons pe_str pa_nil)))))))))))))))
 (pss_cons (ps_set (i := 4) sc_law_right.nd rfl (.inl rfl) (pe_ix ix_list (pe_op op_cat (pv 4) (pe_lst (pa_cons (pe_lst pa_nil) (pa_cons pe_dnewK (pa_cons (pe_lst (pa_cons pe_str pa_nil)) pa_nil))))) (pe_op op_mod (pe_callTy call_int1 (by rfl) B.int (by decide +kernel) (pa_cons (pe_df N (hr.mono (by decide)) (pa_cons (pv 0) pa_nil)) pa_nil)) pe_int) (fun _ _ => rfl)))
 (pss_one (ps_asg (pv 4) (pg_sub (pv 2) (pe_op op_mod (pe_callTy call_int1 (by rfl) B.int (by decide +kernel) (pa_cons (pe_df N (hr.mono (by decide)) (pa_cons (pv 0) pa_nil)) pa_nil)) (pe_callB call_len_seq (by rfl) B.len PySem.boot_len (pa_cons (pv 2) pa_nil))) set_list))))) pss_nil)))
 (pss_cons (ps_set (i := 5) sc_law_right.nd rfl (.inl rfl) (pe_callB (cr_reprE hg hr.units) (by rfl) Rp (by decide +kernel) (pa_cons (pv 2) pa_nil)))
 (C8.pss_cut (ps_if (PW.pt (pw_or (pt_cmpR op_ne (pe_callB (cr_reprE hg hr.units) (by rfl) Rp (by decide +kernel) (pa_cons (pe_df To (hr.mono (by decide)) (pa_cons (pv 1) (pa_cons (pv 2) pa_nil))) pa_nil)) (pe_callB (cr_reprE hg hr.units) (by rfl) Rp (by decide +kernel) (pa_cons (pe_df Du hr (pa_cons (pv 1) (pa_cons (pv 2) pa_nil))) pa_nil)) (nomark _)) (pw_or1 (pt_cmpR op_ne (pe_callB (cr_reprE hg hr.units) (by rfl) Rp (by decide +kernel) (pa_cons (pv 2) pa_nil)) (pv 5) (nomark _))))) (pss_one (ps_ret pe_bl)) pss_nil)
 (C8.pss_cut (ps_if (PW.pt (pw_and (pt_cmpR (op_eqD hr.units) (pe_df Du hr (pa_cons (pv 1) (pa_cons (pv 2) pa_nil))) (pe_lst (pa_cons pe_str pa_nil)) (nomark _)) (pw_and1 (pt_cmpR op_notN (pe_dfK Cg (hr.mono (by decide))  (pk_cons (pv 2) (pk_cons (pv 1) pk_nil))) pe_non (nomark _))))) (pss_one (ps_ret pe_bl)) pss_nil)
 (pss_cons (ps_set (i := 6) sc_law_right.nd rfl (.inl rfl) (pe_ix ix_list (pe_lst (pa_cons (pe_op op_cat (pv 2) (pe_lst (pa_cons pe_str pa_nil))) (pa_cons (pe_slice sl_list (pv 2) (po_some pe_int) po_none) (pa_cons (pe_callTy call_tuple_of (by rfl) B.tuple (by decide +kernel) (pa_cons (pv 2) pa_nil)) (pa_cons pe_non (pa_cons pe_str (pa_cons pe_dnewK pa_nil))))))) (pe_op op_mod (pe_callTy call_int1 (by rfl) B.int (by decide +kernel) (pa_cons (pe_df N (hr.mono (by decide)) (pa_cons (pv 0) pa_nil)) pa_nil)) pe_int) (fun _ _ => rfl)))
 (pss_one (ps_ret (pe_cmpR op_eq (pe_callB (cr_reprE hg hr.units) (by rfl) Rp (by decide +kernel) (pa_cons (pe_df To (hr.mono (by decide)) (pa_cons (pv 1) (pa_cons (pv 6) pa_nil))) pa_nil)) (pe_callB (cr_reprE hg hr.units) (by rfl) Rp (by decide +kernel) (pa_cons (pe_df Du hr (pa_cons (pv 1) (pa_cons (pv 6) pa_nil))) pa_nil)) (nomark _)))))))))))), ?_⟩
  -- the tree
  refine ⟨_, rfl, _, rfl, p, k, rfl, hd, by omega, fun H1 r1 kp1 d1 a1 a2 => .inl ⟨_, rfl, _, _, rfl, rfl, (by show (0 : Int) < 9; decide), ?_⟩⟩
  have m1 := Int.emod_nonneg r1 (show (9 : Int) ≠ 0 by decide)
  have m2 := Int.emod_lt_of_pos r1 (show (0 : Int) < 9 by decide)
  refine ⟨p, (r1 % 9).toNat, k + 1, congrArg (fun z => [V.ref p, V.int z]) (by omega : r1 % 9 = (((r1 % 9).toNat : Nat) : Int)), by omega, d1, by omega, fun H2 v t kp2 d2 ht hs => ?_⟩
  have t8 : t.size ≤ 8 := by omega
  have hht : t.ht < 9 := Nat.lt_of_le_of_lt t.ht_le (by omega)
  -- a pattern
  refine ⟨_, rfl, _, rfl, p, k + 1 + 2 * (r1 % 9).toNat, v, t, rfl, d2, by omega, ht, hht, by omega, fun H3 A ls kp3 d3 nA eA ll okl good => ?_⟩
  have ht3 : TrAt H3 v t := d2.tree kp3 ht
  have kpA := (kp1.trans kp2).trans kp3
  have nA0 : H A = none := (kp1.trans kp2).free (d2.ne nA) nA
  have nAp : A ≠ p := d2.ne nA
  have d3 := d3.mono (show k + 1 + 2 * (r1 % 9).toNat + t.size ≤ k + 30 by omega)
  have res0 : ResIs (some (ls.map some)) t none := .inl ⟨ls, ⟨rfl, ll⟩, by rw [good]; rfl⟩
  have long : ∀ os, some (ls.map some) = some os → os.length ≤ 1000 := fun os h => by
    rw [← Option.some.inj h, List.length_map]
    omega
  clear kp1 kp2 kp3 d1 d2 ht nA m1 m2 hs
  -- both tell that it is fine
  refine ⟨_, rfl, _, rfl, v, t, .ref A, some (ls.map some), rfl, ht3, by omega, ⟨A, _, rfl, eA, strs_labels okl⟩, fun H4 q4 r4 s4 n4 i4 e4 => ?_⟩
  have := i4.one res0
  subst this
  refine ⟨one, fun L5 n5 => ?_⟩
  have s5 := Same.new (o := .lst [V.str "told"]) n5
  refine ⟨.list (resDs none), .list [.str "told"], res_dp (s5 _ _ e4), told_dp upd_same, res_shaped none, by decide +kernel, false, congrArg V.bl (by rw [res_told]; rfl), iteF ?_⟩
  have s35 := s4.trans s5
  generalize upd H4 L5 (.lst [V.str "told"]) = H5 at s35 ⊢
  clear s5 s4 e4 i4 n4 n5
  refine ⟨_, rfl, _, rfl, v, t, .ref A, some (ls.map some), rfl, ht3.same s35, hht, by omega, ⟨A, _, rfl, s35 _ _ eA, strs_labels okl⟩, long, fun H6 q6 r6 s6 n6 i6 e6 => ?_⟩
  have := i6.one res0
  subst this
  refine ⟨one, fun L7 n7 => ?_⟩
  have s7 := Same.new (o := .lst [V.str "told"]) n7
  refine ⟨.list (resDs none), .list [.str "told"], res_dp (s7 _ _ e6), told_dp upd_same, res_shaped none, by decide +kernel, false, congrArg V.bl (by rw [res_told]; rfl), iteF ?_⟩
  have s37 := s35.trans (s6.trans s7)
  generalize upd H6 L7 (.lst [V.str "told"]) = H7 at s37 ⊢
  clear s7 s6 s35 e6 i6 n6 n7
  have kp7 : Keep p H H7 := kpA.trans (.of s37)
  have ht7 := ht3.same s37
  have eA7 := s37 _ _ eA
  have d7 := d3.same s37
  clear kpA s37 eA d3 ht3
  have tk7 : Trk [p, A] H7 := fun b hb z => by
    rcases List.mem_cons.mp hb with g | g
    · obtain ⟨_, _, _, e, _⟩ := d7
      rw [g, e] at z
      cases z
    · rw [List.mem_singleton.mp g, eA7] at z
      cases z
  have X7 : ∀ x, x ∈ [p, A] → ∃ ys, H7 x = some (.lst ys) := fun x hx => by
    rcases List.mem_cons.mp hx with z | z
    · obtain ⟨_, _, _, e, _⟩ := d7
      rw [z]
      exact ⟨_, e⟩
    · rw [List.mem_singleton.mp z]
      exact ⟨_, eA7⟩
  have g7 : ∀ x, x ∈ ls.map V.str → LabG K (rs [p, A] H7) x := good_words ll good
  have ll : (ls.map V.str).length = t.size := by rw [List.length_map, ll]
  generalize ls.map V.str = xs0 at eA7 g7 ll
  clear good okl res0 long
  -- some labels changed
  refine ⟨fun σ H' => ∃ (y3 y4 : Option V) (xs : List V), σ = [some (.ref p), some v, some (.ref A), y3, y4, none, none] ∧ Stay [p, A] H7 H' ∧ DrAt H' p (k + 40) ∧ H' A = some (.lst xs) ∧ xs.length = t.size ∧ ∀ x, x ∈ xs → LabG K (rs [p, A] H') x, ?_, fun σ H8 hX => ?_⟩
  · refine ⟨_, rfl, p, k + 30, rfl, d7, by omega, fun H8 r8 kp8 d8 b1 b2 => .inl ⟨_, rfl, _, _, rfl, rfl, (by show (0 : Int) < 3; decide), ?_⟩⟩
    have u1 := Int.emod_nonneg r8 (show (3 : Int) ≠ 0 by decide)
    have u2 := Int.emod_lt_of_pos r8 (show (0 : Int) < 3 by decide)
    have st8 : Stay [p, A] H7 H8 := fun b o nb e => kp8 _ _ (fun z => nb (by rw [z]; exact List.mem_cons_self)) e
    refine ⟨_, rfl, by omega, by omega, for_range (lo := 0) (n := (r8 % 3).toNat) (fun i σ H' => ∃ (y3 y4 : Option V) (xs : List V), σ = [some (.ref p), some v, some (.ref A), y3, y4, none, none] ∧ Stay [p, A] H7 H' ∧ DrAt H' p (k + 31 + 2 * i) ∧ Trk [p, A] H' ∧ H' A = some (.lst xs) ∧ xs.length = t.size ∧ ∀ x, x ∈ xs → LabG K (rs [p, A] H') x) ⟨none, none, xs0, rfl, st8, d8, ?_, kp8 _ _ nAp eA7, ll, fun x hx => (g7 x hx).same (rsK kp8 List.mem_cons_self)⟩ (fun i σ H9 hi h9 => ?_) (fun σ H9 h9 => ?_)⟩
    · intro b hb z
      rcases List.mem_cons.mp hb with g | g
      · obtain ⟨_, _, _, e, _⟩ := d8
        rw [g, e] at z
        cases z
      · rw [List.mem_singleton.mp g, kp8 _ _ nAp eA7] at z
        cases z
    · obtain ⟨y3, y4, xs, rfl, st9, d9, tk9, eA9, l9, g9⟩ := h9
      refine ⟨_, rfl, zero, fun Z nZ => ?_⟩
      have sZ := Same.new (o := .lst []) nZ
      refine ⟨A, Z, xs, rfl, rfl, .of (sZ _ _ eA9), .of upd_same, _, rfl, ?_⟩
      have st10 := st9.then sZ
      have d10 := d9.same sZ
      have tk10 := tk9.same sZ
      have eA10 := sZ _ _ eA9
      have g10 := fun x hx => (g9 x hx).same (rsS (A := [p, A]) sZ)
      generalize upd H9 Z (.lst []) = H10 at st10 d10 tk10 eA10 g10 ⊢
      clear sZ nZ st9 d9 tk9 eA9 g9
      cases em : xs.isEmpty with
      | true => exact iteF ⟨_, _, xs, rfl, st10, d10.mono (by omega), tk10, eA10, l9, g10⟩
      | false =>
      have pos : 0 < xs.length := by
        cases xs with
        | nil => cases em
        | cons => exact Nat.succ_pos _
      refine iteT ⟨(by show 13 ≤ sizeLine; decide), fun O nO => ?_⟩
      refine ⟨_, rfl, zero, fun x0 n0 => fun d0 m0 => ⟨one, fun x1 n1 => ⟨three, fun L nL => ?_⟩⟩⟩
      have q1 := Same.new (o := .lst odd13) nO
      have q2 := Same.new (o := .lst []) n0
      have q3 := Same.new (o := .dK []) m0
      have q4 := Same.new (o := .lst [V.str "found"]) n1
      have q5 := Same.new (o := .lst [V.ref x0, V.ref d0, V.ref x1]) nL
      have f4 := q4.trans q5
      have f3 := q3.trans f4
      have f2 := q2.trans f3
      have f1 := q1.trans f2
      have eO := f2 O (.lst odd13) upd_same
      have e0 := f3 x0 (.lst []) upd_same
      have e1 := f4 d0 (.dK []) upd_same
      have e2 := q5 x1 (.lst [V.str "found"]) upd_same
      have o0 : x0 ∉ [p, A] := (tk10.same q1).out n0
      have o1 : d0 ∉ [p, A] := (tk10.same (q1.trans q2)).out m0
      have o2 : x1 ∉ [p, A] := (tk10.same (q1.trans (q2.trans q3))).out n1
      have eL : (upd (upd (upd (upd (upd H10 O (.lst odd13)) x0 (.lst [])) d0 (.dK [])) x1 (.lst [V.str "found"])) L (.lst [V.ref x0, V.ref d0, V.ref x1])) L = _ := upd_same
      refine ⟨O, L, _, _, rfl, rfl, eO, eL, (by show 16 ≤ 16777216; decide), fun C nC => ?_⟩
      have q6 := Same.new (o := .lst (odd13 ++ [V.ref x0, V.ref d0, V.ref x1])) nC
      have f1C := f1.trans q6
      have eC : (upd (upd (upd (upd (upd (upd H10 O (.lst odd13)) x0 (.lst [])) d0 (.dK [])) x1 (.lst [V.str "found"])) L (.lst [V.ref x0, V.ref d0, V.ref x1])) C (.lst (odd13 ++ [V.ref x0, V.ref d0, V.ref x1]))) C = some (.lst (odd13 ++ [V.ref x0, V.ref d0, V.ref x1])) := upd_same
      have e0 := q6 _ _ e0
      have e1 := q6 _ _ e1
      have e2 := q6 _ _ e2
      generalize upd (upd (upd (upd (upd (upd H10 O (.lst odd13)) x0 (.lst [])) d0 (.dK [])) x1 (.lst [V.str "found"])) L (.lst [V.ref x0, V.ref d0, V.ref x1])) C (.lst (odd13 ++ [V.ref x0, V.ref d0, V.ref x1])) = H11 at f1C eC e0 e1 e2 ⊢
      clear q1 q2 q3 q4 q5 q6 f1 f2 f3 f4 eO eL nO n0 m0 n1 nL
      have d11 := d10.same f1C
      have eA11 := f1C _ _ eA10
      have nCp : C ≠ p := fun z => by
        obtain ⟨_, _, _, e, _⟩ := d10
        have e := f1C _ _ e
        rw [← z, eC] at e
        cases e
      have odd := odds (K := K) (rs_in o0 e0) (rs_in o1 e1) (rs_in o2 e2)
      refine ⟨_, rfl, p, k + 31 + 2 * i, rfl, d11, by omega, fun H12 r12 kp12 d12 b3 b4 => .inl ⟨_, rfl, _, _, rfl, rfl, (by show (0 : Int) < 16; decide), ?_⟩⟩
      have w1 := Int.emod_nonneg r12 (show (16 : Int) ≠ 0 by decide)
      have w2 := Int.emod_lt_of_pos r12 (show (0 : Int) < 16 by decide)
      obtain ⟨x, hx, gx⟩ := at_any (xs := odd13 ++ [V.ref x0, V.ref d0, V.ref x1]) (C := fun x => LabG K (rs [p, A] H11) x) odd w1 w2
      have eA12 := kp12 _ _ nAp eA11
      refine ⟨C, _, _, _, rfl, rfl, .of (kp12 _ _ nCp eC), hx, ?_⟩
      refine ⟨_, rfl, _, rfl, _, rfl, p, k + 31 + 2 * i + 1, rfl, d12, by omega, fun H13 r13 kp13 d13 b5 b6 => .inl ⟨_, rfl, _, rfl, A, _, rfl, .inl (.of (kp13 _ _ nAp eA12)), _, _, rfl, rfl, (by show (0 : Int) < ((xs.length : Nat) : Int); omega), ?_⟩⟩
      have eA13 := kp13 _ _ nAp eA12
      have z1 := Int.emod_nonneg r13 (show ((xs.length : Nat) : Int) ≠ 0 by omega)
      have z2 := Int.emod_lt_of_pos r13 (show (0 : Int) < ((xs.length : Nat) : Int) by omega)
      refine ⟨A, _, _, _, rfl, rfl, eA13, ixN_in z1 z2, ?_⟩
      have r1113 : Same (rs [p, A] H11) (rs [p, A] H13) := (rsK kp12 List.mem_cons_self).trans (rsK kp13 List.mem_cons_self)
      have pin : ∀ o, Same (rs [p, A] H13) (rs [p, A] (upd H13 A o)) := fun o b u e => by
        obtain ⟨g1, g2⟩ := rs_up e
        refine rs_in g1 ?_
        rw [upd_ne (fun z => g1 (by rw [z]; exact List.mem_cons_of_mem _ List.mem_cons_self))]
        exact g2
      have st13 : Stay [p, A] H7 H13 := (st10.then f1C).trans (fun b o nb e => kp13 _ _ (fun z => nb (by rw [z]; exact List.mem_cons_self)) (kp12 _ _ (fun z => nb (by rw [z]; exact List.mem_cons_self)) e))
      refine ⟨_, _, _, rfl, st13.put (List.mem_cons_of_mem _ List.mem_cons_self), (d13.mono (by omega)).put nAp, ?_, upd_same, by rw [List.length_set, l9], fun y hy => ?_⟩
      · intro b hb z
        rcases List.mem_cons.mp hb with g | g
        · obtain ⟨_, _, _, e, _⟩ := d13
          rw [g, upd_ne nAp.symm, e] at z
          cases z
        · rw [List.mem_singleton.mp g, upd_same] at z
          cases z
      · refine LabG.same ((r1113).trans (pin _)) ?_
        rcases List.mem_or_eq_of_mem_set hy with g | g
        · exact (g10 y g).same (rsS f1C)
        · rw [g]
          exact gx
    · obtain ⟨y3, y4, xs, rfl, st9, d9, tk9, eA9, l9, g9⟩ := h9
      exact ⟨y3, y4, xs, rfl, st9, d9.mono (by omega), eA9, l9, g9⟩
  obtain ⟨y3, y4, xs, rfl, st8, d8, eA8, l8, g8⟩ := hX
  have ht8 := ht7.stay st8 X7
  have kp8 : Keep p H H8 := fun b o nb e => st8 _ _ (no2 nb (fun z => by rw [z, nA0] at e; cases e)) (kp7 _ _ nb e)
  obtain ⟨os, ds, pr, dr, okd, nd, dep⟩ := labs_made g8
  have px := Paired.mapP pr fun _ _ h => LabelAt.same rs_sub h
  have dp := DpEs.same rs_sub _ _ dr
  have pr := Paired.mapP pr fun _ _ h => LabelAt.same (rs_less (p := p) (A := A)) h
  have lx := Paired.length px
  have fi : FineE (.list ds) := ⟨by simp only [okD, okd], by simp only [ndD]; omega, by simp only [PyData.depth]; omega⟩
  have long : ∀ os', some os = some os' → os'.length ≤ 1000 := fun os' h => by
    rw [← Option.some.inj h]
    omega
  clear kp7 d7 ht7 eA7 g7 tk7 X7 st8 g8
  -- kept
  refine ⟨_, rfl, A, xs, ds, rfl, eA8, dp, fi.shows, Nat.le_trans fi.deep (by decide), fi.len, ?_⟩
  -- both tell the same
  refine ⟨fun σ H' => σ = [some (.ref p), some v, some (.ref A), y3, y4, some (.str (PyData.list ds).shown), none] ∧ Same H8 H', ?_, fun σ H9 hX => ?_⟩
  · refine ⟨_, rfl, _, rfl, v, t, .ref A, some os, rfl, ht8, by omega, ⟨A, _, rfl, eA8, px⟩, fun H9 q9 r9 s9 n9 i9 e9 => ?_⟩
    have f9 := res_fine (res_small i9 (by omega))
    refine ⟨q9, _, resDs r9, rfl, e9, DpEs.of _ _ (res_dps r9), f9.shows, Nat.le_trans f9.deep (by decide), f9.len, ?_⟩
    refine ⟨_, rfl, _, rfl, v, t, .ref A, some os, rfl, ht8.same s9, hht, by omega, PatAt.same (k := some os) s9 ⟨A, _, rfl, eA8, px⟩, long, fun H10 q10 r10 s10 n10 i10 e10 => ?_⟩
    have := i10.one i9
    subst this
    refine ⟨q10, _, resDs r10, rfl, e10, DpEs.of _ _ (res_dps r10), f9.shows, Nat.le_trans f9.deep (by decide), f9.len, rfl, _, rfl, ?_⟩
    rw [decide_eq_true rfl]
    have s810 := s9.trans s10
    refine iteF ⟨_, rfl, A, xs, ds, rfl, s810 _ _ eA8, DpEs.same s810 _ _ dp, fi.shows, Nat.le_trans fi.deep (by decide), fi.len, _, rfl, rfl, _, rfl, ?_⟩
    rw [decide_eq_true rfl]
    exact iteF ⟨rfl, s810⟩
  obtain ⟨rfl, s9⟩ := hX
  have ht9 := ht8.same s9
  have eA9 := s9 _ _ eA8
  have px9 := Paired.mapP px fun _ _ h => LabelAt.same s9 h
  have d9 := d8.same s9
  have kp9 := kp8.trans (.of s9)
  have pr := Paired.mapP pr fun _ _ h => LabelAt.same (rsS s9) h
  clear s9 ht8 eA8 px d8 kp8 dp dr
  -- by names
  refine ⟨fun σ H' => σ = [some (.ref p), some v, some (.ref A), y3, y4, some (.str (PyData.list ds).shown), none] ∧ Same H9 H', ?_, fun σ H10 hX => ?_⟩
  · refine ⟨_, rfl, _, rfl, v, t, .ref A, some os, rfl, ht9, hht, by omega, ⟨A, _, rfl, eA9, px9⟩, long, fun H10 q10 r10 s10 n10 i10 e10 => ?_⟩
    refine ⟨one, fun L5 n5 => ?_⟩
    have s5 := Same.new (o := .lst [V.str "told"]) n5
    refine ⟨.list (resDs r10), .list [.str "told"], res_dp (s5 _ _ e10), told_dp upd_same, res_shaped r10, by decide +kernel, r10.isNone, congrArg V.bl (res_told r10), ?_⟩
    have s11 := s10.trans s5
    cases r10 with
    | some o => exact iteF ⟨rfl, s11⟩
    | none =>
      refine iteT ?_
      obtain ⟨ls, S, ei⟩ : ∃ ls, Strings (some os) t.size ls ∧ none = (impOf (strAt ls) t).map some := by
        rcases i10 with h | ⟨_, z⟩
        · exact h
        · cases z
      have ei : impOf (strAt ls) t = none := by
        cases e : impOf (strAt ls) t with
        | none => rfl
        | some n => rw [e] at ei; cases ei
      have eo := Option.some.inj S.1
      rw [eo] at px9
      obtain ⟨ex, okl⟩ := labels_strs px9
      refine ⟨_, rfl, _, rfl, rfl, rfl, v, t, A, ls, rfl, ht9.same s11, by omega, ?_, okl, S.2, ei, fun H12 s12 => ?_⟩
      · rw [s11 _ _ eA9, ex]
      · refine ⟨rfl, _, rfl, ?_⟩
        exact iteF ⟨rfl, s11.trans s12⟩
  obtain ⟨rfl, s10⟩ := hX
  have ht10 := ht9.same s10
  have eA10 := s10 _ _ eA9
  have d10 := d9.same s10
  have kp10 := kp9.trans (.of s10)
  have pr := Paired.mapP pr fun _ _ h => LabelAt.same (rsS s10) h
  clear s10 ht9 eA9 px9 d9 kp9
  -- another pattern
  refine ⟨_, rfl, one, fun F nF => ⟨A, F, _, _, rfl, rfl, (Same.new nF) _ _ eA10, upd_same, (by show xs.length + 1 ≤ 16777216; omega), fun C nC => ?_⟩⟩
  have q1 := Same.new (o := .lst [V.str "found"]) nF
  have q2 := Same.new (o := .lst (xs ++ [V.str "found"])) nC
  have q12 := q1.trans q2
  refine ⟨_, rfl, _, rfl, A, _, rfl, .of (q12 _ _ eA10), fun S nS => ?_⟩
  have q3 := Same.new (o := .lst (cutV xs (some 1) none)) nS
  have q13 := q12.trans q3
  refine ⟨_, rfl, A, xs, rfl, .inl ⟨.of (q13 _ _ eA10), fun U nU => ?_⟩⟩
  have q4 := Same.new (o := .tup xs) nU
  refine fun D nD => ⟨(by show 6 ≤ sizeLine; decide), fun M nM => ?_⟩
  have q5 := Same.new (o := .dK []) nD
  have q6 := Same.new (o := .lst [V.ref C, V.ref S, V.ref U, V.non, V.str "found", V.ref D]) nM
  have f5 := q5.trans q6
  have f4 := q4.trans f5
  have f3 := q3.trans f4
  have f2 := q2.trans f3
  have f1 := q1.trans f2
  have cC := q1.free nC
  have cS := q12.free nS
  have cU := q13.free nU
  have cD := (q13.trans q4).free nD
  have eC := f3 C (.lst (xs ++ [V.str "found"])) upd_same
  have eS := f4 S (.lst (cutV xs (some 1) none)) upd_same
  have eU := f5 U (.tup xs) upd_same
  have eD := q6 D (.dK []) upd_same
  have eM : (upd (upd (upd (upd (upd (upd H10 F (.lst [V.str "found"])) C (.lst (xs ++ [V.str "found"]))) S (.lst (cutV xs (some 1) none))) U (.tup xs)) D (.dK [])) M (.lst [V.ref C, V.ref S, V.ref U, V.non, V.str "found", V.ref D])) M = some (.lst [V.ref C, V.ref S, V.ref U, V.non, V.str "found", V.ref D]) := upd_same
  generalize upd (upd (upd (upd (upd (upd H10 F (.lst [V.str "found"])) C (.lst (xs ++ [V.str "found"]))) S (.lst (cutV xs (some 1) none))) U (.tup xs)) D (.dK [])) M (.lst [V.ref C, V.ref S, V.ref U, V.non, V.str "found", V.ref D]) = H11 at f1 eC eS eU eD eM ⊢
  clear q1 q2 q3 q4 q5 q6 q12 q13 f2 f3 f4 f5 nF nC nS nU nD nM
  rw [show cutV xs (some 1) none = xs.drop 1 from cut_from xs 1] at eS
  have px11 := Paired.mapP pr fun _ _ h => LabelAt.same (rsS f1) h
  have ht11 := ht10.same f1
  have d11 := d10.same f1
  have kp11 := kp10.trans (.of f1)
  have notp : ∀ {b : Addr} {u : HO}, H10 b = none → H11 b = some u → rs [p] H11 b = some u := fun {b u} n e => rs_in (fun z => by
    obtain ⟨_, _, _, e2, _⟩ := d10
    rw [List.mem_singleton.mp z, e2] at n
    cases n) e
  have eC := notp cC eC
  have eS := notp cS eS
  have eU := notp cU eU
  have eD := notp cD eD
  have oth : ∀ x, x ∈ [V.ref C, V.ref S, V.ref U, V.non, V.str "found", V.ref D] → OthAt K (rs [p] H11) x := fun x hx => by
    simp only [List.mem_cons, List.not_mem_nil, or_false] at hx
    rcases hx with rfl | rfl | rfl | rfl | rfl | rfl
    · refine ⟨some (os ++ [some ("found" : Str)]), ⟨C, _, rfl, eC, Paired.app px11 (.cons ⟨rfl, by decide +kernel⟩ .nil)⟩, fun os' h => ?_⟩
      rw [← Option.some.inj h, List.length_append, List.length_singleton]
      omega
    · refine ⟨some (os.drop 1), ⟨S, _, rfl, eS, Paired.drop 1 px11⟩, fun os' h => ?_⟩
      rw [← Option.some.inj h, List.length_drop]
      omega
    · exact ⟨none, not_ls (.base (.tup eU)) (kit_ty (by decide +kernel)), fun os' h => (by cases h)⟩
    · exact ⟨none, not_ls (.base .non) (kit_ty (by decide +kernel)), fun os' h => (by cases h)⟩
    · exact ⟨none, not_ls (.base (.str _)) (kit_ty (by decide +kernel)), fun os' h => (by cases h)⟩
    · exact ⟨none, not_ls (.base (.dK eD)) (kit_ty (by decide +kernel)), fun os' h => (by cases h)⟩
  have nMp : M ≠ p := fun z => by
    obtain ⟨_, _, _, e, _⟩ := d11
    rw [← z, eM] at e
    cases e
  refine ⟨_, rfl, p, k + 40, rfl, d11, by omega, fun H12 r12 kp12 d12 b3 b4 => .inl ⟨_, rfl, _, _, rfl, rfl, (by show (0 : Int) < 6; decide), ?_⟩⟩
  have w1 := Int.emod_nonneg r12 (show (6 : Int) ≠ 0 by decide)
  have w2 := Int.emod_lt_of_pos r12 (show (0 : Int) < 6 by decide)
  obtain ⟨x, hx, ox⟩ := at_any (xs := [V.ref C, V.ref S, V.ref U, V.non, V.str "found", V.ref D]) (C := fun x => OthAt K (rs [p] H11) x) oth w1 w2
  refine ⟨M, _, _, _, rfl, rfl, .of (kp12 _ _ nMp eM), hx, ?_⟩
  have ht12 := d11.tree kp12 ht11
  obtain ⟨o, po, lo⟩ := (ox.same (rsK kp12 List.mem_cons_self)).same rs_sub
  refine ⟨_, rfl, _, rfl, v, t, x, o, rfl, ht12, by omega, po, fun H13 q13 r13 s13 n13 i13 e13 => ?_⟩
  have f13 := res_fine (res_small i13 (by omega))
  refine ⟨q13, _, resDs r13, rfl, e13, DpEs.of _ _ (res_dps r13), f13.shows, Nat.le_trans f13.deep (by decide), f13.len, ?_⟩
  refine ⟨_, rfl, _, rfl, v, t, x, o, rfl, ht12.same s13, hht, by omega, po.same s13, lo, fun H14 q14 r14 s14 n14 i14 e14 => ?_⟩
  have := i14.one i13
  subst this
  refine ⟨q14, _, resDs r14, rfl, e14, DpEs.of _ _ (res_dps r14), f13.shows, Nat.le_trans f13.deep (by decide), f13.len, rfl, ?_⟩
  rw [decide_eq_true rfl]
  exact q _ ((kp11.trans kp12).trans (.of (s13.trans s14))) (((d12.same (s13.trans s14))).mono (by omega))
end
end HSP
namespace HSP
open PySem PySem.Spec PyProof.Rows L2
section
variable {P : Program} {w : World} {K : PySem.W.Frag} {mg : Str → Option Value} {base : Heap}
/-! ### law -/
theorem sc_law : FnScope n_law ["script"] (defScope s_law) := ⟨rfl, rfl, rfl, by decide +kernel, rfl, by decide +kernel, by decide +kernel⟩
def spLaw (K : PySem.W.Frag) : Sp := fun vs H Q _ => ∃ (a : Addr) (ns : List Int), vs = [.ref a] ∧ SqL K H a (ns.map V.int) ∧ ns.length ≤ 63 ∧ ∀ H', Q (.bl true) H'
theorem ok_law {f : Addr} {fd : FuncData} (B : Bl mg) (F : Fun K "law" "law" s_law f fd) (D : Df P w K mg base "_law_draws" 1 ["cell"] spDraws) (R : DfG P w K mg base "_law_right" 20 ["draws"] spRight) : FnG P w K mg base CX0 21 f fd ["script"] (spLaw K) := by
  refine FnG.mk' F sc_law (fun vs H Q E h => ?_) (fun cdv A outer s H vs Q E hg hr h => ?_)
  · obtain ⟨a, ns, rfl, _⟩ := h
    rfl
  obtain ⟨a, ns, rfl, hS, h63, q⟩ := h
  refine ⟨_, PSs.nox (pss_cons (ps_for PassesOwn.never rfl (pi_list (pe_op op_cat (pe_slice sl_list (pv 0) po_none (po_some pe_int)) (pe_lst (pa_cons pe_int pa_nil)))) (pg_name (i := 1) sc_law.nd rfl (.inl rfl)) (pss_cons (ps_set (i := 2) sc_law.nd rfl (.inl rfl) (pe_df D (hr.mono (by decide)) (pa_cons (pv 1) pa_nil)))
 (pss_one (ps_for PassesOwn.never rfl (pi_range1 (by rfl) B.range (pa_cons pe_int pa_nil)) (pg_name (i := 3) sc_law.nd rfl (.inl rfl)) (pss_one (ps_if (pt_not (pt_val (pe_dfG R hg hr (pa_cons (pv 2) pa_nil)))) (pss_one (ps_ret pe_bl)) pss_nil))))))
 (pss_one (ps_ret pe_bl))), ?_⟩
  refine ⟨_, rfl, 6, rfl, a, _, rfl, hS, fun c1 hc1 => ?_⟩
  refine ⟨(by show 1 ≤ sizeLine; decide), fun c2 hc2 => ?_⟩
  have s1 := Same.new (o := .lst (cutV (ns.map V.int) none (some 6))) hc1
  have s2 := Same.new (o := .lst [V.int 0]) hc2
  refine ⟨c1, c2, _, _, rfl, rfl, s2 _ _ upd_same, upd_same, ?_, fun C hC => ?_⟩
  · have z := cutV_length (ns.map V.int) none (some 6)
    rw [List.length_map] at z
    show _ + 1 ≤ sizeLine
    exact Nat.le_of_lt (small1000 (by omega))
  have cells : ∀ x, x ∈ cutV (ns.map V.int) none (some 6) ++ [V.int 0] → ∃ z, x = V.int z := fun x hx => by
    rcases List.mem_append.mp hx with hx | hx
    · have h1 := List.mem_of_mem_take hx
      have h2 := List.mem_of_mem_drop h1
      obtain ⟨z, _, rfl⟩ := List.mem_map.mp h2
      exact ⟨z, rfl⟩
    · exact ⟨0, List.mem_singleton.mp hx⟩
  have eC : (upd (upd (upd H c1 (.lst (cutV (ns.map V.int) none (some 6)))) c2 (.lst [V.int 0])) C (.lst (cutV (ns.map V.int) none (some 6) ++ [V.int 0]))) C = some (.lst (cutV (ns.map V.int) none (some 6) ++ [V.int 0])) := upd_same
  generalize cutV (ns.map V.int) none (some 6) ++ [V.int 0] = xs at cells eC ⊢
  generalize upd (upd (upd H c1 (.lst (cutV (ns.map V.int) none (some 6)))) c2 (.lst [V.int 0])) C (.lst xs) = H1 at eC ⊢
  refine ⟨C, rfl, ⟨_, .of eC⟩, for_list (xs := xs) (fun i σ H' => ∃ y0 y1 y2 y3, σ = [y0, y1, y2, y3] ∧ H' C = some (.lst xs)) ⟨_, _, _, _, rfl, eC⟩ (fun i σ H2 _ h2 => ?_) (fun i x σ H2 hx h2 => ?_) (fun σ H2 _ => q H2)⟩
  · obtain ⟨_, _, _, _, _, e2⟩ := h2
    exact .of e2
  · obtain ⟨y0, y1, y2, y3, rfl, e2⟩ := h2
    obtain ⟨z, rfl⟩ := cells x (List.mem_of_getElem? hx)
    refine ⟨_, rfl, z, rfl, fun H3 p s3 np d3 => ?_⟩
    have nC : C ≠ p := ne_of_none e2 np
    refine ⟨3, rfl, by decide, by decide, ?_⟩
    refine for_range (lo := 0) (n := 3) (fun j σ H' => ∃ y0 y1 y3, σ = [y0, y1, some (.ref p), y3] ∧ H' C = some (.lst xs) ∧ DrAt H' p (200 * j)) ⟨_, _, _, rfl, s3 _ _ e2, d3⟩ (fun j σ H4 hj h4 => ?_) (fun σ H4 h4 => ?_)
    · obtain ⟨y0, y1, y3, rfl, e4, d4⟩ := h4
      refine ⟨_, rfl, p, 200 * j, rfl, d4, by omega, fun H5 k5 d5 => ⟨true, rfl, iteF ?_⟩⟩
      exact ⟨_, _, _, rfl, k5 C _ nC e4, d5.mono (by omega)⟩
    · obtain ⟨y0, y1, y3, rfl, e4, _⟩ := h4
      exact ⟨_, _, _, _, rfl, e4⟩
end
/-! ## what the top has written -/
theorem all_mk {l : PySem.W.OpenLaw} {w : World} {K : PySem.W.Frag} {h : Heap} {mg : Str → Option Value} {fa : Addr} (X : K.In h) (G : h.Ns mainGlobals mg) (hfa : mg "law" = some (.ref fa))
    {f1 : Addr} {od1 an1 : Option Addr} {sl1 : Array (Option Value)} {oc1 kV1 dc1 pm1 cd1 ct1 : Value}
    (a1 : PySem.W.nsIn K mainGlobals "is_tree" = some (some (.ref f1))) (l1 : K.lookup f1 = some ⟨oc1, od1, .func (PySem.W.fnOf "is_tree" "is_tree" (defArgs s_is_tree) (defBody s_is_tree) (defScope s_is_tree) .none kV1 dc1 pm1 an1 cd1 ct1), sl1⟩) (c1 : PySem.W.codeIn K cd1 "is_tree" = true) (k1 : PySem.W.keepIn K (.ref f1) = true)
    {f2 : Addr} {od2 an2 : Option Addr} {sl2 : Array (Option Value)} {oc2 kV2 dc2 pm2 cd2 ct2 : Value}
    (a2 : PySem.W.nsIn K mainGlobals "count_nodes" = some (some (.ref f2))) (l2 : K.lookup f2 = some ⟨oc2, od2, .func (PySem.W.fnOf "count_nodes" "count_nodes" (defArgs s_count_nodes) (defBody s_count_nodes) (defScope s_count_nodes) .none kV2 dc2 pm2 an2 cd2 ct2), sl2⟩) (c2 : PySem.W.codeIn K cd2 "count_nodes" = true) (k2 : PySem.W.keepIn K (.ref f2) = true)
    {f3 : Addr} {od3 an3 : Option Addr} {sl3 : Array (Option Value)} {oc3 kV3 dc3 pm3 cd3 ct3 : Value}
    (a3 : PySem.W.nsIn K mainGlobals "walk" = some (some (.ref f3))) (l3 : K.lookup f3 = some ⟨oc3, od3, .func (PySem.W.fnOf "walk" "walk" (defArgs s_walk) (defBody s_walk) (defScope s_walk) .none kV3 dc3 pm3 an3 cd3 ct3), sl3⟩) (c3 : PySem.W.codeIn K cd3 "walk" = true) (k3 : PySem.W.keepIn K (.ref f3) = true)
    {f4 : Addr} {od4 an4 : Option Addr} {sl4 : Array (Option Value)} {oc4 kV4 dc4 pm4 cd4 ct4 : Value}
    (a4 : PySem.W.nsIn K mainGlobals "check_tree" = some (some (.ref f4))) (l4 : K.lookup f4 = some ⟨oc4, od4, .func (PySem.W.fnOf "check_tree" "check_tree" (defArgs s_check_tree) (defBody s_check_tree) (defScope s_check_tree) .none kV4 dc4 pm4 an4 cd4 ct4), sl4⟩) (c4 : PySem.W.codeIn K cd4 "check_tree" = true) (k4 : PySem.W.keepIn K (.ref f4) = true)
    {f5 : Addr} {od5 an5 : Option Addr} {sl5 : Array (Option Value)} {oc5 kV5 dc5 pm5 cd5 ct5 : Value}
    (a5 : PySem.W.nsIn K mainGlobals "killer_of" = some (some (.ref f5))) (l5 : K.lookup f5 = some ⟨oc5, od5, .func (PySem.W.fnOf "killer_of" "killer_of" (defArgs s_killer_of) (defBody s_killer_of) (defScope s_killer_of) .none kV5 dc5 pm5 an5 cd5 ct5), sl5⟩) (c5 : PySem.W.codeIn K cd5 "killer_of" = true) (k5 : PySem.W.keepIn K (.ref f5) = true)
    {f6 : Addr} {od6 an6 : Option Addr} {sl6 : Array (Option Value)} {oc6 kV6 dc6 pm6 cd6 ct6 : Value}
    (a6 : PySem.W.nsIn K mainGlobals "bound_of" = some (some (.ref f6))) (l6 : K.lookup f6 = some ⟨oc6, od6, .func (PySem.W.fnOf "bound_of" "bound_of" (defArgs s_bound_of) (defBody s_bound_of) (defScope s_bound_of) .none kV6 dc6 pm6 an6 cd6 ct6), sl6⟩) (c6 : PySem.W.codeIn K cd6 "bound_of" = true) (k6 : PySem.W.keepIn K (.ref f6) = true)
    {f7 : Addr} {od7 an7 : Option Addr} {sl7 : Array (Option Value)} {oc7 kV7 dc7 pm7 cd7 ct7 : Value}
    (a7 : PySem.W.nsIn K mainGlobals "is_possible" = some (some (.ref f7))) (l7 : K.lookup f7 = some ⟨oc7, od7, .func (PySem.W.fnOf "is_possible" "is_possible" (defArgs s_is_possible) (defBody s_is_possible) (defScope s_is_possible) .none kV7 dc7 pm7 an7 cd7 ct7), sl7⟩) (c7 : PySem.W.codeIn K cd7 "is_possible" = true) (k7 : PySem.W.keepIn K (.ref f7) = true)
    {f8 : Addr} {od8 an8 : Option Addr} {sl8 : Array (Option Value)} {oc8 kV8 dc8 pm8 cd8 ct8 : Value}
    (a8 : PySem.W.nsIn K mainGlobals "impossible_node" = some (some (.ref f8))) (l8 : K.lookup f8 = some ⟨oc8, od8, .func (PySem.W.fnOf "impossible_node" "impossible_node" (defArgs s_impossible_node) (defBody s_impossible_node) (defScope s_impossible_node) .none kV8 dc8 pm8 an8 cd8 ct8), sl8⟩) (c8 : PySem.W.codeIn K cd8 "impossible_node" = true) (k8 : PySem.W.keepIn K (.ref f8) = true)
    {f9 : Addr} {od9 an9 : Option Addr} {sl9 : Array (Option Value)} {oc9 kV9 dc9 pm9 cd9 ct9 : Value}
    (a9 : PySem.W.nsIn K mainGlobals "check_strings" = some (some (.ref f9))) (l9 : K.lookup f9 = some ⟨oc9, od9, .func (PySem.W.fnOf "check_strings" "check_strings" (defArgs s_check_strings) (defBody s_check_strings) (defScope s_check_strings) .none kV9 dc9 pm9 an9 cd9 ct9), sl9⟩) (c9 : PySem.W.codeIn K cd9 "check_strings" = true) (k9 : PySem.W.keepIn K (.ref f9) = true)
    {f10 : Addr} {od10 an10 : Option Addr} {sl10 : Array (Option Value)} {oc10 kV10 dc10 pm10 cd10 ct10 : Value}
    (a10 : PySem.W.nsIn K mainGlobals "check_pattern" = some (some (.ref f10))) (l10 : K.lookup f10 = some ⟨oc10, od10, .func (PySem.W.fnOf "check_pattern" "check_pattern" (defArgs s_check_pattern) (defBody s_check_pattern) (defScope s_check_pattern) .none kV10 dc10 pm10 an10 cd10 ct10), sl10⟩) (c10 : PySem.W.codeIn K cd10 "check_pattern" = true) (k10 : PySem.W.keepIn K (.ref f10) = true)
    {f11 : Addr} {od11 an11 : Option Addr} {sl11 : Array (Option Value)} {oc11 kV11 dc11 pm11 cd11 ct11 : Value}
    (a11 : PySem.W.nsIn K mainGlobals "_law_draws" = some (some (.ref f11))) (l11 : K.lookup f11 = some ⟨oc11, od11, .func (PySem.W.fnOf "_law_draws" "_law_draws" (defArgs s_law_draws) (defBody s_law_draws) (defScope s_law_draws) .none kV11 dc11 pm11 an11 cd11 ct11), sl11⟩) (c11 : PySem.W.codeIn K cd11 "_law_draws" = true) (k11 : PySem.W.keepIn K (.ref f11) = true)
    {f12 : Addr} {od12 an12 : Option Addr} {sl12 : Array (Option Value)} {oc12 kV12 dc12 pm12 cd12 ct12 : Value}
    (a12 : PySem.W.nsIn K mainGlobals "_law_next" = some (some (.ref f12))) (l12 : K.lookup f12 = some ⟨oc12, od12, .func (PySem.W.fnOf "_law_next" "_law_next" (defArgs s_law_next) (defBody s_law_next) (defScope s_law_next) .none kV12 dc12 pm12 an12 cd12 ct12), sl12⟩) (c12 : PySem.W.codeIn K cd12 "_law_next" = true) (k12 : PySem.W.keepIn K (.ref f12) = true)
    {f13 : Addr} {od13 an13 : Option Addr} {sl13 : Array (Option Value)} {oc13 kV13 dc13 pm13 cd13 ct13 : Value}
    (a13 : PySem.W.nsIn K mainGlobals "_law_size" = some (some (.ref f13))) (l13 : K.lookup f13 = some ⟨oc13, od13, .func (PySem.W.fnOf "_law_size" "_law_size" (defArgs s_law_size) (defBody s_law_size) (defScope s_law_size) .none kV13 dc13 pm13 an13 cd13 ct13), sl13⟩) (c13 : PySem.W.codeIn K cd13 "_law_size" = true) (k13 : PySem.W.keepIn K (.ref f13) = true)
    {f14 : Addr} {od14 an14 : Option Addr} {sl14 : Array (Option Value)} {oc14 kV14 dc14 pm14 cd14 ct14 : Value}
    (a14 : PySem.W.nsIn K mainGlobals "_law_tree" = some (some (.ref f14))) (l14 : K.lookup f14 = some ⟨oc14, od14, .func (PySem.W.fnOf "_law_tree" "_law_tree" (defArgs s_law_tree) (defBody s_law_tree) (defScope s_law_tree) .none kV14 dc14 pm14 an14 cd14 ct14), sl14⟩) (c14 : PySem.W.codeIn K cd14 "_law_tree" = true) (k14 : PySem.W.keepIn K (.ref f14) = true)
    {f15 : Addr} {od15 an15 : Option Addr} {sl15 : Array (Option Value)} {oc15 kV15 dc15 pm15 cd15 ct15 : Value}
    (a15 : PySem.W.nsIn K mainGlobals "_law_way" = some (some (.ref f15))) (l15 : K.lookup f15 = some ⟨oc15, od15, .func (PySem.W.fnOf "_law_way" "_law_way" (defArgs s_law_way) (defBody s_law_way) (defScope s_law_way) .none kV15 dc15 pm15 an15 cd15 ct15), sl15⟩) (c15 : PySem.W.codeIn K cd15 "_law_way" = true) (k15 : PySem.W.keepIn K (.ref f15) = true)
    {f16 : Addr} {od16 an16 : Option Addr} {sl16 : Array (Option Value)} {oc16 kV16 dc16 pm16 cd16 ct16 : Value}
    (a16 : PySem.W.nsIn K mainGlobals "_law_nodes" = some (some (.ref f16))) (l16 : K.lookup f16 = some ⟨oc16, od16, .func (PySem.W.fnOf "_law_nodes" "_law_nodes" (defArgs s_law_nodes) (defBody s_law_nodes) (defScope s_law_nodes) .none kV16 dc16 pm16 an16 cd16 ct16), sl16⟩) (c16 : PySem.W.codeIn K cd16 "_law_nodes" = true) (k16 : PySem.W.keepIn K (.ref f16) = true)
    {f17 : Addr} {od17 an17 : Option Addr} {sl17 : Array (Option Value)} {oc17 kV17 dc17 pm17 cd17 ct17 : Value}
    (a17 : PySem.W.nsIn K mainGlobals "_law_may" = some (some (.ref f17))) (l17 : K.lookup f17 = some ⟨oc17, od17, .func (PySem.W.fnOf "_law_may" "_law_may" (defArgs s_law_may) (defBody s_law_may) (defScope s_law_may) .none kV17 dc17 pm17 an17 cd17 ct17), sl17⟩) (c17 : PySem.W.codeIn K cd17 "_law_may" = true) (k17 : PySem.W.keepIn K (.ref f17) = true)
    {f18 : Addr} {od18 an18 : Option Addr} {sl18 : Array (Option Value)} {oc18 kV18 dc18 pm18 cd18 ct18 : Value}
    (a18 : PySem.W.nsIn K mainGlobals "_law_due" = some (some (.ref f18))) (l18 : K.lookup f18 = some ⟨oc18, od18, .func (PySem.W.fnOf "_law_due" "_law_due" (defArgs s_law_due) (defBody s_law_due) (defScope s_law_due) .none kV18 dc18 pm18 an18 cd18 ct18), sl18⟩) (c18 : PySem.W.codeIn K cd18 "_law_due" = true) (k18 : PySem.W.keepIn K (.ref f18) = true)
    {f19 : Addr} {od19 an19 : Option Addr} {sl19 : Array (Option Value)} {oc19 kV19 dc19 pm19 cd19 ct19 : Value}
    (a19 : PySem.W.nsIn K mainGlobals "_law_told" = some (some (.ref f19))) (l19 : K.lookup f19 = some ⟨oc19, od19, .func (PySem.W.fnOf "_law_told" "_law_told" (defArgs s_law_told) (defBody s_law_told) (defScope s_law_told) .none kV19 dc19 pm19 an19 cd19 ct19), sl19⟩) (c19 : PySem.W.codeIn K cd19 "_law_told" = true) (k19 : PySem.W.keepIn K (.ref f19) = true)
    {f20 : Addr} {od20 an20 : Option Addr} {sl20 : Array (Option Value)} {oc20 kV20 dc20 pm20 cd20 ct20 : Value}
    (a20 : PySem.W.nsIn K mainGlobals "_law_drawn" = some (some (.ref f20))) (l20 : K.lookup f20 = some ⟨oc20, od20, .func (PySem.W.fnOf "_law_drawn" "_law_drawn" (defArgs s_law_drawn) (defBody s_law_drawn) (defScope s_law_drawn) .none kV20 dc20 pm20 an20 cd20 ct20), sl20⟩) (c20 : PySem.W.codeIn K cd20 "_law_drawn" = true) (k20 : PySem.W.keepIn K (.ref f20) = true)
    {f21 : Addr} {od21 an21 : Option Addr} {sl21 : Array (Option Value)} {oc21 kV21 dc21 pm21 cd21 ct21 : Value}
    (a21 : PySem.W.nsIn K mainGlobals "_law_right" = some (some (.ref f21))) (l21 : K.lookup f21 = some ⟨oc21, od21, .func (PySem.W.fnOf "_law_right" "_law_right" (defArgs s_law_right) (defBody s_law_right) (defScope s_law_right) .none kV21 dc21 pm21 an21 cd21 ct21), sl21⟩) (c21 : PySem.W.codeIn K cd21 "_law_right" = true) (k21 : PySem.W.keepIn K (.ref f21) = true)
    {f22 : Addr} {od22 an22 : Option Addr} {sl22 : Array (Option Value)} {oc22 kV22 dc22 pm22 cd22 ct22 : Value}
    (a22 : PySem.W.nsIn K mainGlobals "law" = some (some (.ref f22))) (l22 : K.lookup f22 = some ⟨oc22, od22, .func (PySem.W.fnOf "law" "law" (defArgs s_law) (defBody s_law) (defScope s_law) .none kV22 dc22 pm22 an22 cd22 ct22), sl22⟩) (c22 : PySem.W.codeIn K cd22 "law" = true) (k22 : PySem.W.keepIn K (.ref f22) = true)
    (z0 : PySem.W.nsIn K mainGlobals "isinstance" = some none)
    (z1 : PySem.W.nsIn K mainGlobals "int" = some none)
    (z2 : PySem.W.nsIn K mainGlobals "bool" = some none)
    (z3 : PySem.W.nsIn K mainGlobals "tuple" = some none)
    (z4 : PySem.W.nsIn K mainGlobals "list" = some none)
    (z5 : PySem.W.nsIn K mainGlobals "str" = some none)
    (z6 : PySem.W.nsIn K mainGlobals "len" = some none)
    (z7 : PySem.W.nsIn K mainGlobals "range" = some none)
    (z8 : PySem.W.nsIn K mainGlobals "enumerate" = some none)
    (z9 : PySem.W.nsIn K mainGlobals "sorted" = some none)
    (z10 : PySem.W.nsIn K mainGlobals "set" = some none)
    (z11 : PySem.W.nsIn K mainGlobals "sum" = some none)
    (z12 : PySem.W.nsIn K mainGlobals "max" = some none)
    (z13 : PySem.W.nsIn K mainGlobals "abs" = some none)
    (z14 : PySem.W.nsIn K mainGlobals "zip" = some none)
    (z15 : PySem.W.nsIn K mainGlobals "min" = some none)
    (z16 : PySem.W.nsIn K mainGlobals "repr" = some none)
    {C1 fI : Addr} {odI anI : Option Addr} {slI : Array (Option Value)} {ocI kVI dcI pmI cdI ctI : Value} {nmI qqI : Str} {NNI : Addr} {bsI : List Value} {snI : List Str} {subI : List Value} {abI : Bool} {colI : Option Bool} {dddI : Option Addr} {m0 m1 m2 m3 m5 : Option Value}
    (cg1 : PySem.W.nsIn K mainGlobals "InvalidLabels" = some (some (.ref C1)))
    (ci1 : PySem.W.findIn K (.ref C1) "__init__" = some (some (.ref fI)))
    (cT1 : ClsT K C1)
    (cs11 : PySem.W.subIn K (.ref C1) (.ref C1) = some true)
    (csV : PySem.W.subIn K (.ref C1) (.type "ValueError") = some true)
    (cL1 : K.lookup C1 = some (excClassObj nmI qqI C1 NNI bsI [.type "ValueError", .type "Exception", .type "BaseException", .type "object"] true snI subI abI colI dddI m0 m1 m2 m3 m5 "ValueError.__new__"))
    (csa1 : PySem.W.findIn K (.ref C1) "__setattr__" = some (some (.builtin "object.__setattr__")))
    (cn1 : PySem.W.findIn K (.ref C1) "node" = some none)
    (htI : PySem.W.typeIn K (.ref fI) = some (.type "function"))
    (clI : K.lookup fI = some ⟨ocI, odI, .func (PySem.W.fnOf "__init__" "InvalidLabels.__init__" (defArgs s_ilInit) (defBody s_ilInit) (defScope s_ilInit) .none kVI dcI pmI anI cdI ctI), slI⟩)
    (ccI : PySem.W.codeIn K cdI "InvalidLabels.__init__" = true)
    (ckI : PySem.W.keepIn K (.ref fI) = true)
    (cvE : PySem.W.nsIn K mainGlobals "ValueError" = some none)
    (cvV : PySem.W.findCls K (.type "ValueError") (.type "type") "__init__" = some (.val (.builtin "ValueError.__init__")))
    : ∃ fd : FuncData, (∀ (s : Shared) (v : Value), BindsTo s fd ⟨[v], []⟩ [("script", v)]) ∧ ∀ base : Heap, K.In base → base.Ns mainGlobals mg → FnG l.prog w K mg base CX0 21 fa fd ["script"] (spLaw K) := by
  cases hfa.symm.trans (PySem.W.mg_of X G a22)
  have B : Bl mg := ⟨PySem.W.mg_none_of X G z0, PySem.W.mg_none_of X G z1, PySem.W.mg_none_of X G z2, PySem.W.mg_none_of X G z3, PySem.W.mg_none_of X G z4, PySem.W.mg_none_of X G z5, PySem.W.mg_none_of X G z6, PySem.W.mg_none_of X G z7, PySem.W.mg_none_of X G z8, PySem.W.mg_none_of X G z9, PySem.W.mg_none_of X G z10, PySem.W.mg_none_of X G z11, PySem.W.mg_none_of X G z12, PySem.W.mg_none_of X G z13, PySem.W.mg_none_of X G z14, PySem.W.mg_none_of X G z15⟩
  have A1 : At K mg "is_tree" s_is_tree := ⟨_, _, PySem.W.mg_of X G a1, fun_mk l1 c1 k1⟩
  have A2 : At K mg "count_nodes" s_count_nodes := ⟨_, _, PySem.W.mg_of X G a2, fun_mk l2 c2 k2⟩
  have A3 : At K mg "walk" s_walk := ⟨_, _, PySem.W.mg_of X G a3, fun_mk l3 c3 k3⟩
  have A4 : At K mg "check_tree" s_check_tree := ⟨_, _, PySem.W.mg_of X G a4, fun_mk l4 c4 k4⟩
  have A5 : At K mg "killer_of" s_killer_of := ⟨_, _, PySem.W.mg_of X G a5, fun_mk l5 c5 k5⟩
  have A6 : At K mg "bound_of" s_bound_of := ⟨_, _, PySem.W.mg_of X G a6, fun_mk l6 c6 k6⟩
  have A7 : At K mg "is_possible" s_is_possible := ⟨_, _, PySem.W.mg_of X G a7, fun_mk l7 c7 k7⟩
  have A8 : At K mg "impossible_node" s_impossible_node := ⟨_, _, PySem.W.mg_of X G a8, fun_mk l8 c8 k8⟩
  have A9 : At K mg "check_strings" s_check_strings := ⟨_, _, PySem.W.mg_of X G a9, fun_mk l9 c9 k9⟩
  have A10 : At K mg "check_pattern" s_check_pattern := ⟨_, _, PySem.W.mg_of X G a10, fun_mk l10 c10 k10⟩
  have A11 : At K mg "_law_draws" s_law_draws := ⟨_, _, PySem.W.mg_of X G a11, fun_mk l11 c11 k11⟩
  have A12 : At K mg "_law_next" s_law_next := ⟨_, _, PySem.W.mg_of X G a12, fun_mk l12 c12 k12⟩
  have A13 : At K mg "_law_size" s_law_size := ⟨_, _, PySem.W.mg_of X G a13, fun_mk l13 c13 k13⟩
  have A14 : At K mg "_law_tree" s_law_tree := ⟨_, _, PySem.W.mg_of X G a14, fun_mk l14 c14 k14⟩
  have A15 : At K mg "_law_way" s_law_way := ⟨_, _, PySem.W.mg_of X G a15, fun_mk l15 c15 k15⟩
  have A16 : At K mg "_law_nodes" s_law_nodes := ⟨_, _, PySem.W.mg_of X G a16, fun_mk l16 c16 k16⟩
  have A17 : At K mg "_law_may" s_law_may := ⟨_, _, PySem.W.mg_of X G a17, fun_mk l17 c17 k17⟩
  have A18 : At K mg "_law_due" s_law_due := ⟨_, _, PySem.W.mg_of X G a18, fun_mk l18 c18 k18⟩
  have A19 : At K mg "_law_told" s_law_told := ⟨_, _, PySem.W.mg_of X G a19, fun_mk l19 c19 k19⟩
  have A20 : At K mg "_law_drawn" s_law_drawn := ⟨_, _, PySem.W.mg_of X G a20, fun_mk l20 c20 k20⟩
  have A21 : At K mg "_law_right" s_law_right := ⟨_, _, PySem.W.mg_of X G a21, fun_mk l21 c21 k21⟩
  refine ⟨PySem.W.fnOf "law" "law" (defArgs s_law) (defBody s_law) (defScope s_law) .none kV22 dc22 pm22 an22 cd22 ct22, fun s v => .of_eq rfl, fun base _ _ => ?_⟩
  have FI := fun_mk (st := s_ilInit) clI ccI ckI
  have OL : OwnL K mg C1 fI _ := ⟨PySem.W.mg_of X G cg1, ⟨⟨_, _, _, _, _, _, _, _, _, _, _, _, _, _, _, cL1, by decide +kernel⟩, csa1, cT1.b, cT1.t, cT1.k⟩, ci1, htI, cn1, FI, FI.binds fun _ _ _ _ _ _ us hl => match us, hl with | [_, _], _ => rfl, PySem.W.mg_none_of X G cvE, cvV⟩
  have OE : OneL K mg C1 := ⟨PySem.W.mg_of X G cg1, exm_cls cT1 cs11, cT1.exc, cT1.xf, cn1, kit_ve csV⟩
  have Tr := ok_tree (P := l.prog) (w := w) (base := base) B A1
  have Co := ok_count (P := l.prog) (w := w) (base := base) A2
  have Wa := ok_walk Co A3
  have Ct := ok_chkT Tr A4
  have Ki := ok_killer (P := l.prog) (w := w) (base := base) A5
  have Bn := ok_bound (P := l.prog) (w := w) (base := base) A6
  have Po := ok_poss Ki Bn A7
  have Im := ok_imp Wa Po A8
  have Cs := ok_chkS B OL Co Ct A9
  have CsG := ok_chkSG B Co Ct A9
  have Cp := ok_chkP OL Cs Im A10
  have Cg := okB_chkG CsG Im A10
  have Dr := ok_draws (P := l.prog) (w := w) (base := base) B A11
  have N := ok_next (P := l.prog) (w := w) (base := base) B A12
  have Z := ok_size (P := l.prog) (w := w) (base := base) A13 9
  have T := ok_drawT B N A14 9
  have Wy := ok_way B Z A15
  have Nd := nodes_of (ok_nodes Z A16 9)
  have My := ok_may B Wy A17
  have Du := ok_dueP B Z Nd My (by decide) A18
  have To := ok_toldP B (PySem.W.mg_none_of X G cvE) OE Cp A19
  have Dw := ok_drawnP B N Z Nd My (by decide) A20
  have R := ok_right B (PySem.W.mg_none_of X G z16) N T Dw To Du Cg A21
  exact ok_law B (fun_mk l22 c22 k22) Dr R
end HSP
open PySem PySem.W PyProof.Rows
set_option maxHeartbeats 0 in
theorem PySem.Challenge.cw_halfsearch_k10_patterns_checked_holds : PySem.Challenge.rw_halfsearch_k10_patterns_checked.Holds := by
  w_on; o_law; k_head; (case hw => w_witness2)
  k_fill
  refine HSP.walk_ofG (l := PySem.Challenge.rw_halfsearch_k10_patterns_checked) (n := 63) (k := 21) (x := "script") (sp := fun w => HSP.spLaw _) rfl (by decide) rfl ⟨rfl, by decide, by decide⟩ (fun w h Y => PySem.W.kIn_of Y) ?F (fun _ _ a ns hl _ hS => ⟨a, ns, rfl, hS, hl, fun _ => rfl⟩)
  case F =>
    intro w mg fa h KX G hmg
    refine' HSP.all_mk KX G hmg ?a1 ?l1 ?c1 ?k1 ?a2 ?l2 ?c2 ?k2 ?a3 ?l3 ?c3 ?k3 ?a4 ?l4 ?c4 ?k4 ?a5 ?l5 ?c5 ?k5 ?a6 ?l6 ?c6 ?k6 ?a7 ?l7 ?c7 ?k7 ?a8 ?l8 ?c8 ?k8 ?a9 ?l9 ?c9 ?k9 ?a10 ?l10 ?c10 ?k10 ?a11 ?l11 ?c11 ?k11 ?a12 ?l12 ?c12 ?k12 ?a13 ?l13 ?c13 ?k13 ?a14 ?l14 ?c14 ?k14 ?a15 ?l15 ?c15 ?k15 ?a16 ?l16 ?c16 ?k16 ?a17 ?l17 ?c17 ?k17 ?a18 ?l18 ?c18 ?k18 ?a19 ?l19 ?c19 ?k19 ?a20 ?l20 ?c20 ?k20 ?a21 ?l21 ?c21 ?k21 ?a22 ?l22 ?c22 ?k22 ?z0 ?z1 ?z2 ?z3 ?z4 ?z5 ?z6 ?z7 ?z8 ?z9 ?z10 ?z11 ?z12 ?z13 ?z14 ?z15 ?z16 ?cg1 ?ci1 ?cT1 ?cs11 ?csV ?cL1 ?csa1 ?cn1 ?htI ?clI ?ccI ?ckI ?cvE ?cvV
    (case a1 => k_is)
    (case l1 => k_is)
    (case c1 => k_is)
    (case k1 => k_is)
    (case a2 => k_is)
    (case l2 => k_is)
    (case c2 => k_is)
    (case k2 => k_is)
    (case a3 => k_is)
    (case l3 => k_is)
    (case c3 => k_is)
    (case k3 => k_is)
    (case a4 => k_is)
    (case l4 => k_is)
    (case c4 => k_is)
    (case k4 => k_is)
    (case a5 => k_is)
    (case l5 => k_is)
    (case c5 => k_is)
    (case k5 => k_is)
    (case a6 => k_is)
    (case l6 => k_is)
    (case c6 => k_is)
    (case k6 => k_is)
    (case a7 => k_is)
    (case l7 => k_is)
    (case c7 => k_is)
    (case k7 => k_is)
    (case a8 => k_is)
    (case l8 => k_is)
    (case c8 => k_is)
    (case k8 => k_is)
    (case a9 => k_is)
    (case l9 => k_is)
    (case c9 => k_is)
    (case k9 => k_is)
    (case a10 => k_is)
    (case l10 => k_is)
    (case c10 => k_is)
    (case k10 => k_is)
    (case a11 => k_is)
    (case l11 => k_is)
    (case c11 => k_is)
    (case k11 => k_is)
    (case a12 => k_is)
    (case l12 => k_is)
    (case c12 => k_is)
    (case k12 => k_is)
    (case a13 => k_is)
    (case l13 => k_is)
    (case c13 => k_is)
    (case k13 => k_is)
    (case a14 => k_is)
    (case l14 => k_is)
    (case c14 => k_is)
    (case k14 => k_is)
    (case a15 => k_is)
    (case l15 => k_is)
    (case c15 => k_is)
    (case k15 => k_is)
    (case a16 => k_is)
    (case l16 => k_is)
    (case c16 => k_is)
    (case k16 => k_is)
    (case a17 => k_is)
    (case l17 => k_is)
    (case c17 => k_is)
    (case k17 => k_is)
    (case a18 => k_is)
    (case l18 => k_is)
    (case c18 => k_is)
    (case k18 => k_is)
    (case a19 => k_is)
    (case l19 => k_is)
    (case c19 => k_is)
    (case k19 => k_is)
    (case a20 => k_is)
    (case l20 => k_is)
    (case c20 => k_is)
    (case k20 => k_is)
    (case a21 => k_is)
    (case l21 => k_is)
    (case c21 => k_is)
    (case k21 => k_is)
    (case a22 => k_is)
    (case l22 => k_is)
    (case c22 => k_is)
    (case k22 => k_is)
    (case z0 => k_is)
    (case z1 => k_is)
    (case z2 => k_is)
    (case z3 => k_is)
    (case z4 => k_is)
    (case z5 => k_is)
    (case z6 => k_is)
    (case z7 => k_is)
    (case z8 => k_is)
    (case z9 => k_is)
    (case z10 => k_is)
    (case z11 => k_is)
    (case z12 => k_is)
    (case z13 => k_is)
    (case z14 => k_is)
    (case z15 => k_is)
    (case z16 => k_is)
    (case cg1 => k_is)
    (case ci1 => k_is)
    (case cT1 => exact ⟨by k_is, by k_is, by k_is, ⟨_, by k_is⟩, by k_is, by k_is, by k_is, by k_is, by k_is, by k_is, by k_is⟩)
    (case cs11 => k_is)
    (case csV => k_is)
    (case cL1 => k_is)
    (case csa1 => k_is)
    (case cn1 => k_is)
    (case htI => k_is)
    (case clI => k_is)
    (case ccI => k_is)
    (case ckI => k_is)
    (case cvE => k_is)
    (case cvV => k_is)
