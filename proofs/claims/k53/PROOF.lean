import PyProof.Rows.All
import Wide.All
import OpenK.AllK
import Wide.FinOn
import HandS.Base
import HandS.Call
import HandS.List
import HandS.Comp
import HandS.Ends
import HandS.Dict
import HandS.Iter
import HandS.Text
import HandS.Words
import HandS.WordsList
import HandS.Wide
import HandS.Strs
import HandS.SetFor
import HandS.SortInts
import HandS.Defaults
import HandS.IsInst
import HandS.Walk
import HandS.Codes
import HandS.ForSpec
import HandS.Exc
import HandS.ExcValue
import KE.KTryMore
import HandS.ExcField
import HandS.ExcIs
import HandS.WordsExc
import HandS.ExcOwn
import HandS.ExcInit
import HandS.RaiseMore
import PyProof.NeKinds
import HandS.Style
import KE.KDictZip
import HandS.Conv
import HandS.Sort
import KE.KDictList
import KE.KTurns
import HandS.Deep
import PySem.Challenge.RW_halfsearch_k53_rows_judged
set_option Elab.async false
set_option maxRecDepth 100000
namespace HSP
open PySem PySem.Spec PyProof.Rows L2
/-! ## trees of pairs, as they lie in the heap -/
inductive Tr where
  | nil
  | nod (l r : Tr)
  deriving DecidableEq
def Tr.size : Tr → Nat
  | .nil => 0
  | .nod l r => l.size + 1 + r.size
def Tr.ht : Tr → Nat
  | .nil => 0
  | .nod l r => max l.ht r.ht + 1
theorem Tr.ht_le : ∀ t : Tr, t.ht ≤ t.size
  | .nil => Nat.le_refl _
  | .nod l r => by
    have h1 := l.ht_le
    have h2 := r.ht_le
    simp only [Tr.ht, Tr.size]
    omega
inductive TrAt (H : Hp) : V → Tr → Prop
  | nil : TrAt H .non .nil
  | nod {a : Addr} {x y : V} {l r : Tr} : H a = some (.tup [x, y]) → TrAt H x l → TrAt H y r → TrAt H (.ref a) (.nod l r)
theorem TrAt.keep {H H' : Hp} {v : V} {t : Tr} (h : TrAt H v t) (s : ∀ a x y, H a = some (.tup [x, y]) → H' a = some (.tup [x, y])) : TrAt H' v t := by
  induction h with
  | nil => exact .nil
  | nod e _ _ ih1 ih2 => exact .nod (s _ _ _ e) ih1 ih2
theorem TrAt.same {H H' : Hp} {v : V} {t : Tr} (h : TrAt H v t) (s : Same H H') : TrAt H' v t := h.keep fun a x y e => s a _ e
/-! ## heaps: all but one place stays -/
def Keep (p : Addr) (H H' : Hp) : Prop := ∀ b o, b ≠ p → H b = some o → H' b = some o
theorem Keep.refl (p : Addr) (H : Hp) : Keep p H H := fun _ _ _ e => e
theorem Keep.trans {p : Addr} {H H1 H2 : Hp} (a : Keep p H H1) (b : Keep p H1 H2) : Keep p H H2 := fun c o n e => b c o n (a c o n e)
theorem Keep.of {p : Addr} {H H' : Hp} (s : Same H H') : Keep p H H' := fun b o _ e => s b o e
theorem Keep.at {p : Addr} {H : Hp} {o : HO} : Keep p H (upd H p o) := fun b u n e => by
  rw [upd_ne n]; exact e
theorem Keep.new {p q : Addr} {H : Hp} {o : HO} (h : H q = none) : Keep p H (upd H q o) := fun b u _ e => by
  rw [upd_ne (ne_of_none e h)]; exact e
theorem Keep.tree {p : Addr} {H H' : Hp} {v : V} {t : Tr} {xs : List V} (k : Keep p H H') (hp : H p = some (.lst xs)) (h : TrAt H v t) : TrAt H' v t :=
  h.keep fun a x y e => k a _ (fun z => by rw [z, hp] at e; cases e) e
theorem Same.new {H : Hp} {p : Addr} {o : HO} (h : H p = none) : Same H (upd H p o) := fun b u e => by
  rw [upd_ne (ne_of_none e h)]; exact e
theorem Keep.same {p : Addr} {H H1 H' : Hp} (s : Same H H1) (n : H p = none) (k : Keep p H1 H') : Same H H' := fun b o e => k b o (ne_of_none e n) (s b o e)
/-! ## powers -/
def CPowW (i j : Int) : Prop := 0 ≤ j ∧ (Builtin.Int.intBits i : Int) * j ≤ 2 ^ 27
section
variable {X : Cx}
theorem op_powW : OpR X (binaryOp .Pow) (rI CPowW fun i j => .int (i ^ j.toNat)) :=
  opI fun _ _ _ _ _ _ _ hc q => pow_int hc.1 hc.2 q
end
end HSP
namespace HSP
open PySem PySem.Spec PyProof.Rows L2
/-! ## a def of the text that keeps a promise, called by its name -/
/-- the def stands under its own name behind the top -/
def At (K : PySem.W.Frag) (mg : Str → Option Value) (x : Str) (st : Stmt) : Prop := ∃ (f : Addr) (fd : FuncData), mg x = some (.ref f) ∧ Fun K x x st f fd
structure Df (P : Program) (w : World) (K : PySem.W.Frag) (mg : Str → Option Value) (base : Heap) (x : Str) (n : Nat) (ps : List Str) (sp : Sp) : Prop where
  ex : ∃ (f : Addr) (fd : FuncData), mg x = some (.ref f) ∧ PySem.W.keepIn K (.ref f) = true ∧ Binds K fd ps [] ∧ FnOk P w K mg base CX0 n f fd ps sp
section
variable {P : Program} {w : World} {K : PySem.W.Frag} {mg : Str → Option Value} {base : Heap}
theorem Df.mk' {x : Str} {st : Stmt} {N ps : List Str} {k : Nat} {sp : Sp} (a : At K mg x st) (S : FnScope N ps (defScope st)) (len : ∀ vs H Q E, sp vs H Q E → vs.length = ps.length)
    (hb : ∀ (kV doc pm : Value) (an : Option Addr) (cdv ct : Value) (us : List Value), us.length = ps.length → bindArgs (PySem.W.fnOf x x (defArgs st) (defBody st) (defScope st) .none kV doc pm an cdv ct) ⟨us, []⟩ = pure (ps.zip us))
    (body : ∀ (f : Addr) (cdv : Value) (A : Around) (outer : List Env) (s : Shared) (H : Hp) (vs : List V) (Q : VK) (E : XK), Room k (A.deeper (envOfC x (defScope st) s.heap.objs.size f cdv)) → sp vs H Q E →
      ∃ t, PSs (cxOf CX0 P w K mg base N x (defScope st) f cdv A outer s H E).nox (defBody st) t ∧ t { nx := fun _ H' => Q .non H', rt := Q } (start N vs) H) : Df P w K mg base x (k + 1) ps sp := by
  obtain ⟨f, fd, hm, F⟩ := a
  exact ⟨f, fd, hm, F.kp, F.binds hb, F.ok S len (body f)⟩
theorem Df.mono {x : Str} {j k : Nat} {ps : List Str} {sp : Sp} (D : Df P w K mg base x j ps sp) (h : j ≤ k) : Df P w K mg base x k ps sp := by
  obtain ⟨f, fd, a, b, c, d⟩ := D.ex
  exact ⟨f, fd, a, b, c, d.mono h⟩
theorem Df.imp {x : Str} {k : Nat} {ps : List Str} {sp sp' : Sp} (D : Df P w K mg base x k ps sp) (h : ∀ vs H Q E, sp' vs H Q E → sp vs H Q E) : Df P w K mg base x k ps sp' := by
  obtain ⟨f, fd, a, b, c, d⟩ := D.ex
  exact ⟨f, fd, a, b, c, d.imp h⟩
end
section
variable {X : Cx} {k : Nat} {ps : List Str} {sp : Sp} {x : Str} {p pos : Pos} {e : Expr} {es : List Expr} {t : TA}
theorem pe_df (D : Df X.prog X.w X.K X.mg X.base x k ps sp) (hr : Room k X.A) (ha : PA X (e :: es) t) (hg : Gl X x := by rfl) (hdb : (x == ("__debug__" : Str)) = false := by decide)
    (he : starEach (e :: es) X.env = (false, eval e X.env) :: starEach es X.env := by rfl) (hpl : (backTo pos (starEach es X.env)).any (·.1) = false := by rfl) : PE X (.Call (.Name x p) (e :: es) [] pos) (tCall sp [] E0 t) := by
  obtain ⟨f, fd, hm, hk, hb, F⟩ := D.ex
  exact pe_call F hr hg hm hk hb .nil pass0 ha hdb he hpl
end
/-! ## what a test or a value is -/
theorem int_inj {i j : Int} (h : i = j) : V.int i = V.int j := by rw [h]
/-! ## the built-ins, not shadowed -/
structure Bl (mg : Str → Option Value) : Prop where
  isinstance : mg "isinstance" = none
  int : mg "int" = none
  bool : mg "bool" = none
  tuple : mg "tuple" = none
  list : mg "list" = none
  str : mg "str" = none
  len : mg "len" = none
  range : mg "range" = none
  enumerate : mg "enumerate" = none
  sorted : mg "sorted" = none
  set : mg "set" = none
  sum : mg "sum" = none
  max : mg "max" = none
  abs : mg "abs" = none
  zip : mg "zip" = none
  min : mg "min" = none
end HSP
namespace HSP
open PySem PySem.Spec PyProof.Rows L2
def topS (i : Nat) : Stmt := PySem.Challenge.pw_halfsearch_k53_rows_judged.main.body.getD i (.Pass ⟨0, 0, 0, 0⟩)
abbrev s_is_whole : Stmt := topS 3
abbrev p_is_whole : List Str := ["thing"]
abbrev n_is_whole : List Str := ["thing"]
abbrev s_is_split : Stmt := topS 4
abbrev p_is_split : List Str := ["thing", "nodes"]
abbrev n_is_split : List Str := ["thing", "nodes", "held", "row", "node"]
abbrev s_check_row : Stmt := topS 5
abbrev p_check_row : List Str := ["row"]
abbrev n_check_row : List Str := ["row", "node", "value"]
abbrev s_halved : Stmt := topS 7
abbrev p_halved : List Str := ["length", "rule"]
abbrev n_halved : List Str := ["length", "rule", "root"]
abbrev s_joined : Stmt := topS 9
abbrev p_joined : List Str := ["parts"]
abbrev n_joined : List Str := ["parts", "middle"]
abbrev s_rows_of : Stmt := topS 10
abbrev p_rows_of : List Str := ["values"]
abbrev n_rows_of : List Str := ["values", "rows", "node", "value", "at"]
abbrev s_rising_row : Stmt := topS 11
abbrev p_rising_row : List Str := ["rows"]
abbrev n_rising_row : List Str := ["rows", "taken", "row", "earlier", "node"]
abbrev s_most_found : Stmt := topS 12
abbrev p_most_found : List Str := ["values"]
abbrev n_most_found : List Str := ["values", "rows", "edges", "parts", "before", "behind"]
abbrev s_are_rows : Stmt := topS 13
abbrev p_are_rows : List Str := ["values", "thing"]
abbrev n_are_rows : List Str := ["values", "thing", "pairs", "row", "pair", "one", "other"]
abbrev s_law_draws : Stmt := topS 15
abbrev p_law_draws : List Str := ["cell"]
abbrev n_law_draws : List Str := ["cell"]
abbrev s_law_next : Stmt := topS 16
abbrev p_law_next : List Str := ["draws"]
abbrev n_law_next : List Str := ["draws", "k", "number"]
abbrev s_law_numbers : Stmt := topS 17
abbrev p_law_numbers : List Str := ["draws", "nodes"]
abbrev n_law_numbers : List Str := ["draws", "nodes", "wide", "k"]
abbrev s_law_row_right : Stmt := topS 18
abbrev p_law_row_right : List Str := ["a_values", "row"]
abbrev n_law_row_right : List Str := ["a_values", "row", "one", "other"]
abbrev s_law_due : Stmt := topS 19
abbrev p_law_due : List Str := ["a_values", "rows"]
abbrev n_law_due : List Str := ["a_values", "rows", "row"]
abbrev s_law_bent : Stmt := topS 20
abbrev p_law_bent : List Str := ["draws", "rows", "nodes"]
abbrev n_law_bent : List Str := ["draws", "rows", "nodes", "pick", "row", "told", "odd", "at", "spot", "other", "front", "back", "bent", "rest", "both", "moved", "one"]
abbrev s_law_right : Stmt := topS 21
abbrev p_law_right : List Str := ["draws"]
abbrev n_law_right : List Str := ["draws", "a_values", "some", "turn", "rows", "kept", "due", "node", "row"]
abbrev s_law : Stmt := topS 22
abbrev p_law : List Str := ["script"]
abbrev n_law : List Str := ["script", "draws", "cell"]
end HSP
namespace HSP
open PySem PySem.Spec PyProof.Rows L2
section
variable {P : Program} {w : World} {K : PySem.W.Frag} {mg : Str → Option Value} {base : Heap}
/-! ### count_nodes -/
/-- what waits: trees of together n nodes -/
inductive Waits (H : Hp) : List V → List Tr → Prop
  | nil : Waits H [] []
  | cons {v : V} {t : Tr} {vs : List V} {ts : List Tr} : TrAt H v t → Waits H vs ts → Waits H (v :: vs) (t :: ts)
theorem Waits.len {H : Hp} {vs : List V} {ts : List Tr} (h : Waits H vs ts) : vs.length = ts.length := by
  induction h with
  | nil => rfl
  | cons _ _ ih => rw [List.length_cons, List.length_cons, ih]
def sizes : List Tr → Nat
  | [] => 0
  | t :: r => t.size + sizes r
def turns : List Tr → Nat
  | [] => 0
  | t :: r => 2 * t.size + 1 + turns r
/-- the list on which they wait, the last one first -/
theorem last_rev {v : V} {vs : List V} : (v :: vs).reverse[(v :: vs).reverse.length - 1]? = some v := by
  rw [List.reverse_cons, List.length_append, List.length_singleton, Nat.add_sub_cancel, List.getElem?_append_right (Nat.le_refl _), Nat.sub_self]
  all_goals rfl
theorem drop_rev {v : V} {vs : List V} : (v :: vs).reverse.dropLast = vs.reverse := by
  rw [List.reverse_cons, List.dropLast_concat]
theorem rev_push {v : V} {vs : List V} : vs.reverse ++ [v] = (v :: vs).reverse := by rw [List.reverse_cons]
theorem rev_empty {vs : List V} : (!vs.reverse.isEmpty) = !vs.isEmpty := by
  cases vs with
  | nil => rfl
  | cons v r =>
    rw [List.reverse_cons]
    cases r.reverse <;> rfl
def spCount : Sp := fun vs H Q _ => ∃ (v : V) (t : Tr), vs = [v] ∧ TrAt H v t ∧ t.size ≤ 1000 ∧ ∀ H', Same H H' → Q (.int t.size) H'
end
end HSP
namespace HSP
open PySem PySem.Spec PyProof.Rows L2
theorem Paired.app {α β : Type} {R : α → β → Prop} : ∀ {l : List α} {m : List β} {l' : List α} {m' : List β}, Paired R l m → Paired R l' m' → Paired R (l ++ l') (m ++ m')
  | _, _, _, _, .nil, h => h
  | _, _, _, _, .cons a t, h => .cons a (Paired.app t h)
theorem ixN_in {n : Nat} {i : Int} (h0 : 0 ≤ i) (h1 : i < (n : Int)) : ixN n i = some i.toNat := by
  unfold ixN
  rw [if_pos h0, if_pos h1]
def valAt (ns : List Int) (i : Nat) : Int := ns.getD i 0
theorem valAt_get {ns : List Int} {i : Nat} (h : i < ns.length) : (ns.map V.int)[i]? = some (.int (valAt ns i)) := by
  rw [List.getElem?_map, List.getElem?_eq_getElem h, valAt, List.getD_eq_getElem?_getD, List.getElem?_eq_getElem h]
  rfl
def natV (n : Nat) : V := .int (n : Int)
theorem ite_no {c A B : Prop} [Decidable c] (h : ¬ c) (b : B) : if decide c = true then A else B := by
  rw [decide_eq_false h]
  exact iteF b
theorem ite_yes {c A B : Prop} [Decidable c] (h : c) (a : A) : if decide c = true then A else B := by
  rw [decide_eq_true h]
  exact iteT a
inductive Md where
  | fin | lft | rgt
def Md.str : Md → Str
  | .fin => "end"
  | .lft => "left"
  | .rgt => "right"
/-- where a search goes on -/
def wayOf (tw v : Int) (m : Md) : Md := if tw = 2 * v then m else if tw < 2 * v then .lft else .rgt
/-! ### the search, as a function of the tree -/
/-- how it ends: is it found, and the node or the gap -/
def sEnd (g : Nat → Int) (tw : Int) (m : Md) : Tr → Nat → Bool × Nat
  | .nil, f => (false, f)
  | .nod l r, f => match wayOf tw (g (f + l.size)) m with
    | .fin => (true, f + l.size)
    | .lft => sEnd g tw m l f
    | .rgt => sEnd g tw m r (f + l.size + 1)
theorem sEnd_nod (g : Nat → Int) (tw : Int) (m : Md) (l r : Tr) (f : Nat) : sEnd g tw m (.nod l r) f = match wayOf tw (g (f + l.size)) m with | .fin => (true, f + l.size) | .lft => sEnd g tw m l f | .rgt => sEnd g tw m r (f + l.size + 1) := rfl
/-- the nodes at which it is -/
def sPath (g : Nat → Int) (tw : Int) (m : Md) : Tr → Nat → List Nat
  | .nil, _ => []
  | .nod l r, f => (f + l.size) :: match wayOf tw (g (f + l.size)) m with
    | .fin => []
    | .lft => sPath g tw m l f
    | .rgt => sPath g tw m r (f + l.size + 1)
theorem sPath_in (g : Nat → Int) (tw : Int) (m : Md) : ∀ (t : Tr) (f i : Nat), i ∈ sPath g tw m t f → f ≤ i ∧ i < f + t.size
  | .nil, _, _, h => by cases h
  | .nod l r, f, i, h => by
    have e : sPath g tw m (.nod l r) f = (f + l.size) :: match wayOf tw (g (f + l.size)) m with | .fin => [] | .lft => sPath g tw m l f | .rgt => sPath g tw m r (f + l.size + 1) := rfl
    have z : (Tr.nod l r).size = l.size + 1 + r.size := rfl
    rw [e] at h
    rw [z]
    rcases List.mem_cons.mp h with q | q
    · omega
    · cases w : wayOf tw (g (f + l.size)) m with
      | fin => rw [w] at q; cases q
      | lft =>
        rw [w] at q
        have := sPath_in g tw m l f i q
        omega
      | rgt =>
        rw [w] at q
        have := sPath_in g tw m r (f + l.size + 1) i q
        omega
theorem sPath_len (g : Nat → Int) (tw : Int) (m : Md) : ∀ (t : Tr) (f : Nat), (sPath g tw m t f).length ≤ t.size
  | .nil, _ => Nat.le_refl _
  | .nod l r, f => by
    have e : sPath g tw m (.nod l r) f = (f + l.size) :: match wayOf tw (g (f + l.size)) m with | .fin => [] | .lft => sPath g tw m l f | .rgt => sPath g tw m r (f + l.size + 1) := rfl
    have z : (Tr.nod l r).size = l.size + 1 + r.size := rfl
    rw [e, z, List.length_cons]
    cases wayOf tw (g (f + l.size)) m with
    | fin => show 0 + 1 ≤ _; omega
    | lft => have := sPath_len g tw m l f; show (sPath g tw m l f).length + 1 ≤ _; omega
    | rgt => have := sPath_len g tw m r (f + l.size + 1); show (sPath g tw m r (f + l.size + 1)).length + 1 ≤ _; omega
def optNV : Option Nat → V
  | none => .non
  | some n => natV n
def kindV (b : Bool) : V := if b = true then .str "found" else .str "gap"
end HSP
set_option maxHeartbeats 2000000
namespace HSP
open PySem PySem.Spec PyProof.Rows L2
/-! ### try: body, except (A, B) as n: suite -/
section
variable {X : Cx}
/-- a class's name is read, the state stays -/
theorem ld_name {x : Str} {c : Value} {pins : List (Addr × Obj)} {s : Shared} {σ : L2.St} {H : Hp} {q0 : Pos} {Q : Value → Shared → Prop} {E : Value → Shared → Prop} (hc : Names X x c) (I : Inv X pins σ H s) (q : Q c s) : wpAny (model X.prog X.w) X.A (eval (.Name x q0) X.env) Q E s := by
  obtain ⟨g, nd, m | ⟨m, v, n⟩⟩ := hc
  · exact ld_glob I g m q nd
  · exact ld_blt I g m v q n nd
/-- (A, B) is made anew, the heap grows by it alone -/
theorem ld_pair {x1 x2 : Str} {c1 c2 : Value} {pins : List (Addr × Obj)} {s : Shared} {σ : L2.St} {H : Hp} {p1 p2 p3 : Pos} {kk : Nat} {Q : Value → Shared → Prop} {E : Value → Shared → Prop} (h1 : Names X x1 c1) (h2 : Names X x2 c2) (I : Inv X pins σ H s)
    (q : Q (.ref s.heap.objs.size) { s with heap := s.heap.push { cls := .type "tuple", data := .seq [c1, c2].toArray } }) : wpAny (model X.prog X.w) X.A (eval (.Tuple [.Name x1 p1, .Name x2 p2] kk p3) X.env) Q E s := by
  refine wpAny_Tuple_spliced ?_
  show wpAny _ _ (spliced ((false, eval (.Name x1 p1) X.env) :: backTo p3 (starEach [.Name x2 p2] X.env))) _ _ s
  refine Calls.spliced_cons (ld_name h1 I ?_)
  show wpAny _ _ (spliced ((false, eval (.Name x2 p2) X.env) :: backTo p3 (starEach [] X.env))) _ _ s
  refine Calls.spliced_cons (ld_name h2 I ?_)
  exact Calls.spliced_nil ⟨(by show 2 ≤ sizeLine; decide), q⟩
theorem flying_push {B : Heap} {l : List Env} {e : Addr} {Z : Obj → Prop} {h : Heap} (o : Obj) (f : HandSPX.FlyingZ B l e Z h) : HandSPX.FlyingZ B l e Z (h.push o) := by
  obtain ⟨f1, f2, f3, oe, vs, T, oT, ts, g1, g2, g3, g4, g5, g6, g7, g8, g9⟩ := f
  exact ⟨fun b u z => Heap.get?_push_of_some _ (f1 b u z), f2, Heap.FunFrames.of_keeps (fun b u z _ => ⟨u, Heap.get?_push_of_some _ z, rfl⟩) f3, oe, vs, T, oT, ts, Heap.get?_push_of_some _ g1, g2, g3, g4, g5, g6, Heap.get?_push_of_some _ g7, g8, g9⟩
end
/-- a caught exception that is kept: its class, its dict -/
def exK (cls : Value) (d : Option Addr) (e : Addr) : HO := .ext fun h => ∃ (o : Obj) (vs : Array Value), h.get? e = some o ∧ Zc cls d o ∧ o.data = .fields vs
theorem exK_ok {P : Program} {w : World} {H : Hp} {h : Heap} {e : Addr} {cls : Value} {d : Option Addr} {o : Obj} {vs : Array Value} (g : h.get? e = some o) (z : Zc cls d o) (f : o.data = .fields vs) : ObjOk P w H h e (exK cls d e) :=
  ⟨⟨o, vs, g, z, f⟩, ⟨o, g⟩, fun h1 h2 q same => by
    obtain ⟨o1, v1, g1, z1, f1⟩ := q
    exact ⟨o1, v1, same o1 g1, z1, f1⟩⟩
theorem exK_at {P : Program} {w : World} {H : Hp} {h : Heap} {e : Addr} {cls : Value} {d : Option Addr} (ok : HOk P w H h) (q : H e = some (exK cls d e)) : ∃ (o : Obj) (vs : Array Value), h.get? e = some o ∧ Zc cls d o ∧ o.data = .fields vs := (ok e _ q).1
/-- what the clause wishes, the exception kept in the heap -/
def wKeep2 (K : PySem.W.Frag) (c1 c2 : Value) (i : Nat) (ts : Addr → TS) (Wo : WX) (D : Ends) : WX := fun cls d σ H =>
  ∃ b, PySem.W.exmAny K cls [c1, c2] = some b ∧
    (b = true → ∀ a, H a = none → ts a ⟨fun τ G => D.nx (τ.set i none) G, D.rt, fun τ G => D.bk (τ.set i none) G, fun τ G => D.ct (τ.set i none) G⟩ (σ.set i (some (.ref a))) (upd H a (exK cls d a))) ∧ (b = false → Wo cls d σ H)
section
variable {X : Cx} {pins : List (Addr × Obj)} {σ : L2.St} {H : Hp} {s s' sI : Shared} {B : Heap}
theorem _root_.L2.Inv.bareSuite (I : L2.Inv X pins σ H s) (e : Addr) : L2.Inv (X.suite e (X.pn ++ pins)) [] σ H s :=
  ⟨I.ok.suite _ _, I.os, I.bare, I.base, I.loc, I.cell, I.free, I.freeC, fun p hp => I.pin p (by rw [List.append_nil] at hp; exact hp), I.hok, I.len⟩
theorem _root_.L2.Inv.offSuite {e : Addr} {pn' : List (Addr × Obj)} (I : L2.Inv (X.suite e (X.pn ++ pins)) pn' σ H s) (ok : X.Ok) : L2.Inv X pins σ H s :=
  ⟨ok, I.os, I.bare, I.base, I.loc, I.cell, I.free, I.freeC, fun p hp => I.pin p (List.mem_append_left _ hp), I.hok, I.len⟩
/-- back on the ground, and the exception is of our heap -/
theorem _root_.L2.Inv.keptNew {e : Addr} {o : HO} (I : L2.Inv X pins σ H sI) (nb : ∀ b u, sI.heap.get? b = some u → b ∉ frs X.stack → B.get? b = some u) (st : B.StaysIn s'.heap) (up : sI.heap.UpToSlots s'.heap) (os : s'.os = sI.os) (ag : AllBare s'.gens)
    (new : sI.heap.get? e = none) (ne : H e = none) (k : ObjOk X.prog X.w (upd H e o) s'.heap e o) : L2.Inv X pins σ (upd H e o) s' := by
  have frame : ∀ b ∈ frs X.stack, ∀ u, sI.heap.get? b = some u → ∃ sl, s'.heap.get? b = some { u with slots := sl } := fun b m u g => by
    obtain ⟨_, u', g', plain⟩ := I.stack.mem m
    rw [g] at g'
    cases g'
    exact up b u g plain
  have other : ∀ b u, sI.heap.get? b = some u → b ≠ e := fun b u g z => by rw [z, new] at g; cases g
  have was : HOk X.prog X.w H s'.heap := (I.inGround nb).kept st
  have J := I.call (ch := []) (h' := s'.heap) (g' := s'.gens) (t' := s'.toks) (d' := s'.drawn) (H' := upd H e o)
    ⟨fun b u g _ m _ => st b u (nb b u g m), fun b u g _ m _ => frame b m u g, fun b u g n _ => by rw [upd_ne (other b u g)]; exact n, fun b u g _ => by
      by_cases m : b ∈ frs X.stack
      · exact ⟨_, (frame b m u g).choose_spec⟩
      · exact ⟨u, st b u (nb b u g m)⟩, fun b xs q => by rw [upd_ne (ne_of_none q ne)]; exact q, fun b u xs q => by rw [upd_ne (ne_of_none q ne)]; exact q, fun b ps q => ⟨#[], by rw [upd_ne (ne_of_none q ne), q]; simp⟩⟩
    (was.laidN (fun _ _ q => q) ne k) ag (fun _ z => nomatch z)
  obtain ⟨a1, a2, a3, a4, a5⟩ := s'
  have e5 : a5 = sI.os := os
  subst e5
  exact J
end
section
variable {X : Cx}
variable {x1 x2 n : Str} {c1 c2 : Value} {i kk : Nat} {body suite : List Stmt} {b₀ : Stmt} {p1 p2 p3 pos pos' : Pos} {tb : WX → TS} {ts : Addr → TS} {Wo : WX}
theorem ps_try_keep2 (stk : X.stack = X.env :: X.outer) (fr : X.env.frame = some X.env.locals) (nod : X.N.Nodup) (at_i : X.N[i]? = some n) (lc : X.env.kindOf n = some .local) (nm1 : Names X x1 c1) (nm2 : Names X x2 c2) (out : Takes X Wo)
    (does : ∀ (W : WX) (pn : List (Addr × Obj)) (xe : Value → Shared → Prop), Takes (X.tr pn xe) W → PassesOwn (model X.prog X.w) X.A X.env xe → PSs (X.tr pn xe) body (tb W))
    (then_ : ∀ (e : Addr) (pn : List (Addr × Obj)), PSs (X.suite e pn) (b₀ :: suite) (ts e)) :
    PS X (.Try body [.ExceptHandler (some (.Tuple [.Name x1 p1, .Name x2 p2] kk p3)) (some n) (b₀ :: suite) pos'] [] [] pos) (fun D σ H => tb (wKeep2 X.K c1 c2 i ts Wo D) D σ H) := by
  refine ⟨fun pins s σ H D I rd => ?_⟩
  have okX := I.ok
  have frs0 : X.A.frames = some (X.env :: X.outer) := okX.frames.trans (congrArg some stk)
  refine wpAny_Try_except ?_
  have run := (does (wKeep2 X.K c1 c2 i ts Wo D) (X.pn ++ pins) (fun v z => wpAny (model X.prog X.w) X.A (noteFrame v X.env) (fun _ z2 => wpAny (model X.prog X.w) X.A (setFlight v none) (fun _ z3 =>
    wpAny (model X.prog X.w) X.A (handleBy v X.env [.ExceptHandler (some (.Tuple [.Name x1 p1, .Name x2 p2] kk p3)) (some n) (b₀ :: suite) pos']) (SP X pins D) X.xe z3) X.xe z2) X.xe z)
    (fun u z flown => ?caught) PassesOwn.looking).run [] s σ H D (I.toTry _) rd
  case caught =>
    obtain ⟨e, B, z0, pins', τ, G, cls, d, rfl, J0, nb, up0, sky0, ne, os0, bare0, b, hit, yes, no⟩ := flown
    have J := J0.ofTry okX
    rw [show (X.tr (X.pn ++ pins) _).stack = X.env :: X.outer from stk] at sky0
    refine Sky.land Zc.steady frs0 fr sky0 fun g fl upg => ?_
    have Jg := J.landed (s' := { z with heap := g }) nb fl.1 (up0.trans upg) os0 bare0
    obtain ⟨o3, v3, got3, z3, dat3⟩ := fl.there
    have off : ∀ {h : Heap} {o : Obj} {vs : Array Value}, h.FunFrames B (X.env :: X.outer) → h.get? e = some o → o.data = .fields vs → ¬ e ∈ frs (X.env :: X.outer) := fun {h o vs} ff ge dd m => by
      obtain ⟨_, o', ge', bad⟩ := ff.mem m
      rw [ge] at ge'
      cases ge'
      exact bad vs dd
    have none_of := off fl.2.2.1 got3 dat3
    have n1 : e ≠ X.env.locals := fun z => none_of (List.mem_filterMap.mpr ⟨X.env, List.mem_cons_self, fr.trans (congrArg some z.symm)⟩)
    have n2 : e ∉ X.fs := fun m => by
      obtain ⟨y, my, ey⟩ := List.mem_filterMap.mp m
      exact none_of (List.mem_filterMap.mpr ⟨y, List.mem_cons_of_mem _ my, ey⟩)
    have Sg := Jg.suite got3 dat3 ne n1 n2
    refine wpAny_handleBy_cons (codeAny_handlers_test ?_) (fun q => by cases q)
    refine ld_pair (X := X.suite e ((e, o3) :: (X.pn ++ pins))) nm1 nm2 Sg ?_
    have keeps : ∀ b o, g.get? b = some o → (g.push { cls := .type "tuple", data := .seq [c1, c2].toArray }).get? b = some o := fun b o q => Heap.get?_push_of_some _ q
    have fl' := flying_push { cls := .type "tuple", data := .seq [c1, c2].toArray } fl
    have upg' : z.heap.UpToSlots (g.push { cls := .type "tuple", data := .seq [c1, c2].toArray }) := upg.trans (fun b o q _ => ⟨o.slots, keeps b o q⟩)
    have looks : PySem.W.Looks (model X.prog X.w) (g.push { cls := .type "tuple", data := .seq [c1, c2].toArray }) (typeOf (.ref e)) cls := fun _ _ _ _ k q => wpAny_typeOf_ref (k _ _ (keeps _ _ got3)) (by rw [z3.1]; exact q)
    have hits := PySem.W.exm_tup2 (M := model X.prog X.w) (Jg.kIn.keeps keeps) looks (Heap.get?_push_size _ rfl) hit
    refine hits.here ?_
    generalize g.push { cls := .type "tuple", data := .seq [c1, c2].toArray } = g' at keeps fl' upg' hits ⊢
    cases b with
    | true =>
      refine codeAny_handlers_suite_as ?_
      refine HandSPX.lands_againZ fl' fun g4 fl4 up4 => ?_
      have J4 := J.landed (s' := { z with heap := g4 }) nb fl4.1 ((up0.trans upg').trans up4) os0 bare0
      obtain ⟨o4, v4, got4, z4, dat4⟩ := fl4.there
      have new0 : z0.heap.get? e = none := by
        cases q : z0.heap.get? e with
        | none => rfl
        | some o =>
          have := nb e o q (by rw [show (X.tr (X.pn ++ pins) _).stack = X.env :: X.outer from stk]; exact none_of)
          rw [fl.2.1] at this
          cases this
      have K4 := J.keptNew (s' := { z with heap := g4 }) nb fl4.1 ((up0.trans upg').trans up4) os0 bare0 new0 ne (exK_ok got4 z4 dat4)
      have S4 := K4.bareSuite e
      refine store_ok (X := X.suite e (X.pn ++ pins)) (v := .ref e) S4 nod at_i (.inl lc) rfl (fun z5 S5 => ?_) (.inr lc)
      refine wpAny_mono ((then_ e (X.pn ++ pins)).run [] z5 _ (upd G e (exK cls d e)) _ S5 (yes rfl e ne)) (fun fw z6 fin => ?_) (fun _ _ q => q.elim)
      have over : ∀ {τ6 : L2.St} {G6 : Hp} {Q : Shared → Prop}, L2.Inv (X.suite e (X.pn ++ pins)) [] τ6 G6 z6 → (∀ z7, L2.Inv X pins (τ6.set i none) G6 z7 → Q z7) → wpAny (model X.prog X.w) X.A (do bindName X.env n .none; unbindBehindTheSuite X.env n pos') (fun _ z7 => Q z7) X.xe z6 :=
        fun {τ6 G6 Q} S6 q => gone_ok (S6.offSuite okX) nod at_i lc q
      cases fw with
      | ret u =>
        obtain ⟨v6, τ6, G6, S6, r6, q6⟩ := fin
        exact over S6 fun z7 J7 => ⟨_, _, _, J7, r6, q6⟩
      | _ =>
        obtain ⟨τ6, G6, S6, q6⟩ := fin
        exact over S6 fun z7 J7 => ⟨_, _, J7, q6⟩
    | false =>
      show wpAny _ X.A (handleBy (.ref e) X.env []) _ _ _
      refine wpAny_handleBy_nil ?_
      obtain ⟨_, _, _, o5, v5, T, oT, w5, got5, _, dat5, tr5, _⟩ := id fl'
      unfold PySem.passOn
      refine wpAny_bind (wpAny_field got5 dat5 tr5 ?_)
      rw [if_neg (by simp : ¬ ((Value.ref T == Value.none) = true))]
      have flies : wpAny (model X.prog X.w) X.A (setFlight (.ref e) X.env.frame) (fun _ z4 => wpAny (model X.prog X.w) X.A (throw (.ref e) : Sem Flow) (SP X pins D) X.xe z4) X.xe { z with heap := g' } := by
        rw [fr]
        exact HandSPX.setFlight_upZ fl' fun g4 held up4 => wpAny_throw (out _ _ ⟨e, B, z0, pins, τ, G, cls, d, rfl, J, nb, (up0.trans upg').trans up4, .inr (.inr (by rw [stk]; exact held)), ne, os0, bare0, no rfl⟩)
      first
        | exact wpAny_bind (wpAny_pure (wpAny_bind flies))
        | exact wpAny_bind flies
  refine wpAny_mono run (fun fw z6 fin => ?_) (fun v z6 q => q)
  cases fw with
  | next =>
    obtain ⟨τ, G, J, q⟩ := fin
    exact wpAny_execs_nil ⟨τ, G, J.ofTry okX, q⟩
  | ret u =>
    obtain ⟨v, τ, G, J, r, q⟩ := fin
    exact ⟨v, τ, G, J.ofTry okX, r, q⟩
  | _ =>
    obtain ⟨τ, G, J, q⟩ := fin
    exact ⟨τ, G, J.ofTry okX, q⟩
end
end HSP
set_option maxHeartbeats 2000000
namespace HSP
open PySem PySem.Spec PyProof.Rows L2
/-! ### a kept exception: its fields, its class -/
/-! the class of an exception that has its dict -/
section
open PySem.W PySem.Calls
variable {prog : Program} {w : World} {A : Around} {E : Value → Shared → Prop} {z : Shared} {K : Frag} {x D : Addr} {o : Obj} {od : Option Obj}
theorem found_class (C : ExcC K D) : findObj K D od "__class__" = some (.bind (.builtin "getset_descriptor.__get__") (.builtin "object.__class__")) := by
  obtain ⟨cd, hc, _⟩ := any_some C.hd
  unfold findObj
  rw [hc, Option.bind_some, C.ha, Option.bind_some]
  dsimp only
  rw [C.hn, Option.bind_some]
  dsimp only
  rw [C.ht, Option.bind_some]
theorem asked_class {Q : Option Value → Shared → Prop} (C : ExcC K D) (I : K.In z.heap) (J : InstAt z.heap x o D od) (q : Q (some (.ref D)) { z with toks := z.toks + 1 }) : wpAny (model prog w) A (getAttr? (.ref x) "__class__") Q E z := by
  have found := found_class (od := od) C
  obtain ⟨h, gs, dr, tk, os⟩ := z
  have type := J.type (M := model prog w)
  have by1 := looks_findIn (M := model prog w) I C.hg
  have by2 := looks_findIn (M := model prog w) I C.hk
  have by3 := looks_find (M := model prog w) I J found
  have isExc : Looks (model prog w) h (isInstance (.ref x) (.type "BaseException")) true := type.andThen (looks_subIn I C.hs)
  have no1 : (Value.builtin "BaseException.__getattribute__" == Value.builtin "object.__getattribute__") = false := by decide +kernel
  have no2 : (onTheHeap (Value.ref D) && Value.builtin "BaseException.__getattribute__" == Value.builtin "object.__getattribute__") = false := by rw [no1] <;> rfl
  have no3 : (false && onTheHeap (Value.builtin "BaseException.__getattribute__")) = false := rfl
  unfold getAttr? getAttrBy? getAttrBy
  refine wpAny_bind (wpAny_mkText (wpAny_bind (wpAny_attempt (wpAny_holding (wpAny_bind (type.at (wpAny_bind (by1.at ?_))))))))
  show wpAny _ _ (if (onTheHeap (Value.ref D) && Value.builtin "BaseException.__getattribute__" == Value.builtin "object.__getattribute__") = true then _ else _) _ _ _
  rw [no2, if_neg (fun q => nomatch q)]
  unfold getAttrByItsOwn hookBefore
  refine wpAny_bind ?_
  rw [if_pos (by rfl : onTheHeap (Value.ref D) = true)]
  refine by2.at (wpAny_bind (wpAny_attempt (wpAny_holding ?_)))
  unfold callGetattribute
  rw [no3, if_neg (fun q => nomatch q)]
  unfold boundAndCalled
  rw [PySem.F.excAttr_ValueError.ga.bind (Value.ref x)]
  refine wpAny_bind (wpAny_pure (show wpAny _ _ (call (.builtin "BaseException.__getattribute__") [.ref x, .str "__class__" tk]) _ _ _ from wpAny_call (codeAny_call_builtin PySem.F.excAttr_ValueError.ga.plain PySem.F.entry_bexc_ga ?_)))
  have kind := PySem.F.args_bexc_ga (.ref x) (.str "__class__" tk)
  refine @check_slot (model prog w) _ _ ⟨h, gs, dr, tk + 1, os⟩
    "BaseException.__getattribute__" "BaseException"
    "__getattribute__" (.ref x)
    [.str "__class__" tk] [] _ (by decide +kernel) (by decide +kernel)
    isExc kind ?_
  unfold Builtin.«object.__getattribute__»
  refine wpAny_bind (wpAny_of_eq (a := ((Value.ref x : Value), [Value.str "__class__" tk])) (by first | rfl | (simp only [slotArgs]; rfl)) (wpAny_bind (wpAny_pure (wpAny_bind (type.at (wpAny_bind (by3.at ?_)))))))
  show wpAny _ _ (holding [Value.builtin "object.__class__"] (call (.builtin "getset_descriptor.__get__") [.builtin "object.__class__", .ref x, .ref D]) >>= ret) _ _ _
  refine wpAny_bind (wpAny_holding (wpAny_call (class_get (s := ⟨h, gs, dr, tk + 1, os⟩) (ox := o) (od := od) I J C.hm (wpAny_pure ?_))))
  show wpAny _ _ (handedOut (.ref D)) _ _ _
  rw [handedOut_of (v := Value.ref D) rfl]
  first
    | exact wpAny_pure (wpAny_pure q)
    | exact wpAny_pure q
    | exact wpAny_pure (wpAny_bind (wpAny_pure (wpAny_pure q)))
theorem kitK (C : ExcC K D) : KitX K (.ref x) (.ref D) (fun h => InstAt h x o D od) where
  ty := fun _ _ _ J => J.type
  it := fun _ _ I _ => by
    obtain ⟨cd, is, _⟩ := any_some C.hd
    unfold clsIn at is
    split at is
    case h_2 => cases is
    case h_1 there =>
      intro A0 Q0 E0 s0 k q
      unfold isType loadHead
      exact wpAny_bind (wpAny_loadPart (k _ _ (I _ _ there)) (wpAny_pure q))
  ne := (handS_kitx_exc (x := x) (ox := o) C.hg C.hk C.hs C.hd C.ha C.hn C.ht C.hm).ne
  ca := fun I J q => asked_class C I J q
end
section
variable {X : Cx}
/-- e.f of a kept exception of the class C -/
def tXfK (K : PySem.W.Frag) (f : Str) (te : TE) : TE := fun σ H Q => te σ H fun x G => ∃ (e C dd : Addr) (fs : List (Str × V)) (v : V), x = .ref e ∧ G e = some (exK (.ref C) (some dd) e) ∧ XfC K C ∧ PySem.W.findIn K (.ref C) f = some none ∧ G dd = some (.xd fs) ∧ fs.lookup f = some v ∧ Q v G
theorem pe_xfK {b : Expr} {te : TE} {pos : Pos} {f : Str} (hb : PE X b te) (base : attributeBase b f X.env (eval b X.env) = eval b X.env := by rfl) : PE X (.Attribute b f pos) (tXfK X.K f te) := by
  refine ⟨fun pins s σ H Q I rd => ?_⟩
  refine attr_of base (thn (hb.run pins s σ H _ I rd) fun u z got => ?_)
  obtain ⟨x, G, J, ru, e, C, dd, fs, v, rfl, here, T, free, own, has, q⟩ := got
  cases (show u = Value.ref e from ru)
  obtain ⟨o, vs, go, ⟨cl, di⟩, da⟩ := exK_at J.hok here
  obtain ⟨mA, ns, vals⟩ : ObjOk X.prog X.w G z.heap dd (.xd fs) := J.hok dd _ own
  obtain ⟨od, god, look⟩ := lookIn_ns ns
  obtain ⟨y, ey, ry⟩ := RelO.some_of (v := v) (o := mA f) (has ▸ vals f)
  have inst : PySem.W.InstAt z.heap e o C (some od) := ⟨go, cl, by unfold PySem.W.notCls; rw [da] <;> rfl, by rw [di]; exact god⟩
  exact HandSPX.exc_get J.kIn inst T.ga T.gg T.exC (PySem.W.findObj_own T.hdC free rfl ((look f).trans (congrArg some ey))) (handed_of ry) ⟨v, G, J.tok _, ry, q⟩
/-- isinstance(e, c) of a kept exception of the class D; a dict that it has is in our heap -/
def rIsK (K : PySem.W.Frag) : List V → Hp → VK → Prop := fun xs H Q => ∃ (e D : Addr) (c : V) (cv : Value) (b : Bool), xs = [.ref e, c] ∧ (∃ d, H e = some (exK (.ref D) d e) ∧ ∀ dd, d = some dd → ∃ fs, H dd = some (.xd fs)) ∧ ExcC K D ∧ (∀ u, RelV c u → u = cv) ∧ PySem.W.kitOne K (.ref D) cv = some b ∧ Q (.bl b) H
theorem call_isK : CallR X (.builtin "isinstance") (rIsK X.K) := by
  intro pins s σ H xs us Q I r rd
  obtain ⟨e, D, c, cv, b, rfl, ⟨d, here, own⟩, C, only, says, q⟩ := rd
  obtain ⟨u1, u2, rfl, r1, r2⟩ := vals2 r
  cases (show u1 = Value.ref e from r1)
  cases only _ r2
  obtain ⟨o, vs, go, ⟨cl, di⟩, da⟩ := exK_at I.hok here
  obtain ⟨od, inst⟩ : ∃ od, PySem.W.InstAt s.heap e o D od := by
    cases d with
    | none => exact ⟨none, go, cl, by unfold PySem.W.notCls; rw [da] <;> rfl, by rw [di]; trivial⟩
    | some dd =>
      obtain ⟨fs, has⟩ := own dd rfl
      obtain ⟨mA, ns, _⟩ : ObjOk X.prog X.w H s.heap dd (.xd fs) := I.hok dd _ has
      obtain ⟨od, god, _⟩ := lookIn_ns ns
      exact ⟨some od, go, cl, by unfold PySem.W.notCls; rw [da] <;> rfl, by rw [di]; exact god⟩
  exact PySem.W.kia_one (kitK C) I.kIn inst says (fun z => nomatch z) fun tk => ⟨.bl b, H, I.kept (t' := tk) fun _ _ z => z, rfl, q⟩
end
end HSP
namespace HSP
open PySem PySem.Spec PyProof.Rows L2
/-! ## a def that may raise, called by its name -/
structure DfX (P : Program) (w : World) (K : PySem.W.Frag) (mg : Str → Option Value) (base : Heap) (x : Str) (n : Nat) (ps : List Str) (sp : Sp) : Prop where
  ex : ∃ (f : Addr) (fd : FuncData), mg x = some (.ref f) ∧ PySem.W.keepIn K (.ref f) = true ∧ Binds K fd ps [] ∧ FnOk P w K mg base (L2.CX P w) n f fd ps sp
section
variable {P : Program} {w : World} {K : PySem.W.Frag} {mg : Str → Option Value} {base : Heap}
theorem DfX.mk' {x : Str} {st : Stmt} {N ps : List Str} {k : Nat} {sp : Sp} (a : At K mg x st) (S : FnScope N ps (defScope st)) (len : ∀ vs H Q E, sp vs H Q E → vs.length = ps.length)
    (hb : ∀ (kV doc pm : Value) (an : Option Addr) (cdv ct : Value) (us : List Value), us.length = ps.length → bindArgs (PySem.W.fnOf x x (defArgs st) (defBody st) (defScope st) .none kV doc pm an cdv ct) ⟨us, []⟩ = pure (ps.zip us))
    (body : ∀ (f : Addr) (cdv : Value) (A : Around) (outer : List Env) (s : Shared) (H : Hp) (vs : List V) (Q : VK) (E : XK), Room k (A.deeper (envOfC x (defScope st) s.heap.objs.size f cdv)) → sp vs H Q E →
      ∃ t, PSs (cxOf (L2.CX P w) P w K mg base N x (defScope st) f cdv A outer s H E) (defBody st) t ∧ t { nx := fun _ H' => Q .non H', rt := Q } (start N vs) H) : DfX P w K mg base x (k + 1) ps sp := by
  obtain ⟨f, fd, named, F⟩ := a
  exact ⟨f, fd, named, F.kp, F.binds hb, F.okX S len (body f)⟩
theorem DfX.mono {x : Str} {j k : Nat} {ps : List Str} {sp : Sp} (D : DfX P w K mg base x j ps sp) (h : j ≤ k) : DfX P w K mg base x k ps sp := by
  obtain ⟨f, fd, a, b, c, d⟩ := D.ex
  exact ⟨f, fd, a, b, c, d.mono h⟩
end
section
variable {X : Cx} {k : Nat} {ps : List Str} {sp : Sp} {x : Str} {p pos : Pos} {e : Expr} {es : List Expr} {t : TA} {W : WX}
theorem pe_dfX (D : DfX X.prog X.w X.K X.mg X.base x k ps sp) (hr : Room k X.A) (tk : Takes X W) (ha : PA X (e :: es) t) (hg : Gl X x := by rfl) (hdb : (x == ("__debug__" : Str)) = false := by decide)
    (he : starEach (e :: es) X.env = (false, eval e X.env) :: starEach es X.env := by rfl) (hpl : (backTo pos (starEach es X.env)).any (·.1) = false := by rfl) : PE X (.Call (.Name x p) (e :: es) [] pos) (tCallS sp (WE W) t) := by
  obtain ⟨f, fd, named, kept, binds, F⟩ := D.ex
  exact pe_callS F hr hg named kept binds (fun σ => passAt tk σ) ha hdb he hpl
end
end HSP
namespace HSP
open PySem PySem.Spec PyProof.Rows L2
/-! ### is_tree of anything -/
/-- a thing: None; a pair of things; anything else -/
inductive Th where
  | nil
  | bad
  | nod (l r : Th)
def Th.size : Th → Nat
  | .nil => 0
  | .bad => 0
  | .nod l r => l.size + 1 + r.size
def Th.good : Th → Bool
  | .nil => true
  | .bad => false
  | .nod l r => l.good && r.good
def BadV (K : PySem.W.Frag) (H : Hp) (v : V) : Prop := v ≠ .non ∧ ((∃ t, TyX K H v t ∧ PySem.W.kitOne K t (.type "tuple") = some false) ∨ ∃ a xs, v = .ref a ∧ H a = some (.tup xs) ∧ xs.length ≠ 2)
theorem TyX.same {K : PySem.W.Frag} {H H' : Hp} {v : V} {t : Value} (s : Same H H') (h : TyX K H v t) : TyX K H' v t := by
  cases h with
  | base b =>
    refine .base ?_
    cases b with
    | non => exact .non
    | bl x => exact .bl x
    | int x => exact .int x
    | str x => exact .str x
    | flt x => exact .flt x
    | lst e => exact .lst (s _ _ e)
    | frz e => exact .frz (s _ _ e)
    | tup e => exact .tup (s _ _ e)
    | dK e => exact .dK (s _ _ e)
    | dT e => exact .dT (s _ _ e)
    | ins e a b c d f => exact .ins (s _ _ e) a b c d f
  | byt b => exact .byt b
  | set e => exact .set (s _ _ e)
  | kList e c => exact .kList e c
  | kTuple e c => exact .kTuple e c
  | kDict e c => exact .kDict e c
  | fTuple e => exact .fTuple (s _ _ e)
  | fDict e => exact .fDict (s _ _ e)
inductive ThAt (K : PySem.W.Frag) (H : Hp) : V → Th → Prop
  | nil : ThAt K H .non .nil
  | bad {v : V} (b : BadV K H v) : ThAt K H v .bad
  | nod {a : Addr} {x y : V} {l r : Th} : H a = some (.tup [x, y]) → ThAt K H x l → ThAt K H y r → ThAt K H (.ref a) (.nod l r)
inductive WaitT (K : PySem.W.Frag) (H : Hp) : List V → List Th → Prop
  | nil : WaitT K H [] []
  | cons {v : V} {t : Th} {vs : List V} {ts : List Th} : ThAt K H v t → WaitT K H vs ts → WaitT K H (v :: vs) (t :: ts)
def sizesT : List Th → Nat
  | [] => 0
  | t :: r => t.size + sizesT r
def turnsT : List Th → Nat
  | [] => 0
  | t :: r => 2 * t.size + 1 + turnsT r
section
variable {P : Program} {w : World} {K : PySem.W.Frag} {mg : Str → Option Value} {base : Heap}
def spTreeX (K : PySem.W.Frag) : Sp := fun vs H Q _ => ∃ (v : V) (t : Th), vs = [v] ∧ ThAt K H v t ∧ t.size ≤ 1000 ∧ ∀ H', Same H H' → Q (.bl t.good) H'
end
end HSP
namespace HSP
open PySem PySem.Spec PyProof.Rows L2
/-- what raising a class without fields asks -/
structure Own0 (K : PySem.W.Frag) (mg : Str → Option Value) (x : Str) (C : Addr) : Prop where
  g : mg x = some (.ref C)
  q : PySem.W.excIn K C [.type "ValueError", .type "Exception", .type "BaseException", .type "object"] "ValueError.__new__" = true
  k : PySem.W.keepIn K (.ref C) = true
  b : PySem.W.subIn K (.ref C) (.type "BaseException") = some true
  t : PySem.W.typeIn K (.ref C) = some (.type "type")
section
variable {P : Program} {w : World} {K : PySem.W.Frag} {mg : Str → Option Value} {base : Heap}
/-! ### check_tree, of anything -/
def spChkTX (sp : Sp) (C : Addr) : Sp := fun vs H Q E => sp vs H (fun v H' => (v = .bl true ∧ Q .non H') ∨ (v = .bl false ∧ E (.ref C) none H')) (fun _ _ _ => False)
end
end HSP
namespace HSP
open PySem PySem.Spec PyProof.Rows L2
/-! ### InvalidValues(node) -/
def clsBody : Stmt → List Stmt
  | .ClassDef (body := b) .. => b
  | _ => []
abbrev s_ivInit : Stmt := (clsBody (topS 1)).getD 0 (.Pass ⟨0, 0, 0, 0⟩)
abbrev n_ivInit : List Str := ["self", "node"]
section
variable {P : Program} {w : World} {K : PySem.W.Frag} {mg : Str → Option Value} {base : Heap}
theorem sc_ivInit : FnScope n_ivInit ["self", "node"] (defScope s_ivInit) := ⟨rfl, rfl, rfl, by decide +kernel, rfl, by decide +kernel, by decide +kernel⟩
def spIvInit (K : PySem.W.Frag) : Sp := fun vs H Q _ => ∃ (a C : Addr) (v : V), vs = [.ref a, v] ∧ OexC K C ∧ PySem.W.findIn K (.ref C) "node" = some none ∧ H a = some (exo a C none) ∧ ∀ dx, H dx = none → dx ≠ a → Q .non (upd (upd H dx (exd dx [("node", v)])) a (exo a C (some dx)))
theorem ok_ivInit {f : Addr} {fd : FuncData} (hv : mg "ValueError" = none) (vV : PySem.W.findCls K (.type "ValueError") (.type "type") "__init__" = some (.val (.builtin "ValueError.__init__"))) (F : Fun K "__init__" "InvalidValues.__init__" s_ivInit f fd) : FnOk P w K mg base CX0 1 f fd ["self", "node"] (spIvInit K) := by
  refine F.ok sc_ivInit (fun vs H Q E h => ?_) (fun cdv A outer s H vs Q E hr h => ?_)
  · obtain ⟨a, C, v, rfl, _⟩ := h
    rfl
  obtain ⟨a, C, v, rfl, T, no, e, q⟩ := h
  refine ⟨_, pss_cons (ps_expr (pe_veinit (by rfl) hv vV (pa_cons (pv 0) (pa_cons pe_str pa_nil)))) (pss_one (ps_ost (pv 0) (pv 1))), ?_⟩
  refine ⟨_, rfl, a, C, _, rfl, (by show 1 ≤ 1000; decide), T, e, ?_⟩
  exact ⟨_, rfl, _, rfl, a, C, rfl, T, no, .inl ⟨e, q⟩⟩
end
end HSP
namespace HSP
open PySem PySem.Spec PyProof.Rows L2
/-! ### check_row of anything -/
section
variable {P : Program} {w : World} {K : PySem.W.Frag} {mg : Str → Option Value} {base : Heap}
/-- whether a thing is a whole number -/
def WholeV (K : PySem.W.Frag) (H : Hp) (x : V) (b : Bool) : Prop := ∃ (t : Value) (b1 b2 : Bool), TyX K H x t ∧ PySem.W.kitOne K t (.type "int") = some b1 ∧ PySem.W.kitOne K t (.type "bool") = some b2 ∧ b = (b1 && !b2)
def spWholeX (K : PySem.W.Frag) : Sp := fun vs H Q _ => ∃ (x : V) (b : Bool), vs = [x] ∧ WholeV K H x b ∧ Q (.bl b) H
theorem sc_wholeX : FnScope n_is_whole ["thing"] (defScope s_is_whole) := ⟨rfl, rfl, rfl, by decide +kernel, rfl, by decide +kernel, by decide +kernel⟩
theorem ok_wholeX (B : Bl mg) (a : At K mg "is_whole" s_is_whole) : Df P w K mg base "is_whole" 1 ["thing"] (spWholeX K) := by
  refine Df.mk' a sc_wholeX (fun vs H Q E h => ?_) (fun _ _ _ _ _ _ us hl => match us, hl with | [_], _ => rfl) (fun f cdv A outer s H vs Q E hr h => ?_)
  · obtain ⟨x, b, rfl, _⟩ := h
    rfl
  obtain ⟨x, b, rfl, ⟨t, b1, b2, ty, k1, k2, rfl⟩, q⟩ := h
  refine ⟨_, (pss_one (ps_ret (pe_and (pe_callB call_isi (by rfl) B.isinstance (by decide +kernel) (pa_cons (pv 0) (pa_cons (pe_bltn (v := .ty "int") (by rfl) B.int (by decide +kernel) rfl) pa_nil))) (pe_one (pe_not (pe_callB call_isi (by rfl) B.isinstance (by decide +kernel) (pa_cons (pv 0) (pa_cons (pe_bltn (v := .ty "bool") (by rfl) B.bool (by decide +kernel) rfl) pa_nil)))))))), ?_⟩
  refine ⟨_, rfl, _, _, _, _, b1, rfl, .ty "int", ty, k1, ?_⟩
  cases b1 with
  | false => exact ⟨false, rfl, iteF q⟩
  | true =>
    refine ⟨true, rfl, iteT ?_⟩
    refine ⟨_, rfl, _, _, _, _, b2, rfl, .ty "bool", ty, k2, b2, rfl, ?_⟩
    exact q
theorem WholeV.same {H H' : Hp} {x : V} {b : Bool} (s : Same H H') (h : WholeV K H x b) : WholeV K H' x b := by
  obtain ⟨t, b1, b2, ty, k⟩ := h
  exact ⟨t, b1, b2, TyX.same s ty, k⟩
/-- what raising InvalidValues asks -/
structure Own1 (K : PySem.W.Frag) (mg : Str → Option Value) (C fI : Addr) (fd : FuncData) : Prop where
  g : mg "InvalidValues" = some (.ref C)
  T : OexC K C
  i : PySem.W.findIn K (.ref C) "__init__" = some (some (.ref fI))
  t : PySem.W.typeIn K (.ref fI) = some (.type "function")
  no : PySem.W.findIn K (.ref C) "node" = some none
  F : Fun K "__init__" "InvalidValues.__init__" s_ivInit fI fd
  b : Binds K fd ["self", "node"] []
  v : mg "ValueError" = none
  vV : PySem.W.findCls K (.type "ValueError") (.type "type") "__init__" = some (.val (.builtin "ValueError.__init__"))
def EN (C : Addr) (E : XK) (H : Hp) (v : V) : Prop := ∀ (H' : Hp) (dd : Addr), Same H H' → H' dd = some (.xd [("node", v)]) → E (.ref C) (some dd) H'
theorem EN.same {C : Addr} {E : XK} {H H1 : Hp} {v : V} (s : Same H H1) (h : EN C E H v) : EN C E H1 v := fun H' dd s' e => h H' dd (s.trans s') e
theorem mk_iv {C : Addr} (T : OexC K C) (no : PySem.W.findIn K (.ref C) "node" = some none) {E : XK} {H : Hp} {v : V} (h : ∀ (H' : Hp) (dd : Addr), Same H H' → H' dd = some (.xd [("node", v)]) → E (.ref C) (some dd) H') :
    [v].length ≤ 1000 ∧ ∀ a, H a = none → spIvInit K (.ref a :: ([v] ++ [])) (upd H a (exo a C none)) (fun x H2 => x = .non ∧ ∃ (d : Addr) (fs : List (Str × V)), H2 a = some (exo a C (some d)) ∧ H2 d = some (exd d fs) ∧ H d = none ∧ E (.ref C) (some d) (upd (del H2 a) d (.xd fs))) (fun _ _ _ => False) := by
  refine ⟨(by show 1 ≤ 1000; decide), fun a na => ⟨a, C, v, rfl, T, no, upd_same, fun dx nd ne => ?_⟩⟩
  rw [upd_ne ne] at nd
  refine ⟨rfl, dx, [("node", v)], upd_same, (upd_ne ne).trans upd_same, nd, h _ dx (fun b o e => ?_) upd_same⟩
  have b1 : b ≠ dx := fun z => by rw [z, nd] at e; cases e
  have b2 : b ≠ a := fun z => by rw [z, na] at e; cases e
  rw [upd_ne b1, del_ne b2, upd_ne b2, upd_ne b1, upd_ne b2]
  exact e
/-- what check_row finds -/
def RowX (K : PySem.W.Frag) (C2 : Addr) (y : V) (H : Hp) (Q : VK) (E : XK) : Prop :=
  (∃ t, TyX K H y t ∧ PySem.W.kitOne K t (.type "list") = some false ∧ EN C2 E H .non) ∨
    ∃ (a : Addr) (xs : List V) (n : Nat), y = .ref a ∧ H a = some (.lst xs) ∧ (∀ i x, i < n → xs[i]? = some x → WholeV K H x true) ∧
      ((n = xs.length ∧ ∀ H', Same H H' → Q .non H') ∨ ∃ x, xs[n]? = some x ∧ WholeV K H x false ∧ EN C2 E H (natV n))
def spChkRX (K : PySem.W.Frag) (C2 : Addr) : Sp := fun vs H Q E => ∃ y, vs = [y] ∧ RowX K C2 y H Q E
theorem RowX.same {C2 : Addr} {y : V} {H H1 : Hp} {Q : VK} {E : XK} (s : Same H H1) (h : RowX K C2 y H Q E) : RowX K C2 y H1 Q E := by
  rcases h with ⟨t, ty, k, e⟩ | ⟨a, xs, n, ey, ha, wh, q⟩
  · exact .inl ⟨t, TyX.same s ty, k, e.same s⟩
  · refine .inr ⟨a, xs, n, ey, s _ _ ha, fun i x h1 h2 => (wh i x h1 h2).same s, ?_⟩
    rcases q with ⟨e, q⟩ | ⟨x, ex, wx, q⟩
    · exact .inl ⟨e, fun H' s' => q H' (s.trans s')⟩
    · exact .inr ⟨x, ex, wx.same s, q.same s⟩
theorem RowX.mono {C2 : Addr} {y : V} {H : Hp} {Q Q' : VK} {E E' : XK} (hQ : ∀ v H', Q v H' → Q' v H') (hE : ∀ c d H', E c d H' → E' c d H') (h : RowX K C2 y H Q E) : RowX K C2 y H Q' E' := by
  rcases h with ⟨t, ty, k, e⟩ | ⟨a, xs, n, ey, ha, wh, q⟩
  · exact .inl ⟨t, ty, k, fun H' dd s e' => hE _ _ _ (e H' dd s e')⟩
  · refine .inr ⟨a, xs, n, ey, ha, wh, ?_⟩
    rcases q with ⟨e, q⟩ | ⟨x, ex, wx, q⟩
    · exact .inl ⟨e, fun H' s => hQ _ _ (q H' s)⟩
    · exact .inr ⟨x, ex, wx, fun H' dd s e' => hE _ _ _ (q H' dd s e')⟩
theorem sc_chkRX : FnScope n_check_row ["row"] (defScope s_check_row) := ⟨rfl, rfl, rfl, by decide +kernel, rfl, by decide +kernel, by decide +kernel⟩
theorem ok_chkRX {C2 fI : Addr} {fd : FuncData} (B : Bl mg) (O : Own1 K mg C2 fI fd) (Wh : Df P w K mg base "is_whole" 1 ["thing"] (spWholeX K)) (a : At K mg "check_row" s_check_row) : DfX P w K mg base "check_row" 3 ["row"] (spChkRX K C2) := by
  refine DfX.mk' a sc_chkRX (fun vs H Q E h => ?_) (fun _ _ _ _ _ _ us hl => match us, hl with | [_], _ => rfl) (fun f cdv A outer s H vs Q E hr h => ?_)
  · obtain ⟨y, rfl, _⟩ := h
    rfl
  obtain ⟨y, rfl, h⟩ := h
  refine ⟨_, (pss_cons (ps_if (pt_not (pt_val (pe_callB call_isi (by rfl) B.isinstance (by decide +kernel) (pa_cons (pv 0) (pa_cons (pe_bltn (v := .ty "list") (by rfl) B.list (by decide +kernel) rfl) pa_nil))))) (pss_one (ps_raise rfl (takes_of rfl rfl rfl rfl) (pmk_oex O.T O.i O.t (ok_ivInit O.v O.vV O.F) hr O.b .nil pass0 rfl O.g (pa_cons pe_non pa_nil)))) pss_nil)
 (pss_one (ps_for (passes_of rfl) rfl (pi_enum (by rfl) B.enumerate (pa_cons (pv 0) pa_nil)) (pg_tup rfl (pgs_cons (pg_name (i := 1) sc_chkRX.nd rfl (.inl rfl)) (pgs_cons (pg_name (i := 2) sc_chkRX.nd rfl (.inl rfl)) pgs_nil))) (pss_one (ps_if (pt_not (pt_val (pe_df Wh (hr.mono (by decide)) (pa_cons (pv 2) pa_nil)))) (pss_one (ps_raise rfl (takes_of rfl rfl rfl rfl) (pmk_oex O.T O.i O.t (ok_ivInit O.v O.vV O.F) hr O.b .nil pass0 rfl O.g (pa_cons (pv 1) pa_nil)))) pss_nil))))), ?_⟩
  rcases h with ⟨t, ty, k, q⟩ | ⟨a, xs, n, rfl, ha, wh, h⟩
  · refine ⟨_, rfl, _, _, _, _, false, rfl, .ty "list", ty, k, false, rfl, iteT ?_⟩
    exact mk_iv O.T O.no fun H' dd s e => q _ _ s e
  · refine ⟨_, rfl, _, _, _, _, true, rfl, .ty "list", .base (.lst ha), rfl, true, rfl, iteF ?_⟩
    refine ⟨.ref a, rfl, a, xs, rfl, .of ha, ?_⟩
    refine for_it (walk_enum (K := K) (a := a) (xs := xs)) (fun i σ H3 => Same H H3 ∧ i ≤ n ∧ ∃ y2 y3, σ = [some (.ref a), y2, y3]) ⟨Same.refl _, Nat.zero_le n, none, none, rfl⟩ (fun i σ H3 _ h3 => .of (h3.1 _ _ ha)) (fun i x σ H3 H4 hi h3 hy => ?_) (fun σ H3 h3 => ?_)
    · obtain ⟨s3, le, y2, y3, rfl⟩ := h3
      obtain ⟨p, x1, x2, rfl, np, rfl, ex1, ex2⟩ := hy
      cases (show some (V.int ((i : Nat) : Int)) = some x1 from ex1)
      have sT := Same.new (o := .tup [V.int ((i : Nat) : Int), x2]) np
      have s4 := s3.trans sT
      refine ⟨p, _, rfl, .of upd_same, rfl, _, _, rfl, _, [], rfl, rfl, ?_⟩
      by_cases c : i < n
      · refine ⟨_, rfl, x2, true, rfl, WholeV.same s4 (wh i x2 c ex2), true, rfl, iteF ?_⟩
        exact ⟨s4, by omega, _, _, rfl⟩
      · have e : i = n := by omega
        subst e
        rcases h with ⟨z, _⟩ | ⟨x, ex, wx, q⟩
        · omega
        · cases ex.symm.trans ex2
          refine ⟨_, rfl, _, false, rfl, WholeV.same s4 wx, false, rfl, iteT ?_⟩
          exact ⟨_, rfl, mk_iv O.T O.no fun H' dd s e => q _ _ (s4.trans s) e⟩
    · obtain ⟨s3, le, y2, y3, rfl⟩ := h3
      rcases h with ⟨_, q⟩ | ⟨x, ex, _⟩
      · exact q _ s3
      · have := (List.getElem?_eq_some_iff.mp ex).1
        omega
end
end HSP
namespace HSP
open PySem PySem.Spec PyProof.Rows L2
/-! ### check_values of anything -/
theorem ThAt.tree {K : PySem.W.Frag} {H : Hp} : ∀ {v : V} {t : Th}, ThAt K H v t → t.good = true → ∃ u : Tr, TrAt H v u ∧ u.size = t.size
  | _, _, .nil, _ => ⟨.nil, .nil, rfl⟩
  | _, _, .nod e h1 h2, g => by
    obtain ⟨g1, g2⟩ := Bool.and_eq_true_iff.mp g
    obtain ⟨u1, k1, z1⟩ := h1.tree g1
    obtain ⟨u2, k2, z2⟩ := h2.tree g2
    exact ⟨.nod u1 u2, .nod e k1 k2, by show u1.size + 1 + u2.size = _; rw [z1, z2]; rfl⟩
theorem ThAt.same {K : PySem.W.Frag} {H H' : Hp} (s : Same H H') : ∀ {v : V} {t : Th}, ThAt K H v t → ThAt K H' v t
  | _, _, .nil => .nil
  | _, _, .bad ⟨n, b⟩ => .bad ⟨n, b.elim (fun ⟨t, k, q⟩ => .inl ⟨t, TyX.same s k, q⟩) (fun ⟨a, xs, e, h, l⟩ => .inr ⟨a, xs, e, s _ _ h, l⟩)⟩
  | _, _, .nod e h1 h2 => .nod (s _ _ e) (h1.same s) (h2.same s)
section
variable {P : Program} {w : World} {K : PySem.W.Frag} {mg : Str → Option Value} {base : Heap}
def NotVals (K : PySem.W.Frag) (H : Hp) (y : V) (n : Nat) : Prop := (∃ t, TyX K H y t ∧ PySem.W.kitOne K t (.type "list") = some false) ∨ ∃ a xs, y = .ref a ∧ H a = some (.lst xs) ∧ xs.length ≠ n
def spChkVX (K : PySem.W.Frag) (C1 C2 : Addr) : Sp := fun vs H Q E => ∃ (v y : V) (t : Th), vs = [v, y] ∧ ThAt K H v t ∧ t.size ≤ 1000 ∧
  ((t.good = false ∧ ∀ H', Same H H' → E (.ref C1) none H') ∨ (t.good = true ∧ NotVals K H y t.size ∧ EN C2 E H .non) ∨
    (t.good = true ∧ ∃ (a : Addr) (xs : List V) (n : Nat), y = .ref a ∧ H a = some (.lst xs) ∧ xs.length = t.size ∧ (∀ i x, i < n → xs[i]? = some x → WholeV K H x true) ∧
      ((n = xs.length ∧ ∀ H', Same H H' → Q .non H') ∨ ∃ x, xs[n]? = some x ∧ WholeV K H x false ∧ EN C2 E H (natV n))))
end
end HSP
namespace HSP
open PySem PySem.Spec PyProof.Rows L2
/-- a promise that more wishes keep -/
def Mono (sp : Sp) : Prop := ∀ vs H Q Q' E E', (∀ v H', Q v H' → Q' v H') → (∀ c d H', E c d H' → E' c d H') → sp vs H Q E → sp vs H Q' E'
theorem mono_tree (K : PySem.W.Frag) : Mono (spTreeX K) := fun _ _ _ _ _ _ hQ _ ⟨v, t, e, h, z, q⟩ => ⟨v, t, e, h, z, fun H' s => hQ _ _ (q H' s)⟩
theorem mono_chkT {sp : Sp} (C : Addr) (m : Mono sp) : Mono (spChkTX sp C) := fun vs H Q Q' E E' hQ hE h => m _ _ _ _ _ _ (fun _ _ q => q.elim (fun x => .inl ⟨x.1, hQ _ _ x.2⟩) (fun x => .inr ⟨x.1, hE _ _ _ x.2⟩)) (fun _ _ _ z => z) h
theorem mono_chkV (K : PySem.W.Frag) (C1 C2 : Addr) : Mono (spChkVX K C1 C2) := fun vs H Q Q' E E' hQ hE ⟨v, y, t, e, h, z, w⟩ => by
  refine ⟨v, y, t, e, h, z, ?_⟩
  rcases w with ⟨g, q⟩ | ⟨g, nv, q⟩ | ⟨g, a, xs, n, ey, ha, hl, wh, q⟩
  · exact .inl ⟨g, fun H' s => hE _ _ _ (q H' s)⟩
  · exact .inr (.inl ⟨g, nv, fun H' dd s e => hE _ _ _ (q H' dd s e)⟩)
  · refine .inr (.inr ⟨g, a, xs, n, ey, ha, hl, wh, ?_⟩)
    rcases q with ⟨e, q⟩ | ⟨x, ex, wx, q⟩
    · exact .inl ⟨e, fun H' s => hQ _ _ (q H' s)⟩
    · exact .inr ⟨x, ex, wx, fun H' dd s e => hE _ _ _ (q H' dd s e)⟩
section
variable {P : Program} {w : World} {K : PySem.W.Frag} {mg : Str → Option Value} {base : Heap}
/-! ### check_both -/
def spBothX (sp : Sp) : Sp := fun vs H Q E => ∃ v y z : V, vs = [v, y, z] ∧ sp [v, y] H (fun _ H1 => sp [v, z] H1 (fun _ H2 => Q .non H2) E) E
theorem Mono.both {sp : Sp} (m : Mono sp) : Mono (spBothX sp) := fun vs H Q Q' E E' hQ hE ⟨v, y, z, e, h⟩ =>
  ⟨v, y, z, e, m _ _ _ _ _ _ (fun _ H1 q => m _ _ _ _ _ _ (fun _ H2 q2 => hQ _ _ q2) hE q) hE h⟩
end
end HSP
namespace HSP
open PySem PySem.Spec PyProof.Rows L2
/-! ## defs that may show an object: nothing is being shown around them -/
structure FnG (P : Program) (w : World) (K : PySem.W.Frag) (mg : Str → Option Value) (base : Heap) (CX : CXT) (k : Nat) (f : Addr) (fd : FuncData) (ps : List Str) (sp : Sp) : Prop where
  len : ∀ vs H Q E, sp vs H Q E → vs.length = ps.length
  run : ∀ (A : Around) (outer : List Env) (s : Shared) (H : Hp) (args : Args) (us : List Value) (vs : List V) (Q : VK) (E : XK), A.guards = some [] → Room k A → Env0 P w K mg base A outer s H → BindsTo s fd args (ps.zip us) → Vals vs us → sp vs H Q E →
    codeAny (model P w) A (.call (.ref f) args) (CR CX outer P w H s Q E) s
section
variable {P : Program} {w : World} {K : PySem.W.Frag} {mg : Str → Option Value} {base : Heap}
theorem FnG.of {CX : CXT} {k : Nat} {f : Addr} {fd : FuncData} {ps : List Str} {sp : Sp} (F : FnOk P w K mg base CX k f fd ps sp) : FnG P w K mg base CX k f fd ps sp :=
  ⟨F.len, fun A outer s H args us vs Q E _ hr e hb hv hs => F.run A outer s H args us vs Q E hr e hb hv hs⟩
theorem FnG.mk' {CX : CXT} {x qual : Str} {st : Stmt} {f : Addr} {fd : FuncData} {N ps : List Str} {k : Nat} {sp : Sp} (F : Fun K x qual st f fd) (S : FnScope N ps (defScope st)) (len : ∀ vs H Q E, sp vs H Q E → vs.length = ps.length)
    (body : ∀ (cdv : Value) (A : Around) (outer : List Env) (s : Shared) (H : Hp) (vs : List V) (Q : VK) (E : XK), A.guards = some [] → Room k (A.deeper (envOfC qual (defScope st) s.heap.objs.size f cdv)) → sp vs H Q E →
      ∃ t, PSs (cxOf CX P w K mg base N qual (defScope st) f cdv A outer s H E) (defBody st) t ∧ t { nx := fun _ H' => Q .non H', rt := Q } (start N vs) H) : FnG P w K mg base CX (k + 1) f fd ps sp := by
  obtain ⟨oc, od, kV, doc, pm, an, cdv, ct, osl, e1, lk, hcd⟩ := F.ex
  subst e1
  refine ⟨len, fun A outer s H args us vs Q E hg hr e0 hb rv hs => ?_⟩
  have kin : K.In s.heap := e0.mod.kin.keeps fun b o e => (e0.bs b o e).1
  have nol : s.heap.NoLimit := e0.mod.nolimit.keeps fun b o e => (e0.bs b o e).1
  have kinds : ∀ y ∈ ps.zip us, (defScope st).names.lookup y.1 = some .local ∨ ((defScope st).names.lookup y.1 = some .cell ∧ ((cellsFrom (s.heap.objs.size + 1) (defScope st).names []).lookup y.1).isSome = true) := by
    intro y hy
    refine (S.par y.1 (List.of_mem_zip (a := y.1) (b := y.2) hy).1).imp id fun c => ⟨c, PySem.W.cellsFrom_some _ _ _ (.inl c)⟩
  refine codeAny_call_function hr.depth (kin _ _ lk) rfl S.co S.gen rfl (PySem.W.codeRec_of kin hcd) (hb _ _ _ _ (wpAny_newFunctionEnv_cells S.kind kinds fun env he s1 x => ?_))
  subst he
  obtain ⟨t, ht, hq⟩ := body cdv A outer s H vs Q E hg (hr.deeper _) hs
  have I := inv_start (CX := CX) (E := E) S hr.hd e0 (len _ _ _ _ hs) rv x
  refine ⟨nol.keeps x.toInCall.keep, codeAny_func (wpAny_mono (ht.run [] s1 (start N vs) H _ I hq) (fun fl s' q => ?_) fun _ _ q => q)⟩
  match fl, q with
  | .ret u, ⟨v, σ', H', J, r, q⟩ => exact ⟨v, H', J.os, J.bare, J.base, J.hok, r, q⟩
  | .next, ⟨σ', H', J, q⟩ => exact ⟨.non, H', J.os, J.bare, J.base, J.hok, rfl, q⟩
  | .brk, ⟨_, _, _, q⟩ => exact q.elim
  | .cont, ⟨_, _, _, q⟩ => exact q.elim
end
end HSP
namespace HSP
open PySem PySem.Spec PyProof.Rows L2
theorem deeper_guards (A : Around) (env : Env) : (A.deeper env).guards = A.guards := rfl
/-! ### calls of such defs -/
structure DfG (P : Program) (w : World) (K : PySem.W.Frag) (mg : Str → Option Value) (base : Heap) (x : Str) (n : Nat) (ps : List Str) (sp : Sp) : Prop where
  ex : ∃ (f : Addr) (fd : FuncData), mg x = some (.ref f) ∧ PySem.W.keepIn K (.ref f) = true ∧ Binds K fd ps [] ∧ FnG P w K mg base CX0 n f fd ps sp
section
variable {P : Program} {w : World} {K : PySem.W.Frag} {mg : Str → Option Value} {base : Heap}
theorem DfG.mk' {x : Str} {st : Stmt} {N ps : List Str} {k : Nat} {sp : Sp} (a : At K mg x st) (S : FnScope N ps (defScope st)) (len : ∀ vs H Q E, sp vs H Q E → vs.length = ps.length)
    (hb : ∀ (kV doc pm : Value) (an : Option Addr) (cdv ct : Value) (us : List Value), us.length = ps.length → bindArgs (PySem.W.fnOf x x (defArgs st) (defBody st) (defScope st) .none kV doc pm an cdv ct) ⟨us, []⟩ = pure (ps.zip us))
    (body : ∀ (f : Addr) (cdv : Value) (A : Around) (outer : List Env) (s : Shared) (H : Hp) (vs : List V) (Q : VK) (E : XK), A.guards = some [] → Room k (A.deeper (envOfC x (defScope st) s.heap.objs.size f cdv)) → sp vs H Q E →
      ∃ t, PSs (cxOf CX0 P w K mg base N x (defScope st) f cdv A outer s H E).nox (defBody st) t ∧ t { nx := fun _ H' => Q .non H', rt := Q } (start N vs) H) : DfG P w K mg base x (k + 1) ps sp := by
  obtain ⟨f, fd, hm, F⟩ := a
  refine ⟨f, fd, hm, F.kp, F.binds hb, FnG.mk' F S len fun cdv A outer s H vs Q E hg hr hs => ?_⟩
  obtain ⟨t, h1, h2⟩ := body f cdv A outer s H vs Q E hg hr hs
  exact ⟨t, h1.nox, h2⟩
end
section
variable {X : Cx} {k n : Nat} {ps ks : List Str} {sp : Sp} {x : Str} {p pos : Pos} {e : Expr} {es : List Expr} {kws : List Keyword} {t tk : TA} {f : Addr} {fd : FuncData} {ds : List Value} {dvs : List V} {g : List Value → List Value → List Value} {gV : List V → List V → List V}
theorem pe_dfG (D : DfG X.prog X.w X.K X.mg X.base x k ps sp) (hgd : X.A.guards = some []) (hr : Room k X.A) (ha : PA X (e :: es) t) (hg : Gl X x := by rfl) (hdb : (x == ("__debug__" : Str)) = false := by decide)
    (he : starEach (e :: es) X.env = (false, eval e X.env) :: starEach es X.env := by rfl) (hpl : (backTo pos (starEach es X.env)).any (·.1) = false := by rfl) : PE X (.Call (.Name x p) (e :: es) [] pos) (tCall sp [] E0 t) := by
  obtain ⟨f, fd, hm, hk, hb, F⟩ := D.ex
  refine ⟨fun pins s σ H Q I h => wpAny_Call_Name_kw (ld_glob I hg hm ?_ hdb)⟩
  refine PySem.W.callWith_K (h₀ := X.base) I.ok.mod.kin hk (thn (ha.run pos pins s σ H _ I h) fun us s1 z => ?_) he hpl
  obtain ⟨vs, H1, I1, r, q⟩ := z
  refine ⟨I1.kIn, ?_⟩
  have q' : sp vs H1 Q E0 := by
    have z : sp (vs ++ []) H1 Q E0 := q
    rw [List.append_nil] at z
    exact z
  have l1 : (us ++ []).length = ps.length := by rw [List.append_nil, ← r.length]; exact F.len _ _ _ _ q'
  have hb' := hb s1 us I1.kIn l1
  rw [List.append_nil] at hb'
  refine wpAny_call (codeAny_mono (F.run X.A X.stack s1 H1 ⟨us, []⟩ us vs Q E0 hgd hr I1.env0 hb' r q') fun res s' hq => ?_)
  match res, hq with
  | .error _, hq => exact (show False from hq).elim
  | .ok (.ret u), hq => exact I1.after hq
/-- f(k = v, ..): keywords alone -/
theorem pe_callK0 {CX : CXT} {E : XK} (F : FnOk X.prog X.w X.K X.mg X.base CX k f fd ps sp) (hr : Room k X.A) (hg : Gl X x) (hm : X.mg x = some (.ref f)) (hk : PySem.W.keepIn X.K (.ref f) = true) (hb : KBn X.K fd ps 0 ks g gV) (hx : Passes CX X E) (hkw : PK X kws tk)
    (hall : (backToKw pos (keywordEach kws X.env)).all (·.1.isSome) = true := by rfl) (hks : (backToKw pos (keywordEach kws X.env)).filterMap (·.1) = ks := by rfl) (hdb : (x == ("__debug__" : Str)) = false := by decide)
    (hpl : (backToKw pos (keywordEach kws X.env)).any (·.1.isNone) = false := by rfl) : PE X (.Call (.Name x p) [] kws pos) (tCallN 0 ks.length sp gV E tNil tk) := by
  refine ⟨fun pins s σ H Q I h => wpAny_Call_Name_kw (ld_glob I hg hm ?_ hdb)⟩
  refine PySem.W.callWith_KW0 (h₀ := X.base) I.ok.mod.kin hk hall (thn (hkw.run pos pins s σ H _ I h) fun ws s1 z => ?_) hpl
  obtain ⟨zs, H1, I1, rz, l1, l2, q⟩ := z
  rw [hks]
  exact ⟨I1.kIn, run_fnN (us := []) F hr hb hx I1 .nil rz l1 l2 q⟩
/-! ### repr of data -/
def rReprD (K : PySem.W.Frag) : List V → Hp → VK → Prop := fun vs H Q => ∃ (a : Addr) (d : PyData), vs = [.ref a] ∧ Dp K H (.ref a) d ∧ d.showable = true ∧ d.hasDict = false ∧ d.depth ≤ 60 ∧ d.shown.length ≤ sizeLine ∧ Q (.str d.shown) H
theorem cr_reprD (hgd : X.A.guards = some []) (hu : X.A.units + 64 < cLine) : CallR X (.builtin "repr") (rReprD X.K) := by
  intro pins s σ H vs us Q I r h
  obtain ⟨a, d, rfl, hd, hs, hn, h60, hz, q⟩ := h
  rw [Vals.ref1 r]
  obtain ⟨as, rd⟩ := Dp.reads I d (.ref a) (.ref a) hd rfl
  exact repr_of_reads' rd hs (fun z => by rw [hn] at z; cases z) hgd (by omega) (fun _ _ e => e) (fun h' u tk kp => ⟨.str _, H, I.kept kp, ⟨u, rfl⟩, q⟩) hz
end
end HSP
namespace HSP
open PySem PySem.Spec PyProof.Rows L2
/-! ## the law's call, where nothing is being shown -/
section
variable {P : Program} {w : World} {K : PySem.W.Frag} {mg mb : Str → Option Value} {k : Nat} {fa a : Addr} {fd : FuncData} {x : Str} {sp : Sp} {s1 : Shared} {vs : List Value} {ns : List Int}
/-- from an abstract heap that tracks nothing but, perhaps, the script -/
theorem callG_core (kin : K.In s1.heap) (hns : s1.heap.Ns mainGlobals mg) (hb : s1.heap.Ns builtinsNs mb) (hbb : ∀ x : Str, x ≠ "__name__" → mb x = bootBuiltins x) (hlim : s1.heap.NoLimit) (hg : s1.gens = #[])
    (ha : s1.heap.get? a = some { cls := .type "list", data := .seq vs.toArray }) (hr : Room k callerA) (F : ∀ base : Heap, K.In base → base.Ns mainGlobals mg → FnG P w K mg base CX0 k fa fd [x] sp)
    (hbind : ∀ (s : Shared) (u : Value), BindsTo s fd ⟨[u], []⟩ [(x, u)]) (H : Hp) (hO : Only H) (hsp : sp [.ref a] H (fun v _ => v = .bl true) fun _ _ _ => False) (hok : HOk P w H s1.heap) (hA : ∀ b o, H b = some o → b = a) (hK : ∀ o, H a = some o → K.lookup a = none) :
    codeAny (model P w) callerA (.call (.ref fa) ⟨[.ref a], []⟩) (fun r s' => r = .ok (.ret (.bool true)) ∧ OldK s1.heap s'.heap ∧ s'.os = s1.os ∧ AllBare s'.gens) s1 := by
  -- no dict is tracked
  have free : ∀ {b : Addr} {o : Obj} {es : Array DictEntry} {ep : Nat}, s1.heap.get? b = some o → o.data = .dict es ep → H b = none := by
    intro b o es ep e d
    match q : H b with
    | none => rfl
    | some u =>
      rw [hA b u q, ha] at e
      cases e
      cases d
  have nsB : ∀ {b : Addr} {m : Str → Option Value}, s1.heap.Ns b m → (hidT s1.heap H).Ns b m := by
    intro b m h
    obtain ⟨o, es, ep, e, d, r⟩ := h
    exact ⟨o, es, ep, hidT_get e (free e d), d, r⟩
  have kinB : K.In (hidT s1.heap H) := by
    intro b o e
    refine hidT_get (kin b o e) ?_
    match q : H b with
    | none => rfl
    | some u =>
      have eb := hA b u q
      rw [eb] at e q
      rw [hK u q] at e
      cases e
  have md : Mod K mg (hidT s1.heap H) := by
    obtain ⟨mc, c1, c2⟩ := hlim
    exact ⟨kinB, nsB hns, ⟨mb, nsB hb, hbb⟩, mc, nsB c1, c2⟩
  have env : Env0 P w K mg (hidT s1.heap H) callerA [] s1 H := ⟨rfl, md, fun b o e => of_hidT e, Nat.le_of_eq (hidT_size _ _), trivial, (fun b z => by cases z), hok, .of_eq hg⟩
  refine codeAny_mono ((F _ kinB (nsB hns)).run callerA [] s1 H ⟨[.ref a], []⟩ [.ref a] [.ref a] _ _ rfl hr env (hbind s1 (.ref a)) (.cons rfl .nil) hsp) fun r s' h => ?_
  match r, h with
  | .error _, h => exact (show False from h).elim
  | .ok (.ret u), h =>
    obtain ⟨v, H', os, bare, un, hok', rv, q⟩ := h
    have q' : v = .bl true := q
    rw [q'] at rv
    have eu : u = Value.bool true := rv
    rw [eu]
    refine ⟨rfl, OldK.of_keep fun b o e => ?_, os, bare⟩
    match q : H b with
    | none => exact un.keep b o e q (fun z => by cases z) (fun z => by cases z)
    | some u =>
      rcases hO b with z | ⟨ob, xs, z⟩
      · rw [q] at z
        cases z
      · have b1 := (hok b _ z).1
        have b2 := (hok' b _ (un.frzs b ob _ z)).1
        rw [e] at b1
        cases b1
        exact b2
theorem law_callG (kin : K.In s1.heap) (hns : s1.heap.Ns mainGlobals mg) (hb : s1.heap.Ns builtinsNs mb) (hbb : ∀ x : Str, x ≠ "__name__" → mb x = bootBuiltins x) (hlim : s1.heap.NoLimit) (hg : s1.gens = #[])
    (ha : s1.heap.get? a = some { cls := .type "list", data := .seq vs.toArray }) (hi : IntsAre vs ns) (hl : ns.length ≤ sizeLine) (hr : Room k callerA) (F : ∀ base : Heap, K.In base → base.Ns mainGlobals mg → FnG P w K mg base CX0 k fa fd [x] sp)
    (hbind : ∀ (s : Shared) (u : Value), BindsTo s fd ⟨[u], []⟩ [(x, u)]) (hsp : ∀ H : Hp, Only H → SqL K H a (ns.map V.int) → sp [.ref a] H (fun v _ => v = .bl true) fun _ _ _ => False) :
    codeAny (model P w) callerA (.call (.ref fa) ⟨[.ref a], []⟩) (fun r s' => r = .ok (.ret (.bool true)) ∧ OldK s1.heap s'.heap ∧ s'.os = s1.os ∧ AllBare s'.gens) s1 := by
  have rv := vals_ints hi
  have le : vs.length = ns.length := hi.length
  match hk : K.lookup a with
  | some o =>
    have e := kin a o hk
    rw [ha] at e
    cases e
    refine callG_core kin hns hb hbb hlim hg ha hr F hbind (fun _ => none) (fun _ => .inl rfl) (hsp _ (fun _ => .inl rfl) ?_) (fun b u z => by cases z) (fun b o z => by cases z) (fun o z => by cases z)
    exact .inr ⟨_, vs.toArray, _, hk, rfl, rfl, rfl, by rw [List.size_toArray, le]; exact hl, by rw [List.toList_toArray]; exact rv⟩
  | none =>
    let H : Hp := fun b => if b = a then some (.frz { cls := .type "list", data := .seq vs.toArray } (.lst (ns.map V.int))) else none
    have at_a : H a = some (.frz { cls := .type "list", data := .seq vs.toArray } (.lst (ns.map V.int))) := if_pos rfl
    have off : ∀ b, b ≠ a → H b = none := fun b n => if_neg n
    have only : Only H := fun b => by
      by_cases c : b = a
      · rw [c]; exact .inr ⟨_, _, at_a⟩
      · exact .inl (off b c)
    refine callG_core kin hns hb hbb hlim hg ha hr F hbind H only (hsp H only (.inl (.inr ⟨_, at_a⟩))) (fun b u z => ?_) (fun b o z => ?_) (fun _ _ => hk)
    · by_cases c : b = a
      · rw [c] at z ⊢
        rw [at_a] at z
        cases z
        exact ⟨ha, by rw [List.length_map]; exact hl, vs, _, rv, ha⟩
      · rw [off b c] at z
        cases z
    · by_cases c : b = a
      · exact c
      · rw [off b c] at z
        cases z
end
/-- what the head leaves, from the law's promise -/
theorem walk_ofG {l : PySem.W.OpenLaw} {n k : Nat} {q : Program} {loose : List Str} {XP : (Str → Option Value) → Heap → Prop} {YP : World → Heap → Prop} {d : DefRec} {K : Params → PySem.W.Frag} {sp : World → Sp} {x : Str} (hn : l.most = some n) (hn2 : n ≤ sizeLine) (hdf : d.params.defaults = []) (hr : Room k callerA)
    (hY : ∀ (w : World) (h : Heap), YP w h → (K w.params).In h)
    (F : ∀ (w : World) (mg : Str → Option Value) (fa : Addr) (h : Heap), (K w.params).In h → h.Ns mainGlobals mg → mg d.name = some (.ref fa) → ∃ fd : FuncData, (∀ (s : Shared) (u : Value), BindsTo s fd ⟨[u], []⟩ [(x, u)]) ∧
        ∀ base : Heap, (K w.params).In base → base.Ns mainGlobals mg → FnG l.prog w (K w.params) mg base CX0 k fa fd [x] (sp w))
    (hsp : ∀ (w : World) (H : Hp) (a : Addr) (ns : List Int), ns.length ≤ n → Only H → SqL (K w.params) H a (ns.map V.int) → sp w [.ref a] H (fun v _ => v = .bl true) fun _ _ _ => False) : PySem.W.WalkO q loose XP YP l.row.toRowW d [] (fun f vs => PySem.call f vs) := by
  refine Att.attach_call hn hdf fun w s0 s1 mg mb fa o pm cd doc a vs ns G Y ho hd hcd hmg hobj hints hlen hg => ?_
  obtain ⟨fd, hbd, hF⟩ := F w mg fa _ (hY w _ Y) G.T.g hmg
  exact law_callG (hY w _ Y) G.T.g G.T.b G.T.builtins G.T.nolimit hg hobj hints (Nat.le_trans hlen hn2) hr hF hbd fun H hO hS => hsp w H a ns hlen hO hS
end HSP
namespace HSP
open PySem PySem.Spec PyProof.Rows L2
section
variable {X : Cx}
/-- repr of None and of whole numbers -/
def rReprS : List V → Hp → VK → Prop := fun vs H Q => (vs = [.non] ∧ Q (.str "None") H) ∨ ∃ i : Int, vs = [.int i] ∧ i.natAbs.log2 < 1920 ∧ Q (.str (toString i)) H
theorem cr_reprS : CallR X (.builtin "repr") rReprS := by
  intro pins s σ H vs us Q I r h
  rcases h with ⟨rfl, q⟩ | ⟨i, rfl, few, q⟩
  · obtain ⟨u, rfl, ru⟩ := vals1 r
    cases (show u = Value.none from ru)
    exact P.repr_of_none ⟨.str "None", H, I.tok _, ⟨_, rfl⟩, q⟩
  · exact SkE.call_repr_int pins s σ H _ us Q I r ⟨i, rfl, few, q⟩
end
section
variable {P : Program} {w : World} {K : PySem.W.Frag} {mg : Str → Option Value} {base : Heap}
/-! ### _law_kept -/
/-- what the law asks of the two classes -/
structure Two (K : PySem.W.Frag) (mg : Str → Option Value) (C1 C2 : Addr) : Prop where
  g1 : mg "InvalidTree" = some (.ref C1)
  g2 : mg "InvalidValues" = some (.ref C2)
  x1 : PySem.W.exmAny K (.ref C1) [.ref C1, .ref C2] = some true
  x2 : PySem.W.exmAny K (.ref C2) [.ref C1, .ref C2] = some true
  e1 : ExcC K C1
  e2 : ExcC K C2
  f2 : XfC K C2
  n2 : PySem.W.findIn K (.ref C2) "node" = some none
  k1 : PySem.W.kitOne K (.ref C1) (.ref C2) = some false
  k2 : PySem.W.kitOne K (.ref C2) (.ref C2) = some true
/-- what a call raises: InvalidTree; InvalidValues with this node -/
def ETree (C1 : Addr) (H : Hp) : XK := fun cls d H' => cls = .ref C1 ∧ d = none ∧ Same H H'
def ENode (C2 : Addr) (H : Hp) (v : V) : XK := fun cls d H' => cls = .ref C2 ∧ ∃ dd, d = some dd ∧ H' dd = some (.xd [("node", v)]) ∧ Same H H'
def KeptV (v : V) (z : Str) : Prop := (v = .non ∧ z = "None") ∨ ∃ i : Nat, v = natV i ∧ i < 1000 ∧ z = toString (i : Int)
def spKept (sp : Sp) (C1 C2 : Addr) : Sp := fun vs H Q _ =>
  (sp vs H (fun _ _ => False) (ETree C1 H) ∧ ∀ H', Same H H' → Q (.str "tree") H') ∨
  ∃ (v : V) (z : Str), KeptV v z ∧ sp vs H (fun _ _ => False) (ENode C2 H v) ∧ ∀ H', Same H H' → Q (.str z) H'
end
end HSP
namespace HSP
open PySem PySem.Spec PyProof.Rows L2
/-! ## sum(rows, start): lists put behind one another -/
/-- a list object with these items -/
def LO (its : List Value) (n : Nat) : Obj := { cls := .type "list", data := .seq its.toArray n }
section
variable {prog : Program} {w : World} {A : Around}
theorem sumL_loop {I S : Addr} {fp wr : List Addr} {n : Nat} {Pv : Nat → Value → Prop} {St : Nat → Heap → Prop} (W : Walks prog w A.in1 I fp wr n Pv St) (hS : S ∉ fp) (row : Nat → Addr) (part : Nat → List Value) (hv : ∀ i v, Pv i v → v = .ref (row i)) (R : Result → Shared → Prop)
    (most : Nat) (hmost : most ≤ sizeLine) (hfp : ∀ i h, St i h → ∀ b ∈ fp, b < h.objs.size) :
    ∀ (k i : Nat) (s : Shared) (T : Addr) (acc : List Value) (c cT : Nat), n - i = k → i ≤ n → St i s.heap → s.heap.get? S = some (LO [.ref T] c) → s.heap.get? T = some (LO acc cT) → T ≠ S → T ∉ wr →
      (∀ j, j < n → row j ≠ S ∧ row j ∉ wr ∧ ∃ m, s.heap.get? (row j) = some (LO (part j) m)) → acc.length + (((List.range n).drop i).map fun j => (part j).length).sum ≤ most →
      (∀ (s' : Shared) (T' : Addr) (c' : Nat), (∀ b o, b ∉ wr → b ≠ S → s.heap.get? b = some o → s'.heap.get? b = some o) → s'.gens = s.gens → s'.drawn = s.drawn → s'.os = s.os →
        s'.heap.get? T' = some (LO (acc ++ (((List.range n).drop i).map part).flatten) c') → T' ≠ S → T' ∉ wr → (i = n ∧ T' = T ∨ s.heap.get? T' = none) → R (.ok (.ret (.ref T'))) s') →
      codeAny (model prog w) A (.builtin "sum.loop" ⟨[.ref I, .ref S, rawInt 2, rawInt 0], []⟩) R s := by
  have hSw : S ∉ wr := fun h => hS (W.sub _ h)
  intro k
  induction k with
  | zero =>
    intro i s T acc c cT hk hi hst eS eT nTS nTw rows hz hR
    obtain rfl : i = n := by omega
    refine codeAny_builtin F.entry_sum_loop ?_
    rw [Around.under_plainId F.plain_sum_loop _]
    show wpAny _ A.in1 (seqItems? (.ref S) >>= _) _ _ s
    refine wpAny_bind (wpAny_seqItems eS rfl (wpAny_bind (wpAny_tryCatch (W.done s _ _ hst fun h' tk kp => ?_))))
    have e0 : ((List.range i).drop i) = [] := List.drop_eq_nil_of_le (by rw [List.length_range]; exact Nat.le_refl _)
    refine wpAny_pure (hR { s with heap := h', toks := tk } T cT (fun b o n1 _ e => kp b o n1 e) rfl rfl rfl ?_ nTS nTw (.inl ⟨rfl, rfl⟩))
    rw [e0, List.map_nil, List.flatten_nil, List.append_nil]
    exact kp T _ nTw eT
  | succ k ih =>
    intro i s T acc c cT hk hi hst eS eT nTS nTw rows hz hR
    have hlt : i < n := by omega
    have ed : (List.range n).drop i = i :: (List.range n).drop (i + 1) := by
      have q := List.drop_eq_getElem_cons (l := List.range n) (i := i) (by rw [List.length_range]; exact hlt)
      rw [List.getElem_range] at q
      exact q
    rw [ed, List.map_cons, List.sum_cons] at hz
    refine codeAny_builtin F.entry_sum_loop ?_
    rw [Around.under_plainId F.plain_sum_loop _]
    show wpAny _ A.in1 (seqItems? (.ref S) >>= _) _ _ s
    refine wpAny_bind (wpAny_seqItems eS rfl (wpAny_bind (wpAny_tryCatch (W.item i s _ _ hlt hst fun v h1 tk hp hst1 kp => ?_))))
    obtain rfl := hv i v hp
    obtain ⟨nrS, nrw, m, er⟩ := rows i hlt
    have eS1 := kp S _ hSw eS
    have eT1 := kp T _ nTw eT
    have er1 := kp (row i) _ nrw er
    show wpAny _ A.in1 ((holding [Value.ref (row i)] (binaryOp .Add (.ref T) (.ref (row i)))).attempt >>= _) _ _ _
    refine wpAny_bind (wpAny_attempt (wpAny_holding (PySem.P.add_list eT1 er1 ?_ (by rw [List.size_toArray, List.size_toArray]; omega))))
    dsimp only
    have z1 : h1.objs.size ≠ S := fun z => by
      have q : S < h1.objs.size := Heap.lt_size eS1
      rw [z] at q
      exact Nat.lt_irrefl _ q
    have eS2 := Heap.get?_push_of_some ({ cls := .type "list", data := .seq (acc.toArray ++ (part i).toArray) } : Obj) eS1
    refine wpAny_bind (wpAny_updateSeq eS2 rfl ?_)
    have eS3 := Heap.get?_update_self (Obj.mapSeq fun _ => #[Value.ref h1.objs.size]) eS2 rfl
    refine wpAny_bind (wpAny_letGo (wpAny_bind (wpAny_updateSeq eS3 rfl ?_)))
    have eS4 := Heap.get?_update_self (Obj.mapSeq fun _ => #[Value.ref h1.objs.size]) eS3 rfl
    have kk : ∀ b o, b ≠ S → h1.get? b = some o → (((h1.push ({ cls := .type "list", data := .seq (acc.toArray ++ (part i).toArray) } : Obj)).update S (Obj.mapSeq fun _ => #[Value.ref h1.objs.size])).update S (Obj.mapSeq fun _ => #[Value.ref h1.objs.size])).get? b = some o := fun b o nb e =>
      (Heap.get?_update_other _ _ (Ne.symm nb)).trans ((Heap.get?_update_other _ _ (Ne.symm nb)).trans (Heap.get?_push_of_some _ e))
    have eN : (((h1.push ({ cls := .type "list", data := .seq (acc.toArray ++ (part i).toArray) } : Obj)).update S (Obj.mapSeq fun _ => #[Value.ref h1.objs.size])).update S (Obj.mapSeq fun _ => #[Value.ref h1.objs.size])).get? h1.objs.size = some (LO (acc ++ part i) 0) := by
      rw [Heap.get?_update_other _ _ (Ne.symm z1), Heap.get?_update_other _ _ (Ne.symm z1), Heap.get?_push_size _ rfl]
      unfold LO
      rw [List.append_toArray]
    refine wpAny_pure ⟨plainId_quiet F.plain_sum_loop _, ih (i + 1) _ h1.objs.size (acc ++ part i) _ 0 (by omega) hlt (W.frame _ _ _ hst1 fun b hb o e => kk b o (fun z => hS (z ▸ hb)) e) eS4 eN z1 (fun z => Nat.lt_irrefl _ (hfp _ _ hst1 _ (W.sub _ z))) (fun j hj => ?_) ?_ fun s' T' c' kp' g' d' o' e' m1 m2 m3 => ?_⟩
    · obtain ⟨n1, n2, m', e1⟩ := rows j hj
      exact ⟨n1, n2, m', kk _ _ n1 (kp _ _ n2 e1)⟩
    · rw [List.length_append]
      omega
    · refine hR s' T' c' (fun b o n1 n2 e => kp' b o n1 n2 (kk b o n2 (kp b o n1 e))) g' d' o' ?_ m1 m2 (.inr ?_)
      · rw [e', ed, List.map_cons, List.flatten_cons, List.append_assoc]
      · cases eo : s.heap.get? T' with
        | none => rfl
        | some o =>
          have e1 := kp T' o m2 eo
          rcases m3 with ⟨_, z⟩ | z
          · rw [z] at e1
            exact absurd (Heap.lt_size e1) (Nat.lt_irrefl _)
          · rw [kk T' o m1 e1] at z
            cases z
end
section
variable {prog : Program} {w : World} {A : Around} {E : Value → Shared → Prop} {s : Shared}
theorem args_sum2 (a b : Value) : argsOk "sum" ⟨[a, b], []⟩ := by
  unfold argsOk
  kernel_rfl
theorem sumL_call {l s0 : Addr} {rows : List Addr} {lits : List Value} {nl n0 : Nat} {parts : Nat → List Value} {acc : List Value} {Q : Value → Shared → Prop} (hh : A.handled = none)
    (el : s.heap.get? l = some (LO lits nl)) (hl : lits = rows.map Value.ref) (e0 : s.heap.get? s0 = some (LO acc n0)) (hr : ∀ j (h : j < rows.length), ∃ m, s.heap.get? rows[j] = some (LO (parts j) m))
    (hz : acc.length + ((List.range rows.length).map fun j => (parts j).length).sum ≤ sizeLine)
    (h : ∀ (s' : Shared) (T : Addr) (c : Nat), (∀ b o, s.heap.get? b = some o → s'.heap.get? b = some o) → s'.gens = s.gens → s'.os = s.os → s'.heap.get? T = some (LO (acc ++ ((List.range rows.length).map parts).flatten) c) → (rows = [] ∧ T = s0 ∨ s.heap.get? T = none) → Q (.ref T) s') :
    wpAny (model prog w) A (call (.builtin "sum") [.ref l, .ref s0]) Q E s := by
  have hlen : lits.toArray.size = rows.length := by rw [hl, List.size_toArray, List.length_map]
  refine call_function_tree F.kind_sum F.plain_sum F.entry_sum (args_sum2 _ _) ?_
  unfold Builtin.«sum»
  simp only [List.length_cons, List.length_nil]
  rw [if_neg (by decide)]
  refine wpAny_bind (wpAny_of_eq (show Builtin.Builtins.bindParams "sum" ["start"] 0 ⟨[.ref s0], []⟩ = pure [some (.ref s0)] from rfl) ?_)
  have hL : s.heap.IsList l lits.toArray := ⟨_, el, rfl, nl, rfl⟩
  refine wpAny_bind (wpAny_pyIter_list hL ?_)
  have lt1 : l < s.heap.objs.size := Heap.lt_size el
  have lt0 : s0 < s.heap.objs.size := Heap.lt_size e0
  have e1 := Heap.get?_push_of_some ({ cls := .type "list_iterator", data := .fields #[.ref l, .int 0 0] } : Obj) e0
  have tL : Shared.TypeIs { s with heap := s.heap.push { cls := .type "list_iterator", data := .fields #[.ref l, .int 0 0] } } (.ref s0) "list" := ⟨_, e1, rfl⟩
  refine wpAny_bind (wpAny_pure ?_)
  simp only [List.forIn_cons, List.forIn_nil]
  refine wpAny_bind (wpAny_bind (wpAny_bind (wpAny_isInstance (T := "list") (b := false) tL PySem.F.sub_list_str ?_)))
  simp only [Bool.false_eq_true, if_false]
  refine wpAny_pure (wpAny_bind (wpAny_bind (wpAny_isInstance (T := "list") (b := false) tL PySem.F.sub_list_bytes ?_)))
  simp only [Bool.false_eq_true, if_false]
  refine wpAny_pure (wpAny_bind (wpAny_bind (wpAny_isInstance (T := "list") (b := false) tL PySem.F.sub_list_bytearray ?_)))
  simp only [Bool.false_eq_true, if_false]
  refine wpAny_pure (wpAny_pure (wpAny_bind (wpAny_newObj_type ?_)))
  have sz1 : (s.heap.push ({ cls := .type "list_iterator", data := .fields #[.ref l, .int 0 0] } : Obj)).objs.size = s.heap.objs.size + 1 := Heap.size_push ..
  have nlI : l ≠ s.heap.objs.size := Nat.ne_of_lt lt1
  have kp : ∀ b o, s.heap.get? b = some o → ((s.heap.push ({ cls := .type "list_iterator", data := .fields #[.ref l, .int 0 0] } : Obj)).push (LO [.ref s0] 0)).get? b = some o := fun b o e => Heap.get?_push_of_some _ (Heap.get?_push_of_some _ e)
  refine wpAny_pure ⟨plainId_quiet F.plain_sum_loop _, sumL_loop (Walks.list (A := A.in1) (by simp [hh]) s.heap.objs.size l nlI lits.toArray) (S := (s.heap.push ({ cls := .type "list_iterator", data := .fields #[.ref l, .int 0 0] } : Obj)).objs.size) ?_ (fun j => rows.getD j 0) parts ?_ _ sizeLine (Nat.le_refl _) ?_
    (rows.length - 0) 0 _ s0 acc 0 n0 (by rw [hlen]) (Nat.zero_le _) ⟨⟨_, Heap.get?_push_of_some _ (Heap.get?_push_size _ rfl), rfl, rfl⟩, (hL.push _).push _⟩ ?_ (kp _ _ e0) (by rw [sz1]; exact Nat.ne_of_lt (Nat.lt_succ_of_lt lt0)) ?_ ?_ ?_ ?_⟩
  · rw [sz1]
    intro z
    rcases List.mem_cons.mp z with z | z
    · exact absurd z (Nat.ne_of_gt (Nat.lt_succ_self _))
    · exact absurd (List.mem_singleton.mp z) (Nat.ne_of_gt (Nat.lt_succ_of_lt lt1))
  · intro i v hv
    rw [List.getElem?_toArray, hl, List.getElem?_map] at hv
    cases hr2 : rows[i]? with
    | none => rw [hr2] at hv; cases hv
    | some b =>
      rw [hr2] at hv
      cases hv
      rw [List.getD_eq_getElem?_getD, hr2]
      rfl
  · intro i h st b hb
    rcases List.mem_cons.mp hb with z | z
    · obtain ⟨⟨o, ho, _⟩, _⟩ := st
      rw [z]
      exact Heap.lt_size ho
    · obtain ⟨_, ⟨o, ho, _⟩⟩ := st
      rw [List.mem_singleton.mp z]
      exact Heap.lt_size ho
  · exact Heap.get?_push_size _ rfl
  · intro z
    exact absurd (List.mem_singleton.mp z) (Nat.ne_of_lt lt0)
  · intro j hj
    rw [hlen] at hj
    obtain ⟨m, e⟩ := hr j hj
    have eg : rows.getD j 0 = rows[j] := by
      rw [List.getD_eq_getElem?_getD, List.getElem?_eq_getElem hj]
      rfl
    have lt2 : rows[j] < s.heap.objs.size := Heap.lt_size e
    refine ⟨?_, ?_, m, ?_⟩
    · rw [eg, sz1]; exact Nat.ne_of_lt (Nat.lt_succ_of_lt lt2)
    · rw [eg]; exact fun z => absurd (List.mem_singleton.mp z) (Nat.ne_of_lt lt2)
    · rw [eg]; exact kp _ _ e
  · rw [hlen, List.drop_zero]
    exact hz
  · intro s' T' c' k1 g1 d1 o1 e' m1 m2 m3
    rw [hlen, List.drop_zero] at e'
    refine h s' T' c' (fun b o e => ?_) g1 o1 e' (m3.imp (fun z => ⟨List.eq_nil_of_length_eq_zero (by rw [← hlen]; exact z.1.symm), z.2⟩) fun z => ?_)
    rotate_left
    · cases eo : s.heap.get? T' with
      | none => rfl
      | some o =>
        cases (kp _ _ eo).symm.trans z
    have lt3 : b < s.heap.objs.size := Heap.lt_size e
    exact k1 b o (fun z => absurd (List.mem_singleton.mp z) (Nat.ne_of_lt lt3)) (by rw [sz1]; exact Nat.ne_of_lt (Nat.lt_succ_of_lt lt3)) (kp _ _ e)
end
section
variable {X : Cx}
/-- sum(a list of lists of ints, a list of ints) -/
def rSumL (K : PySem.W.Frag) : List V → Hp → VK → Prop := fun vs H Q => ∃ (a b : Addr) (rows : List Addr) (parts : List (List Int)) (ms : List Int), vs = [V.ref a, V.ref b] ∧ H a = some (.lst (rows.map V.ref)) ∧ H b = some (.lst (ms.map V.int)) ∧
  Paired (fun r ns => H r = some (.lst (ns.map V.int))) rows parts ∧ ms.length + parts.flatten.length ≤ sizeLine ∧ ∀ (H' : Hp) (p : Addr), Same H H' → H' p = some (.lst ((ms ++ parts.flatten).map V.int)) → Q (.ref p) H'
theorem refs_of : ∀ {rows : List Addr} {its : List Value}, Vals (rows.map V.ref) its → its = rows.map Value.ref
  | [], _, .nil => rfl
  | a :: r, _, .cons q t => by rw [List.map_cons, ← refs_of t, (show _ = Value.ref a from q)]
theorem Paired.at' {α β : Type} {R : α → β → Prop} : ∀ {l : List α} {m : List β}, Paired R l m → ∀ j (h : j < l.length) (h' : j < m.length), R l[j] m[j]
  | _, _, .cons q _, 0, _, _ => q
  | _, _, .cons _ t, j + 1, h, h' => Paired.at' t j (Nat.lt_of_succ_lt_succ h) (Nat.lt_of_succ_lt_succ h')
theorem range_map {α β : Type} (f : α → β) (d : α) : ∀ l : List α, (List.range l.length).map (fun j => f (l.getD j d)) = l.map f := by
  intro l
  apply List.ext_getElem
  · rw [List.length_map, List.length_map, List.length_range]
  · intro i h1 h2
    rw [List.length_map] at h2
    rw [List.getElem_map, List.getElem_map, List.getElem_range, List.getD_eq_getElem?_getD, List.getElem?_eq_getElem h2]
    rfl
theorem rows_of {P : Program} {w : World} {H : Hp} {h : Heap} (ok : HOk P w H h) : ∀ {rows : List Addr} {parts : List (List Int)}, Paired (fun r ns => H r = some (.lst (ns.map V.int))) rows parts →
    ∃ pits : List (List Value), pits.length = rows.length ∧ (∀ j (hj : j < rows.length), ∃ m, h.get? rows[j] = some (LO (pits.getD j []) m)) ∧ Vals (parts.flatten.map V.int) pits.flatten ∧ (pits.map List.length).sum = parts.flatten.length
  | [], [], .nil => ⟨[], rfl, fun j hj => absurd hj (Nat.not_lt_zero j), .nil, rfl⟩
  | r :: rows, ns :: parts, .cons e t => by
    obtain ⟨pits, h1, h2, h3, h4⟩ := rows_of ok t
    obtain ⟨z, its, n, v, g⟩ : ObjOk P w H h r (.lst (ns.map V.int)) := ok r _ e
    refine ⟨its :: pits, by rw [List.length_cons, h1, List.length_cons], fun j hj => ?_, ?_, ?_⟩
    · cases j with
      | zero => exact ⟨n, g⟩
      | succ j => exact h2 j (Nat.lt_of_succ_lt_succ hj)
    · rw [List.flatten_cons, List.map_append, List.flatten_cons]
      exact v.append h3
    · rw [List.map_cons, List.sum_cons, h4, List.flatten_cons, List.length_append, ← v.length, List.length_map]
theorem cr_sumL (hc : X.calm = true) : CallR X (.builtin "sum") (rSumL X.K) := by
  intro pins s σ H vs us Q I r h
  obtain ⟨a, b, rows, parts, ms, rfl, ha, hb, hp, hz, q⟩ := h
  cases r with
  | cons r1 t1 =>
    cases t1 with
    | cons r2 t2 =>
      cases t2
      cases r1
      cases r2
      obtain ⟨za, its, n, va, ea⟩ : ObjOk X.prog X.w H s.heap a (.lst (rows.map V.ref)) := I.hok a _ ha
      obtain ⟨zb, it0, n0, vb, eb⟩ : ObjOk X.prog X.w H s.heap b (.lst (ms.map V.int)) := I.hok b _ hb
      obtain ⟨pits, hl2, hg2, hv2, hn2⟩ := rows_of I.hok hp
      have e1 : (List.range rows.length).map (fun j => pits.getD j []) = pits := by
        have q := range_map (fun x : List Value => x) [] pits
        rw [List.map_id', hl2] at q
        exact q
      have e2 : ((List.range rows.length).map fun j => (pits.getD j []).length).sum = parts.flatten.length := by
        have q := range_map (fun x : List Value => x.length) [] pits
        rw [hl2] at q
        rw [q, hn2]
      refine sumL_call (I.ok.hd hc) (lits := its) (acc := it0) (parts := fun j => pits.getD j []) ea (refs_of va) eb hg2 (by rw [e2, ← vb.length, List.length_map]; exact hz) fun s' T c kp hg ho hT hw => ?_
      rw [e1] at hT
      have hvals : Vals ((ms ++ parts.flatten).map V.int) (it0 ++ pits.flatten) := by
        rw [List.map_append]
        exact vb.append hv2
      rcases hw with ⟨z1, z2⟩ | hnew
      · subst z1
        cases hp
        refine ⟨.ref T, H, I.call' (ch := []) ho (Un.kept kp) (I.hok.kept kp) (by rw [hg]; exact I.bare) (fun _ z => nomatch z), rfl, q H T (Same.refl H) ?_⟩
        rw [z2, hb, List.flatten_nil, List.append_nil]
      · have hn : H T = none := by
          cases eo : H T with
          | none => rfl
          | some o =>
            obtain ⟨u, hu⟩ := objOk_get (I.hok T o eo)
            rw [hnew] at hu
            cases hu
        refine ⟨.ref T, upd H T (.lst ((ms ++ parts.flatten).map V.int)), I.call' (ch := []) ho (Un.laidN kp hnew hn) (I.hok.laidN kp hn ⟨?_, _, c, hvals, hT⟩) (by rw [hg]; exact I.bare) (fun _ z => nomatch z), rfl, q _ T (Same.new hn) upd_same⟩
        rw [List.length_map, List.length_append]
        exact hz
end
end HSP
namespace HSP
open PySem PySem.Spec PyProof.Rows L2
/-! ## set(a list of ints) -/
/-- a set that was just made, as the world bears it -/
abbrev nSet (w : World) : Obj := { cls := .type "set", dict := none, data := .set #[] 0 (.fresh 0 0 (!w.params.followText "set-order")) }
abbrev nIt (l : Addr) : Obj := { cls := .type "list_iterator", data := .fields #[.ref l, .int 0 0] }
section
variable {P : Program} {w : World} {A : Around} {E : Value → Shared → Prop} {s : Shared}
/-- what the filling of the new set leaves -/
def Filled (w : World) (s : Shared) (ns : List Int) (v : Value) (s2 : Shared) : Prop :=
  v = .none ∧ ∃ (h2 : Heap) (tk c : Nat), s2 = { s with heap := h2, toks := tk } ∧ SetR w h2 s.heap.objs.size (fun j => decide (j ∈ ns)) c ∧ c ≤ ns.length ∧ ∀ b o, s.heap.get? b = some o → h2.get? b = some o
theorem setL_fill {l : Addr} {items : Array Value} {nl : Nat} {dd : Option Addr} {sl : Array (Option Value)} (ns : List Int) (hh : A.handled = none) (el : s.heap.get? l = some { cls := .type "list", dict := dd, data := .seq items nl, slots := sl }) (hi : IntsAre items.toList ns) (hb : ns.length + 1 < scanBound) :
    codeAny (model P w) A (.call (.builtin "set.__init__") ⟨[.ref s.heap.objs.size, .ref l], []⟩) (wants (Filled w s ns) E) { s with heap := s.heap.push (nSet w) } := by
  have many : items.size = ns.length := by rw [← Array.length_toList]; exact IntsAre.length hi
  have lS : l < s.heap.objs.size := Heap.lt_size el
  have sz : (s.heap.push (nSet w)).objs.size = s.heap.objs.size + 1 := Heap.size_push ..
  have gS : (s.heap.push (nSet w)).get? s.heap.objs.size = some (nSet w) := Heap.get?_push_size _ rfl
  have el1 := Heap.get?_push_of_some (nSet w) el
  have isL : (s.heap.push (nSet w)).IsList l items := ⟨_, el1, rfl, nl, rfl⟩
  refine codeAny_call_builtin F.called_set.init.plain F.entry_set_init (check_set_init_1 ⟨_, gS, rfl⟩ ?_)
  have t1 := F.sub_list_set
  have t2 := F.sub_list_frozenset
  have t3 : (Value.type "list" == Value.type "dict") = false := by decide
  unfold Builtin.«set.__init__» noKeywords Builtin.Frozenset.updateFrom
  generalize hPI : pyIter = PI
  wp_walk
  subst hPI
  refine wpAny_pyIter_list isL (wpAny_bind (wpAny_runValue ?_))
  have nlI : l ≠ (s.heap.push (nSet w)).objs.size := by rw [sz]; exact Nat.ne_of_lt (Nat.lt_succ_of_lt lS)
  have offS : s.heap.objs.size ∉ [(s.heap.push (nSet w)).objs.size, l] := fun z => by
    rw [sz] at z
    rcases List.mem_cons.mp z with z | z
    · exact absurd z (Nat.ne_of_lt (Nat.lt_succ_self _))
    · exact absurd (List.mem_singleton.mp z) (Nat.ne_of_gt lS)
  have vals : ∀ (i : Nat) (v : Value), items[i]? = some v → ∃ k t, ns[i]? = some k ∧ v = .int k t := fun i v hv => by
    have lt : i < ns.length := by rw [← many]; exact (Array.getElem?_eq_some_iff.mp hv).1
    obtain ⟨t, e⟩ := IntsAre.int_at hi i v (by rw [Array.getElem?_toList]; exact hv)
    have eg : ns.getD i 0 = ns[i] := by rw [List.getD_eq_getElem?_getD, List.getElem?_eq_getElem lt]; rfl
    exact ⟨ns[i], t, List.getElem?_eq_getElem lt, by rw [e, eg]⟩
  refine set_update_ints (Walks.list (A := A.in1.in1) (by simp [hh]) _ l nlI items).toS s.heap.objs.size offS ns many hb vals (items.size - 0) 0 _ rfl (Nat.zero_le _) ?st ?new fun s2 c hm hc hR => ?_
  case st => exact ⟨⟨_, Heap.get?_push_size _ rfl, rfl, rfl⟩, isL.push _⟩
  case new => exact ⟨0, Nat.le_refl 0, setR_new_at (w := w) (show ((s.heap.push (nSet w)).push (nIt l)).get? s.heap.objs.size = some (nSet w) from Heap.get?_push_of_some _ gS)⟩
  obtain ⟨h2, g2, d2, tk2, os2⟩ := s2
  obtain rfl : g2 = s.gens := hm.gens
  obtain rfl : d2 = s.drawn := hm.drawn
  obtain rfl : os2 = s.os := hm.os
  rw [many] at hc
  refine wpAny_pure (wpAny_pure ⟨rfl, h2, tk2, c, rfl, hR, hc, fun b o e => ?_⟩)
  have bS : b < s.heap.objs.size := Heap.lt_size e
  refine hm.heap b o (fun z => ?_) (Heap.get?_push_of_some _ (Heap.get?_push_of_some _ e))
  rcases List.mem_cons.mp z with z | z
  · exact absurd z (Nat.ne_of_lt bS)
  · have z' := List.mem_singleton.mp z
    rw [sz] at z'
    exact absurd z' (Nat.ne_of_lt (Nat.lt_succ_of_lt bS))
theorem setL_call {l : Addr} {items : Array Value} {nl : Nat} {dd : Option Addr} {sl : Array (Option Value)} (ns : List Int) {Q : Value → Shared → Prop} (hh : A.handled = none) (el : s.heap.get? l = some { cls := .type "list", dict := dd, data := .seq items nl, slots := sl }) (hi : IntsAre items.toList ns) (hb : ns.length + 1 < scanBound)
    (h : ∀ s2, Filled w s ns .none s2 → Q (.ref s.heap.objs.size) s2) : wpAny (model P w) A (call (.type "set") [.ref l]) Q E s := by
  obtain ⟨cl, tl, f1⟩ := F.called_set.mro
  have f2 := F.called_set.made
  have f3 := F.called_set.sub
  have f4 := F.called_set.notType
  have f5 := F.called_set.canCreate
  have f6 := F.typeCall_set_1 (.ref l)
  refine wpAny_call (codeAny_of_tree (show wpAny _ _ (callAny (.type "set") _) _ _ _ from wpAny_pure ⟨Code.quiet_builtin _ (by decide +kernel), codeAny_builtin F.entry_type_call ?_⟩))
  rw [Around.under_plain (weight_type_call_type "set" [.ref l] []) rfl]
  repeat any_goals (first | assumption | wp_step)
  refine codeAny_mono (code_set_led1 (.ref l) (E := E) (Q₁ := fun v s1 => v = .ref s.heap.objs.size ∧ s1 = { s with heap := s.heap.push (nSet w) }) ⟨rfl, rfl⟩) fun r s1 hr => ?_
  match r, hr with
  | .error _, hr => exact hr
  | .ok (.ret v), hr =>
    obtain ⟨e1, e2⟩ := hr
    subst e1 e2
    have f7 := F.called_set.init.lookup
    have f8 := F.called_set.init.bind (.ref s.heap.objs.size)
    have f9 : Shared.TypeIs { s with heap := s.heap.push (nSet w) } (.ref s.heap.objs.size) "set" := ⟨_, Heap.get?_push_size _ rfl, rfl⟩
    repeat any_goals (first | assumption | wp_step)
    refine codeAny_mono (setL_fill (E := E) (A := A.in1) ns (by simp [hh]) el hi hb) fun r2 s2 hr2 => ?_
    match r2, hr2 with
    | .error _, hr2 => exact hr2
    | .ok (.ret u), hr2 =>
      obtain ⟨e3, q⟩ := hr2
      subst e3
      repeat any_goals (first | assumption | wp_step)
      exact h _ ⟨rfl, q⟩
end
section
variable {X : Cx}
/-- set(a list of ints): its members, at most as many as there are items -/
def rSetInts (w : World) : List V → Hp → VK → Prop := fun vs H Q => ∃ (a : Addr) (ns : List Int), vs = [V.ref a] ∧ H a = some (.lst (ns.map V.int)) ∧ ns.length ≤ 1000 ∧
  ∀ (p : Addr) (c : Nat), H p = none → c ≤ ns.length → Q (.ref p) (upd H p (SetO w p (fun j => decide (j ∈ ns)) c))
theorem cr_setInts (hc : X.calm = true) : CallR X (.type "set") (rSetInts X.w) := by
  intro pins s σ H vs us Q I r h
  obtain ⟨a, ns, rfl, ha, hl, q⟩ := h
  rw [Vals.ref1 r]
  obtain ⟨z, its, n, rv, e⟩ : ObjOk X.prog X.w H s.heap a (.lst (ns.map V.int)) := I.hok a _ ha
  refine setL_call ns (I.ok.hd hc) e (ints_of_vals rv) (by unfold scanBound; omega) fun s2 hf => ?_
  obtain ⟨_, h2, tk, c, rfl, hR, hc2, kp⟩ := hf
  have hn : H s.heap.objs.size = none := I.hok.fresh (Nat.le_refl _)
  exact ⟨.ref _, _, I.laid kp (Nat.le_refl _) (setO_new hR), rfl, q _ c hn hc2⟩
end
end HSP
namespace HSP
open PySem PySem.Spec PyProof.Rows L2
/-! ## what the law draws from: a list of a number, a count, a mark -/
def DrAt (H : Hp) (p : Addr) (k : Nat) : Prop := ∃ (n : Int) (j : Nat) (b : Bool), H p = some (.lst [.int n, .int (j : Int), .bl b]) ∧ j ≤ k
theorem DrAt.mono {H : Hp} {p : Addr} {k k' : Nat} (d : DrAt H p k) (h : k ≤ k') : DrAt H p k' := by
  obtain ⟨n, j, b, e, l⟩ := d
  exact ⟨n, j, b, e, Nat.le_trans l h⟩
theorem DrAt.same {H H' : Hp} {p : Addr} {k : Nat} (d : DrAt H p k) (s : Same H H') : DrAt H' p k := by
  obtain ⟨n, j, b, e, l⟩ := d
  exact ⟨n, j, b, s _ _ e, l⟩
theorem DrAt.ne {H : Hp} {p q : Addr} {k : Nat} (d : DrAt H p k) (h : H q = none) : q ≠ p := by
  obtain ⟨n, j, b, e, l⟩ := d
  exact (ne_of_none e h).symm
theorem DrAt.tree {H H' : Hp} {p : Addr} {k : Nat} {v : V} {t : Tr} (d : DrAt H p k) (s : Keep p H H') (h : TrAt H v t) : TrAt H' v t := by
  obtain ⟨n, j, b, e, l⟩ := d
  exact s.tree e h
/-- any of the items, whichever place is read -/
theorem at_any {xs : List V} {C : V → Prop} (h : ∀ x, x ∈ xs → C x) {i : Int} (h0 : 0 ≤ i) (h1 : i < (xs.length : Int)) : ∃ v, atI xs i = some v ∧ C v := by
  have hk : i.toNat < xs.length := by omega
  have ei : i = ((i.toNat : Nat) : Int) := by omega
  exact ⟨xs[i.toNat], at_of ei (List.getElem?_eq_getElem hk), h _ (List.getElem_mem hk)⟩
theorem small_mod {a m : Int} (h0 : 0 < m) (h1 : m < 2 ^ 64) : -(2 ^ 64) < a % m ∧ a % m < 2 ^ 64 := by
  have q1 := Int.emod_nonneg a (show m ≠ 0 by omega)
  have q2 := Int.emod_lt_of_pos a h0
  constructor <;> omega
section
variable {P : Program} {w : World} {K : PySem.W.Frag} {mg : Str → Option Value} {base : Heap}
/-! ### _law_draws -/
theorem sc_law_draws : FnScope n_law_draws ["cell"] (defScope s_law_draws) := ⟨rfl, rfl, rfl, by decide +kernel, rfl, by decide +kernel, by decide +kernel⟩
def spDraws : Sp := fun vs H Q _ => ∃ c : Int, vs = [.int c] ∧ ∀ (H' : Hp) (p : Addr), Same H H' → H p = none → DrAt H' p 0 → Q (.ref p) H'
theorem ok_draws (B : Bl mg) (a : At K mg "_law_draws" s_law_draws) : Df P w K mg base "_law_draws" 1 ["cell"] spDraws := by
  refine Df.mk' a sc_law_draws (fun vs H Q E h => ?_) (fun _ _ _ _ _ _ us hl => match us, hl with | [_], _ => rfl) (fun f cdv A outer s H vs Q E hr h => ?_)
  · obtain ⟨c, rfl, _⟩ := h
    rfl
  obtain ⟨c, rfl, q⟩ := h
  refine ⟨_, (pss_one (ps_ret (pe_lst (pa_cons (pe_op op_mod (pe_callTy call_int1 (by rfl) B.int (by decide +kernel) (pa_cons (pv 0) pa_nil)) (pe_op op_powW (pe_op op_powW (pe_op op_powW pe_int pe_int) pe_int) pe_int)) (pa_cons pe_int (pa_cons (pe_cmpR op_ge (pv 0) (pe_op op_powW pe_int pe_int) (nomark _)) pa_nil)))))), ?_⟩
  refine ⟨_, rfl, .inl ⟨_, rfl, _, _, rfl, rfl, ⟨by decide, by decide +kernel⟩, _, _, rfl, rfl, ⟨by decide, by decide +kernel⟩, _, _, rfl, rfl, ⟨by decide, by decide +kernel⟩, _, _, rfl, rfl, ?_, ?_⟩⟩
  · exact Int.pow_pos (Int.pow_pos (Int.pow_pos (by decide)))
  refine ⟨_, rfl, _, _, rfl, rfl, ⟨by decide, by decide +kernel⟩, _, _, rfl, rfl, (by show 3 ≤ sizeLine; decide), fun p hp => ?_⟩
  exact q _ p (Same.new hp) hp ⟨_, 0, _, upd_same, Nat.le_refl _⟩
/-! ### _law_next -/
theorem sc_law_next : FnScope n_law_next ["draws"] (defScope s_law_next) := ⟨rfl, rfl, rfl, by decide +kernel, rfl, by decide +kernel, by decide +kernel⟩
def spNext : Sp := fun vs H Q _ => ∃ (p : Addr) (k : Nat), vs = [.ref p] ∧ DrAt H p k ∧ k ≤ 100000 ∧ ∀ (H' : Hp) (r : Int), Keep p H H' → DrAt H' p (k + 1) → 0 ≤ r → r < 2147483648 → Q (.int r) H'
theorem ok_next (B : Bl mg) (a : At K mg "_law_next" s_law_next) : Df P w K mg base "_law_next" 1 ["draws"] spNext := by
  refine Df.mk' a sc_law_next (fun vs H Q E h => ?_) (fun _ _ _ _ _ _ us hl => match us, hl with | [_], _ => rfl) (fun f cdv A outer s H vs Q E hr h => ?_)
  · obtain ⟨p, k, rfl, _⟩ := h
    rfl
  obtain ⟨p, k, rfl, ⟨n, j, b, e, hj⟩, hk, q⟩ := h
  refine ⟨_, (pss_cons (ps_asg (pe_op op_add (pe_ix ix_list (pv 0) pe_int (fun _ _ => rfl)) pe_int) (pg_sub (pv 0) pe_int set_list))
 (pss_cons (ps_set (i := 1) sc_law_next.nd rfl (.inl rfl) (pe_ix ix_list (pv 0) pe_int (fun _ _ => rfl)))
 (pss_cons (ps_if (pt_val (pe_ix ix_list (pv 0) pe_int (fun _ _ => rfl))) (pss_cons (ps_set (i := 2) sc_law_next.nd rfl (.inl rfl) (pe_op op_mod (pe_callTy call_int1 (by rfl) B.int (by decide +kernel) (pa_cons (pe_ix ix_list (pv 0) pe_int (fun _ _ => rfl)) pa_nil)) (pe_op op_powW pe_int pe_int)))
 (pss_cons (ps_asg (pe_op op_fdiv (pe_ix ix_list (pv 0) pe_int (fun _ _ => rfl)) (pe_op op_powW pe_int pe_int)) (pg_sub (pv 0) pe_int set_list))
 (pss_one (ps_ret (pv 2))))) pss_nil)
 (pss_cons (ps_set (i := 2) sc_law_next.nd rfl (.inl rfl) (pe_op op_mod (pe_callTy call_int1 (by rfl) B.int (by decide +kernel) (pa_cons (pe_op op_mul (pe_op op_add (pe_op op_add (pe_op op_mod (pe_callTy call_int1 (by rfl) B.int (by decide +kernel) (pa_cons (pe_ix ix_list (pv 0) pe_int (fun _ _ => rfl)) pa_nil)) pe_int) (pe_op op_mul (pe_op op_mul (pv 1) (pv 1)) pe_int)) (pv 1)) pe_int) pa_nil)) pe_int))
 (pss_cons (ps_set (i := 2) sc_law_next.nd rfl (.inl rfl) (pe_op op_mod (pe_callTy call_int1 (by rfl) B.int (by decide +kernel) (pa_cons (pe_op op_mul (pv 2) (pv 2)) pa_nil)) pe_int))
 (pss_one (ps_ret (pe_op op_fdiv (pe_op op_mod (pe_callTy call_int1 (by rfl) B.int (by decide +kernel) (pa_cons (pe_op op_mul (pv 2) (pe_op op_add (pv 2) pe_int)) pa_nil)) pe_int) pe_int)))))))), ?_⟩
  have e1 : (upd H p (.lst ([V.int n, .int (j : Int), .bl b].set 1 (.int ((j : Int) + 1))))) p = some (.lst [.int n, .int ((j + 1 : Nat) : Int), .bl b]) := by
    rw [upd_same]
    rfl
  refine ⟨_, rfl, p, _, _, _, rfl, rfl, .of e, atI_nat (j := 1) rfl, _, _, rfl, rfl, _, rfl, p, _, _, 1, rfl, rfl, e, rfl, ?_⟩
  have kp1 : Keep p H (upd H p (.lst ([V.int n, .int (j : Int), .bl b].set 1 (.int ((j : Int) + 1))))) := Keep.at
  generalize upd H p (.lst ([V.int n, .int (j : Int), .bl b].set 1 (.int ((j : Int) + 1)))) = H1 at e1 kp1 ⊢
  refine ⟨_, rfl, p, _, _, _, rfl, rfl, .of e1, atI_nat (j := 1) rfl, ?_⟩
  refine ⟨_, rfl, p, _, _, _, rfl, rfl, .of e1, atI_nat (j := 2) rfl, b, rfl, ?_⟩
  refine ite2 (fun c => ?_) (fun c => ?_)
  · refine ⟨_, rfl, p, _, _, _, rfl, rfl, .of e1, atI_nat (j := 0) rfl, .inl ⟨_, rfl, _, _, rfl, rfl, ⟨by decide, by decide +kernel⟩, _, _, rfl, rfl, Int.pow_pos (by decide), ?_⟩⟩
    refine ⟨_, rfl, p, _, _, _, rfl, rfl, .of e1, atI_nat (j := 0) rfl, _, _, rfl, rfl, ⟨by decide, by decide +kernel⟩, _, _, rfl, rfl, ⟨by decide, by decide⟩, _, rfl, p, _, _, 0, rfl, rfl, e1, rfl, ?_⟩
    refine ⟨_, rfl, q _ _ (kp1.trans Keep.at) ⟨_, j + 1, b, upd_same, by omega⟩ (Int.emod_nonneg _ (by decide)) ?_⟩
    have h6 : n % (1000000 : Int) < 1000000 := Int.emod_lt_of_pos n (by decide)
    exact Int.lt_trans h6 (by decide)
  · have k1 : -(2 ^ 64) < ((j + 1 : Nat) : Int) := by omega
    have k2 : ((j + 1 : Nat) : Int) < 2 ^ 64 := by omega
    refine ⟨_, rfl, p, _, _, _, rfl, rfl, .of e1, atI_nat (j := 0) rfl, .inl ⟨_, rfl, _, _, rfl, rfl, (by show (0 : Int) < 1000003; decide), _, rfl, _, rfl, _, _, rfl, rfl, .inl ⟨k1, k2⟩, _, _, rfl, rfl, .inr ⟨by decide, by decide⟩, _, _, rfl, rfl, _, rfl, _, _, rfl, rfl, _, _, rfl, rfl, .inr ⟨by decide, by decide⟩,
      .inl ⟨_, rfl, _, _, rfl, rfl, (by show (0 : Int) < 2147483629; decide), ?_⟩⟩⟩
    refine ⟨_, rfl, _, rfl, _, _, rfl, rfl, .inl (small_mod (by decide) (by decide)), .inl ⟨_, rfl, _, _, rfl, rfl, (by show (0 : Int) < 2147483587; decide), ?_⟩⟩
    refine ⟨_, rfl, _, rfl, _, _, rfl, rfl, _, _, rfl, rfl, .inl (small_mod (by decide) (by decide)), .inl ⟨_, rfl, _, _, rfl, rfl, (by show (0 : Int) < 2147483579; decide), _, _, rfl, rfl, ⟨by decide, by decide⟩, ?_⟩⟩
    refine q _ _ kp1 ⟨n, j + 1, b, e1, by omega⟩ (Int.ediv_nonneg (Int.emod_nonneg _ (by decide)) (by decide)) ?_
    exact Int.lt_of_le_of_lt (Int.ediv_le_self _ (Int.emod_nonneg _ (by decide))) (Int.lt_trans (Int.emod_lt_of_pos _ (by decide)) (by decide))
end
end HSP
namespace HSP
open PySem PySem.Spec PyProof.Rows L2
section
variable {P : Program} {w : World} {K : PySem.W.Frag} {mg : Str → Option Value} {base : Heap}
/-- nothing can be asked: no room is needed -/
theorem Df.none' {x : Str} {st : Stmt} {ps : List Str} {sp : Sp} (a : At K mg x st) (no : ∀ vs H Q E, ¬ sp vs H Q E)
    (hb : ∀ (kV doc pm : Value) (an : Option Addr) (cdv ct : Value) (us : List Value), us.length = ps.length → bindArgs (PySem.W.fnOf x x (defArgs st) (defBody st) (defScope st) .none kV doc pm an cdv ct) ⟨us, []⟩ = pure (ps.zip us)) (k : Nat) : Df P w K mg base x k ps sp := by
  obtain ⟨f, fd, hm, F⟩ := a
  exact ⟨f, fd, hm, F.kp, F.binds hb, ⟨fun vs H Q E h => absurd h (no vs H Q E), fun A outer s H args us vs Q E _ _ _ _ h => absurd h (no vs H Q E)⟩⟩
def spSize (n : Nat) : Sp := fun vs H Q _ => ∃ (v : V) (t : Tr), vs = [v] ∧ TrAt H v t ∧ t.ht < n ∧ Q (.int t.size) H
end
end HSP
namespace HSP
open PySem PySem.Spec PyProof.Rows L2
section
variable {P : Program} {w : World} {K : PySem.W.Frag} {mg : Str → Option Value} {base : Heap}
/-! ### _law_room -/
end
end HSP
namespace HSP
open PySem PySem.Spec PyProof.Rows L2
/-! ### all trees of so many nodes -/
def trees : Nat → Nat → List Tr
  | _, 0 => [.nil]
  | 0, _ + 1 => []
  | f + 1, n + 1 => (List.range (n + 1)).flatMap fun a => (trees f a).flatMap fun l => (trees f (n - a)).map fun r => .nod l r
theorem trees_all : ∀ (f : Nat) (t : Tr), t.size ≤ f → t ∈ trees f t.size
  | 0, .nil, _ => List.mem_singleton.mpr rfl
  | _ + 1, .nil, _ => List.mem_singleton.mpr rfl
  | 0, .nod l r, h => by
    have : l.size + 1 + r.size ≤ 0 := h
    omega
  | f + 1, .nod l r, h => by
    have h' : l.size + 1 + r.size ≤ f + 1 := h
    have e : (Tr.nod l r).size = (l.size + r.size) + 1 := by
      show l.size + 1 + r.size = _
      omega
    rw [e]
    show Tr.nod l r ∈ (List.range (l.size + r.size + 1)).flatMap fun a => (trees f a).flatMap fun l' => (trees f (l.size + r.size - a)).map fun r' => Tr.nod l' r'
    refine List.mem_flatMap.mpr ⟨l.size, List.mem_range.mpr (by omega), List.mem_flatMap.mpr ⟨l, trees_all f l (by omega), List.mem_map.mpr ⟨r, ?_, rfl⟩⟩⟩
    have e2 : l.size + r.size - l.size = r.size := by omega
    rw [e2]
    exact trees_all f r (by omega)
theorem trees_size : ∀ (f n : Nat) (t : Tr), t ∈ trees f n → t.size = n
  | 0, 0, t, h => by rw [List.mem_singleton.mp h]; rfl
  | _ + 1, 0, t, h => by rw [List.mem_singleton.mp h]; rfl
  | 0, _ + 1, t, h => by cases h
  | f + 1, n + 1, t, h => by
    obtain ⟨a, ha, h⟩ := List.mem_flatMap.mp h
    obtain ⟨l, hl, h⟩ := List.mem_flatMap.mp h
    obtain ⟨r, hr, rfl⟩ := List.mem_map.mp h
    have h1 := List.mem_range.mp ha
    have h2 := trees_size f a l hl
    have h3 := trees_size f (n - a) r hr
    show l.size + 1 + r.size = n + 1
    omega
theorem flatMap_same {α β : Type} {f g : α → List β} : ∀ {l : List α}, (∀ x, x ∈ l → f x = g x) → l.flatMap f = l.flatMap g
  | [], _ => rfl
  | x :: r, h => by rw [List.flatMap_cons, List.flatMap_cons, h x List.mem_cons_self, flatMap_same fun y hy => h y (List.mem_cons_of_mem _ hy)]
/-- more room makes no more trees -/
theorem trees_same : ∀ (f g n : Nat), n ≤ f → n ≤ g → trees f n = trees g n
  | 0, 0, 0, _, _ => rfl
  | 0, _ + 1, 0, _, _ => rfl
  | _ + 1, 0, 0, _, _ => rfl
  | _ + 1, _ + 1, 0, _, _ => rfl
  | 0, _, _ + 1, h, _ => absurd h (by omega)
  | _ + 1, 0, _ + 1, _, h => absurd h (by omega)
  | f + 1, g + 1, n + 1, h1, h2 => by
    show ((List.range (n + 1)).flatMap fun a => (trees f a).flatMap fun l => (trees f (n - a)).map fun r => Tr.nod l r) = (List.range (n + 1)).flatMap fun a => (trees g a).flatMap fun l => (trees g (n - a)).map fun r => Tr.nod l r
    refine flatMap_same fun a ha => ?_
    have ha' := List.mem_range.mp ha
    rw [trees_same f g a (by omega) (by omega), trees_same f g (n - a) (by omega) (by omega)]
/-- all trees of so many nodes -/
def shapesOf (n : Nat) : List Tr := trees n n
theorem shapes_succ (n : Nat) : shapesOf (n + 1) = (List.range (n + 1)).flatMap fun a => (shapesOf a).flatMap fun l => (shapesOf (n - a)).map fun r => Tr.nod l r := by
  show ((List.range (n + 1)).flatMap fun a => (trees n a).flatMap fun l => (trees n (n - a)).map fun r => Tr.nod l r) = _
  refine flatMap_same fun a ha => ?_
  have ha' := List.mem_range.mp ha
  rw [trees_same n a a (by omega) (by omega), trees_same n (n - a) (n - a) (by omega) (by omega)]
  rfl
theorem shapes_in (t : Tr) : t ∈ shapesOf t.size := trees_all _ t (Nat.le_refl _)
theorem shapes_size {n : Nat} {t : Tr} (h : t ∈ shapesOf n) : t.size = n := trees_size _ _ t h
theorem shapes_few : ((List.range 6).all fun n => decide ((shapesOf n).length ≤ 42)) = true := by decide +kernel
theorem shapes_le {n : Nat} (h : n < 6) : (shapesOf n).length ≤ 42 := of_decide_eq_true (List.all_eq_true.mp shapes_few n (List.mem_range.mpr h))
theorem len_flatMap_le {α β : Type} {f : α → List β} {c : Nat} : ∀ {l : List α}, (∀ x, x ∈ l → (f x).length ≤ c) → (l.flatMap f).length ≤ l.length * c
  | [], _ => Nat.zero_le _
  | x :: r, h => by
    have h1 := h x List.mem_cons_self
    have h2 := len_flatMap_le fun y hy => h y (List.mem_cons_of_mem _ hy)
    rw [List.flatMap_cons, List.length_append, List.length_cons, Nat.add_mul, Nat.one_mul]
    omega
end HSP
namespace HSP
open PySem PySem.Spec PyProof.Rows L2
theorem cut_last (xs : List V) (y : V) : cutV (xs ++ [y]) none (some (-1)) = xs := by
  unfold cutV
  have e : HT.sIx (xs ++ [y]).length (xs ++ [y]).length (some (-1)) = xs.length := by
    show (if (-1 : Int) < 0 then ((-1 : Int) + ((xs ++ [y]).length : Int)).toNat else min (-1 : Int).toNat (xs ++ [y]).length) = xs.length
    rw [if_pos (by decide), List.length_append, List.length_singleton]
    omega
  rw [e, HT.sIx_none, List.drop_zero, Nat.sub_zero, List.take_left]
theorem inV_nat (i : Nat) : ∀ xs : List Nat, inV (natV i) (xs.map natV) = decide (i ∈ xs)
  | [] => rfl
  | x :: r => by
    have ih := inV_nat i r
    have e : inV (natV i) ((x :: r).map natV) = (eqV (natV x) (natV i) || inV (natV i) (r.map natV)) := rfl
    rw [e, ih]
    have e2 : eqV (natV x) (natV i) = decide ((x : Int) = (i : Int)) := rfl
    rw [e2]
    by_cases c : i = x
    · rw [decide_eq_true (show (x : Int) = (i : Int) by omega), Bool.true_or, decide_eq_true (List.mem_cons.mpr (.inl c))]
    · rw [decide_eq_false (show ¬ (x : Int) = (i : Int) by omega), Bool.false_or]
      by_cases d : i ∈ r
      · rw [decide_eq_true d, decide_eq_true (List.mem_cons_of_mem _ d)]
      · rw [decide_eq_false d, decide_eq_false (fun z => (List.mem_cons.mp z).elim c d)]
theorem inV_int (i : Int) : ∀ xs : List Int, inV (.int i) (xs.map V.int) = decide (i ∈ xs)
  | [] => rfl
  | x :: r => by
    have ih := inV_int i r
    have e : inV (.int i) ((x :: r).map V.int) = (eqV (.int x) (.int i) || inV (.int i) (r.map V.int)) := rfl
    rw [e, ih]
    have e2 : eqV (.int x) (.int i) = decide (x = i) := rfl
    rw [e2]
    by_cases c : i = x
    · rw [decide_eq_true c.symm, Bool.true_or, decide_eq_true (List.mem_cons.mpr (.inl c))]
    · rw [decide_eq_false (show ¬ x = i by omega), Bool.false_or]
      by_cases d : i ∈ r
      · rw [decide_eq_true d, decide_eq_true (List.mem_cons_of_mem _ d)]
      · rw [decide_eq_false d, decide_eq_false (fun z => (List.mem_cons.mp z).elim c d)]
theorem flat_nats : ∀ xs : List Nat, (xs.map natV).all flatV = true
  | [] => rfl
  | x :: r => by
    rw [List.map_cons, List.all_cons, flat_nats r]
    rfl
theorem flat_ints : ∀ xs : List Int, (xs.map V.int).all flatV = true
  | [] => rfl
  | x :: r => by
    rw [List.map_cons, List.all_cons, flat_ints r]
    rfl
/-! ### lists of ints as data -/
def intsD (l : List Int) : PyData := .list (l.map PyData.int)
theorem ints_can : ∀ l : List Int, PyData.canLayAll0 (l.map PyData.int) = true
  | [] => by simp [PyData.canLayAll0]
  | z :: r => by
    have ih := ints_can r
    simp only [List.map_cons, PyData.canLayAll0, PyData.canLay0, ih, Bool.and_self]
theorem ints_deep : ∀ l : List Int, PyData.depthAll (l.map PyData.int) ≤ 1
  | [] => by simp [PyData.depthAll]
  | z :: r => by
    have ih := ints_deep r
    simp only [List.map_cons, PyData.depthAll, PyData.depth]
    omega
theorem ints_shaped (l : List Int) : SeqAt.shaped (intsD l) = true := by
  unfold SeqAt.shaped intsD
  have h1 := ints_can l
  have h2 := ints_deep l
  rw [Bool.and_eq_true]
  refine ⟨by simp only [PyData.canLay0]; exact h1, decide_eq_true ?_⟩
  simp only [PyData.depth]
  omega
theorem ints_dpAll {K : PySem.W.Frag} {H : Hp} : ∀ l : List Int, DpAll K H (l.map V.int) (l.map PyData.int)
  | [] => .nil
  | z :: r => .cons (.int z) (ints_dpAll r)
theorem ints_none (l : List Int) : PyData.eqv (intsD l) (intsD []) = decide (l = []) := by
  cases l with
  | nil => rw [decide_eq_true rfl]; exact SeqAt.eqv_refl _ (by unfold intsD; simp only [PyData.canLay0]; exact ints_can [])
  | cons x r =>
    rw [decide_eq_false (List.cons_ne_nil _ _)]
    unfold intsD
    simp [PyData.eqv, PyData.eqvAll]
end HSP
namespace HSP
open PySem PySem.Spec PyProof.Rows L2
/-! ## how data are shown: lengths -/
theorem piled_le (c : Nat) : ∀ ds : List PyData, (∀ d, d ∈ ds → d.shown.length ≤ c) → piled (PyData.shownAll ds) ≤ ds.length * (c + 2)
  | [], _ => by simp [PyData.shownAll, piled_nil]
  | d :: ds, h => by
    have ih := piled_le c ds fun e he => h e (List.mem_cons_of_mem _ he)
    have h1 := h d List.mem_cons_self
    have e : PyData.shownAll (d :: ds) = d.shown :: PyData.shownAll ds := by simp [PyData.shownAll]
    rw [e, piled_cons, List.length_cons, Nat.add_mul]
    omega
theorem listText_le : ∀ ts : List Str, (listText ts).length ≤ piled ts + 2
  | [] => by decide +kernel
  | t :: r => by
    have e : listText (t :: r) = textFrom 1 (("[" : Str) ++ (if 0 > 0 then ", " else "" : String) ++ t) r ++ "]" := rfl
    rw [e, strLen_append, textFrom_length_pos _ _ _ (by decide), strLen_append, strLen_append, piled_cons]
    have e1 : (("[" : String) : Str).length = 1 := rfl
    have e2 : (("]" : String) : Str).length = 1 := rfl
    have e3 : ((if 0 > 0 then ", " else "" : String) : Str).length = 0 := rfl
    omega
theorem tupleText_le (ts : List Str) : (tupleText ts).length ≤ piled ts + 3 := by
  unfold tupleText
  rw [strLen_append, strLen_append]
  have e1 : (("(" : String) : Str).length = 1 := rfl
  have e2 : ((if ts.length == 1 then ",)" else ")" : String) : Str).length ≤ 2 := by
    split <;> decide +kernel
  have e3 : (Str.join ", " ts).length ≤ piled ts := by
    by_cases c : ts = []
    · rw [c]
      decide +kernel
    · have := join_length_add ts c
      omega
  omega
theorem shown_list_le (c : Nat) (ds : List PyData) (h : ∀ d, d ∈ ds → d.shown.length ≤ c) : (PyData.list ds).shown.length ≤ ds.length * (c + 2) + 2 := by
  have e : (PyData.list ds).shown = listText (PyData.shownAll ds) := by simp only [PyData.shown]
  rw [e]
  have h1 := listText_le (PyData.shownAll ds)
  have h2 := piled_le c ds h
  omega
/-! ### trees as data -/
def treeD : Tr → PyData
  | .nil => .none
  | .nod l r => .tuple [treeD l, treeD r]
theorem treeD_len : ∀ t : Tr, (treeD t).shown.length ≤ 11 * t.size + 4
  | .nil => by
    show (PyData.none).shown.length ≤ _
    simp only [PyData.shown]
    decide +kernel
  | .nod l r => by
    have h1 := treeD_len l
    have h2 := treeD_len r
    have e : (treeD (.nod l r)).shown = tupleText [(treeD l).shown, (treeD r).shown] := by
      show (PyData.tuple [treeD l, treeD r]).shown = _
      simp only [PyData.shown, PyData.shownAll]
    have z : (Tr.nod l r).size = l.size + 1 + r.size := rfl
    have h3 := tupleText_le [(treeD l).shown, (treeD r).shown]
    rw [piled_cons, piled_cons, piled_nil] at h3
    rw [e, z]
    omega
theorem treeD_show : ∀ t : Tr, (treeD t).showable = true
  | .nil => by simp only [treeD, PyData.showable]
  | .nod l r => by simp only [treeD, PyData.showable, PyData.showableAll, treeD_show l, treeD_show r, Bool.and_self]
theorem treeD_dict : ∀ t : Tr, (treeD t).hasDict = false
  | .nil => by simp only [treeD, PyData.hasDict]
  | .nod l r => by simp only [treeD, PyData.hasDict, PyData.hasDictAll, treeD_dict l, treeD_dict r, Bool.or_self]
theorem treeD_deep : ∀ t : Tr, (treeD t).depth ≤ t.ht
  | .nil => by simp only [treeD, PyData.depth]; exact Nat.zero_le _
  | .nod l r => by
    have h1 := treeD_deep l
    have h2 := treeD_deep r
    have e : (Tr.nod l r).ht = max l.ht r.ht + 1 := rfl
    simp only [treeD, PyData.depth, PyData.depthAll]
    omega
theorem TrAt.dp {K : PySem.W.Frag} {H : Hp} {v : V} {t : Tr} (h : TrAt H v t) : Dp K H v (treeD t) := by
  induction h with
  | nil => exact .non
  | nod eb _ _ ih1 ih2 => exact .tup (.of eb) (.cons ih1 (.cons ih2 .nil))
/-! ### lists of numbers -/
theorem ints_show : ∀ l : List Int, (∀ v, v ∈ l → v.natAbs.log2 < 1920) → PyData.showableAll (l.map PyData.int) = true
  | [], _ => by simp [PyData.showableAll]
  | z :: r, h => by
    have ih := ints_show r fun v hv => h v (List.mem_cons_of_mem _ hv)
    have h1 := h z List.mem_cons_self
    simp only [List.map_cons, PyData.showableAll, PyData.showable, ih, decide_eq_true h1, Bool.and_self]
theorem ints_dict : ∀ l : List Int, PyData.hasDictAll (l.map PyData.int) = false
  | [] => by simp [PyData.hasDictAll]
  | z :: r => by simp only [List.map_cons, PyData.hasDictAll, PyData.hasDict, ints_dict r, Bool.or_self]
theorem int_len {z : Int} (h : z.natAbs < 10 ^ 30) : (PyData.int z).shown.length ≤ 31 := by
  simp only [PyData.shown]
  rw [show (Str.ofString (toString z)).length = (toString z).length from PySem.ofString_length _]
  exact int_text_length_le10 (k := 30) (by decide) h
theorem int_log {z : Int} (h : z.natAbs < 10 ^ 30) : z.natAbs.log2 < 1920 := by
  by_cases c : z.natAbs = 0
  · rw [c]
    decide
  · exact (Nat.log2_lt c).mpr (Nat.lt_of_lt_of_le h (by decide +kernel))
/-- what repr and == ask of data -/
structure Fine (d : PyData) : Prop where
  show_ : d.showable = true
  dict : d.hasDict = false
  deep : d.depth ≤ 60
  len : d.shown.length ≤ sizeLine
/-- numbers that are not too great -/
def Tame (l : List Int) : Prop := ∀ v, v ∈ l → v.natAbs < 10 ^ 30
theorem intsD_len {l : List Int} (h : Tame l) : (intsD l).shown.length ≤ l.length * 33 + 2 := by
  have := shown_list_le 31 (l.map PyData.int) fun d hd => by
    obtain ⟨v, hv, rfl⟩ := List.mem_map.mp hd
    exact int_len (h v hv)
  rw [List.length_map] at this
  exact this
theorem ints_fine {l : List Int} (h : Tame l) (n : l.length ≤ 1000) : Fine (intsD l) := by
  have h1 := intsD_len h
  have h2 := ints_deep l
  refine ⟨?_, ?_, ?_, ?_⟩
  · unfold intsD
    simp only [PyData.showable]
    exact ints_show l fun v hv => int_log (h v hv)
  · unfold intsD
    simp only [PyData.hasDict]
    exact ints_dict l
  · unfold intsD
    simp only [PyData.depth]
    omega
  · have : sizeLine = 16777216 := rfl
    omega
/-- [d, e] -/
theorem pair_fine {d e : PyData} (hd : Fine d) (he : Fine e) (h1 : d.depth ≤ 59) (h2 : e.depth ≤ 59) (c : Nat) (l1 : d.shown.length ≤ c) (l2 : e.shown.length ≤ c) (hc : c ≤ 100000) : Fine (.list [d, e]) := by
  refine ⟨?_, ?_, ?_, ?_⟩
  · simp only [PyData.showable, PyData.showableAll, hd.show_, he.show_, Bool.and_self]
  · simp only [PyData.hasDict, PyData.hasDictAll, hd.dict, he.dict, Bool.or_self]
  · simp only [PyData.depth, PyData.depthAll]
    omega
  · have := shown_list_le c [d, e] fun x hx => by
      rcases List.mem_cons.mp hx with z | z
      · rw [z]; exact l1
      · rw [List.mem_singleton.mp z]; exact l2
    have e1 : [d, e].length = 2 := rfl
    rw [e1] at this
    have : sizeLine = 16777216 := rfl
    omega
theorem tree_fine {t : Tr} (h : t.size ≤ 100) (d : t.ht ≤ 40) : Fine (treeD t) := by
  have h1 := treeD_len t
  have h2 := treeD_deep t
  have : sizeLine = 16777216 := rfl
  exact ⟨treeD_show t, treeD_dict t, by omega, by omega⟩
/-- [tree, values] -/
def argsD (t : Tr) (ns : List Int) : PyData := .list [treeD t, intsD ns]
theorem args_fine {t : Tr} {ns : List Int} (h : t.size ≤ 20) (n : ns.length ≤ 20) (hn : Tame ns) : Fine (argsD t ns) := by
  have h1 := treeD_len t
  have h2 := treeD_deep t
  have h3 := t.ht_le
  have h4 := intsD_len hn
  have h5 : (intsD ns).depth ≤ 2 := by
    have := ints_deep ns
    unfold intsD
    simp only [PyData.depth]
    omega
  exact pair_fine (tree_fine (by omega) (by omega)) (ints_fine hn (by omega)) (by omega) (by omega) 1000 (by omega) (by omega) (by decide)
/-- numbers that the law may make of those drawn -/
def Mid (ns : List Int) : Prop := ∀ v, v ∈ ns → -10000000000000000000000 < v ∧ v < 10000000000000000000000
theorem Mid.tame {ns : List Int} (h : Mid ns) : Tame ns := fun v hv => by
  have := h v hv
  have e : (10 : Nat) ^ 30 = 1000000000000000000000000000000 := by decide +kernel
  rw [e]
  omega
theorem Mid.nil : Mid [] := fun _ h => by cases h
theorem Mid.snoc {ns : List Int} {v : Int} (h : Mid ns) (h1 : -10000000000000000000000 < v ∧ v < 10000000000000000000000) : Mid (ns ++ [v]) := fun x hx => by
  rcases List.mem_append.mp hx with z | z
  · exact h x z
  · rw [List.mem_singleton.mp z]
    exact h1
theorem Mid.set {ns : List Int} {v : Int} {i : Nat} (h : Mid ns) (h1 : -10000000000000000000000 < v ∧ v < 10000000000000000000000) : Mid (ns.set i v) := fun x hx => by
  rcases List.mem_or_eq_of_mem_set hx with z | z
  · exact h x z
  · rw [z]
    exact h1
theorem ints_can0 (l : List Int) : PyData.canLay0 (intsD l) = true := by
  unfold intsD
  simp only [PyData.canLay0]
  exact ints_can l
theorem args_dp {K : PySem.W.Frag} {H : Hp} {a b : Addr} {v : V} {t : Tr} {ns : List Int} (ha : H a = some (.lst [v, .ref b])) (hv : TrAt H v t) (hb : H b = some (.lst (ns.map V.int))) : Dp K H (.ref a) (argsD t ns) :=
  .lst (.of ha) (.cons hv.dp (.cons (.lst (.of hb) (ints_dpAll ns)) .nil))
end HSP
namespace HSP
open PySem PySem.Spec PyProof.Rows L2
/-! ### tuples of None, numbers and short texts as data -/
def vD : V → PyData
  | .bl b => .bool b
  | .int i => .int i
  | .str x => .str x
  | _ => .none
/-- what may stand in such a tuple -/
def Plain : V → Prop
  | .non => True
  | .int i => i.natAbs < 10 ^ 30
  | .str x => PyData.strOk x = true ∧ (reprText x).length ≤ 31
  | _ => False
theorem Plain.dp {K : PySem.W.Frag} {H : Hp} {v : V} (h : Plain v) : Dp K H v (vD v) := by
  cases v with
  | non => exact .non
  | int i => exact .int i
  | str x => exact .str x
  | _ => exact h.elim
theorem Plain.len {v : V} (h : Plain v) : (vD v).shown.length ≤ 31 := by
  cases v with
  | non => simp only [vD, PyData.shown]; decide +kernel
  | int i => exact int_len h
  | str x => simp only [vD, PyData.shown]; exact h.2
  | _ => exact h.elim
theorem Plain.can {v : V} (h : Plain v) : PyData.canLay0 (vD v) = true := by
  cases v with
  | non => simp only [vD, PyData.canLay0]
  | int i => simp only [vD, PyData.canLay0]
  | str x => simp only [vD, PyData.canLay0]; exact h.1
  | _ => exact h.elim
theorem Plain.show_ {v : V} (h : Plain v) : (vD v).showable = true := by
  cases v with
  | non => simp only [vD, PyData.showable]
  | int i => simp only [vD, PyData.showable]; exact decide_eq_true (int_log h)
  | str x => simp only [vD, PyData.showable]
  | _ => exact h.elim
theorem vD_dict (v : V) : (vD v).hasDict = false := by
  cases v <;> simp only [vD, PyData.hasDict]
theorem vD_deep (v : V) : (vD v).depth = 0 := by
  cases v <;> simp only [vD, PyData.depth]
def Plains (xs : List V) : Prop := ∀ v, v ∈ xs → Plain v
theorem plains_dp {K : PySem.W.Frag} {H : Hp} : ∀ xs : List V, Plains xs → DpAll K H xs (xs.map vD)
  | [], _ => .nil
  | x :: r, h => .cons (h x List.mem_cons_self).dp (plains_dp r fun v hv => h v (List.mem_cons_of_mem _ hv))
theorem plains_can : ∀ xs : List V, Plains xs → PyData.canLayAll0 (xs.map vD) = true
  | [], _ => by simp [PyData.canLayAll0]
  | x :: r, h => by
    have ih := plains_can r fun v hv => h v (List.mem_cons_of_mem _ hv)
    have h1 := (h x List.mem_cons_self).can
    simp only [List.map_cons, PyData.canLayAll0, h1, ih, Bool.and_self]
theorem plains_show : ∀ xs : List V, Plains xs → PyData.showableAll (xs.map vD) = true
  | [], _ => by simp [PyData.showableAll]
  | x :: r, h => by
    have ih := plains_show r fun v hv => h v (List.mem_cons_of_mem _ hv)
    have h1 := (h x List.mem_cons_self).show_
    simp only [List.map_cons, PyData.showableAll, h1, ih, Bool.and_self]
theorem plains_dict : ∀ xs : List V, PyData.hasDictAll (xs.map vD) = false
  | [] => by simp [PyData.hasDictAll]
  | x :: r => by simp only [List.map_cons, PyData.hasDictAll, vD_dict, plains_dict r, Bool.or_self]
theorem plains_deep : ∀ xs : List V, PyData.depthAll (xs.map vD) ≤ 1
  | [] => by simp [PyData.depthAll]
  | x :: r => by
    have ih := plains_deep r
    have h1 := vD_deep x
    simp only [List.map_cons, PyData.depthAll]
    omega
/-- a tuple of such -/
def rowD (xs : List V) : PyData := .tuple (xs.map vD)
theorem shown_tuple_le (c : Nat) (ds : List PyData) (h : ∀ d, d ∈ ds → d.shown.length ≤ c) : (PyData.tuple ds).shown.length ≤ ds.length * (c + 2) + 3 := by
  have e : (PyData.tuple ds).shown = tupleText (PyData.shownAll ds) := by simp only [PyData.shown]
  rw [e]
  have h1 := tupleText_le (PyData.shownAll ds)
  have h2 := piled_le c ds h
  omega
theorem row_len {xs : List V} (h : Plains xs) (n : xs.length ≤ 5) : (rowD xs).shown.length ≤ 168 := by
  have := shown_tuple_le 31 (xs.map vD) fun d hd => by
    obtain ⟨v, hv, rfl⟩ := List.mem_map.mp hd
    exact (h v hv).len
  rw [List.length_map] at this
  show (PyData.tuple (xs.map vD)).shown.length ≤ 168
  omega
theorem row_can {xs : List V} (h : Plains xs) : PyData.canLay0 (rowD xs) = true := by
  unfold rowD
  simp only [PyData.canLay0]
  exact plains_can xs h
theorem row_show {xs : List V} (h : Plains xs) : (rowD xs).showable = true := by
  unfold rowD
  simp only [PyData.showable]
  exact plains_show xs h
theorem row_dict (xs : List V) : (rowD xs).hasDict = false := by
  unfold rowD
  simp only [PyData.hasDict]
  exact plains_dict xs
theorem row_deep (xs : List V) : (rowD xs).depth ≤ 2 := by
  have := plains_deep xs
  unfold rowD
  simp only [PyData.depth]
  omega
theorem row_dp {K : PySem.W.Frag} {H : Hp} {a : Addr} {xs : List V} (e : H a = some (.tup xs)) (h : Plains xs) : Dp K H (.ref a) (rowD xs) := .tup (.of e) (plains_dp xs h)
theorem row_fine {xs : List V} (h : Plains xs) (n : xs.length ≤ 5) : Fine (rowD xs) := by
  have h1 := row_len h n
  have h2 := row_deep xs
  have : sizeLine = 16777216 := rfl
  exact ⟨row_show h, row_dict xs, by omega, by omega⟩
theorem row_shaped {xs : List V} (h : Plains xs) : SeqAt.shaped (rowD xs) = true := by
  unfold SeqAt.shaped
  rw [Bool.and_eq_true]
  have := row_deep xs
  exact ⟨row_can h, decide_eq_true (by omega)⟩
theorem row_same {xs : List V} (h : Plains xs) : PyData.eqv (rowD xs) (rowD xs) = true := SeqAt.eqv_refl _ (row_can h)
/-- a list of such tuples -/
def rowsD (l : List (List V)) : PyData := .list (l.map rowD)
theorem rows_can : ∀ l : List (List V), (∀ xs, xs ∈ l → Plains xs) → PyData.canLayAll0 (l.map rowD) = true
  | [], _ => by simp [PyData.canLayAll0]
  | x :: r, h => by
    have ih := rows_can r fun v hv => h v (List.mem_cons_of_mem _ hv)
    have h1 := row_can (h x List.mem_cons_self)
    simp only [List.map_cons, PyData.canLayAll0, h1, ih, Bool.and_self]
theorem rows_show : ∀ l : List (List V), (∀ xs, xs ∈ l → Plains xs) → PyData.showableAll (l.map rowD) = true
  | [], _ => by simp [PyData.showableAll]
  | x :: r, h => by
    have ih := rows_show r fun v hv => h v (List.mem_cons_of_mem _ hv)
    have h1 := row_show (h x List.mem_cons_self)
    simp only [List.map_cons, PyData.showableAll, h1, ih, Bool.and_self]
theorem rows_dict : ∀ l : List (List V), PyData.hasDictAll (l.map rowD) = false
  | [] => by simp [PyData.hasDictAll]
  | x :: r => by simp only [List.map_cons, PyData.hasDictAll, row_dict, rows_dict r, Bool.or_self]
theorem rows_deep : ∀ l : List (List V), PyData.depthAll (l.map rowD) ≤ 3
  | [] => by simp [PyData.depthAll]
  | x :: r => by
    have ih := rows_deep r
    have h1 := row_deep x
    simp only [List.map_cons, PyData.depthAll]
    omega
theorem rows_dp {K : PySem.W.Frag} {H : Hp} {rs : List Addr} {l : List (List V)} (p : Paired (fun r xs => H r = some (.tup xs)) rs l) (h : ∀ xs, xs ∈ l → Plains xs) : DpAll K H (rs.map V.ref) (l.map rowD) := by
  induction p with
  | nil => exact .nil
  | cons e _ ih => exact .cons (row_dp e (h _ List.mem_cons_self)) (ih fun v hv => h v (List.mem_cons_of_mem _ hv))
theorem rowsD_dp {K : PySem.W.Frag} {H : Hp} {a : Addr} {rs : List Addr} {l : List (List V)} (e : H a = some (.lst (rs.map V.ref))) (p : Paired (fun r xs => H r = some (.tup xs)) rs l) (h : ∀ xs, xs ∈ l → Plains xs) : Dp K H (.ref a) (rowsD l) := .lst (.of e) (rows_dp p h)
theorem rows_fine {l : List (List V)} (h : ∀ xs, xs ∈ l → Plains xs) (n : ∀ xs, xs ∈ l → xs.length ≤ 5) (m : l.length ≤ 1000) : Fine (rowsD l) := by
  have h1 := shown_list_le 168 (l.map rowD) fun d hd => by
    obtain ⟨x, hx, rfl⟩ := List.mem_map.mp hd
    exact row_len (h x hx) (n x hx)
  rw [List.length_map] at h1
  have h2 := rows_deep l
  have : sizeLine = 16777216 := rfl
  refine ⟨?_, ?_, ?_, ?_⟩
  · unfold rowsD
    simp only [PyData.showable]
    exact rows_show l h
  · unfold rowsD
    simp only [PyData.hasDict]
    exact rows_dict l
  · unfold rowsD
    simp only [PyData.depth]
    omega
  · show (PyData.list (l.map rowD)).shown.length ≤ sizeLine
    omega
theorem rowsD_can {l : List (List V)} (h : ∀ xs, xs ∈ l → Plains xs) : PyData.canLay0 (rowsD l) = true := by
  unfold rowsD
  simp only [PyData.canLay0]
  exact rows_can l h
theorem rowsD_shaped {l : List (List V)} (h : ∀ xs, xs ∈ l → Plains xs) : SeqAt.shaped (rowsD l) = true := by
  unfold SeqAt.shaped
  rw [Bool.and_eq_true]
  refine ⟨rowsD_can h, decide_eq_true ?_⟩
  have := rows_deep l
  unfold rowsD
  simp only [PyData.depth]
  omega
theorem rowsD_same {l : List (List V)} (h : ∀ xs, xs ∈ l → Plains xs) : PyData.eqv (rowsD l) (rowsD l) = true := SeqAt.eqv_refl _ (rowsD_can h)
theorem plain_nat {i : Nat} (h : i < 1000000) : Plain (natV i) := by
  show ((i : Int)).natAbs < 10 ^ 30
  have e : (10 : Nat) ^ 30 = 1000000000000000000000000000000 := by decide +kernel
  rw [e]
  omega
theorem nats_ints (l : List Nat) : l.map natV = (l.map Int.ofNat).map V.int := by
  rw [List.map_map]
  rfl
theorem nats_tame {l : List Nat} (h : ∀ i, i ∈ l → i < 1000000) : Tame (l.map Int.ofNat) := fun z hz => by
  obtain ⟨i, hi, rfl⟩ := List.mem_map.mp hz
  have := h i hi
  have e : (10 : Nat) ^ 30 = 1000000000000000000000000000000 := by decide +kernel
  rw [e]
  show i < _
  omega
end HSP
namespace HSP
open PySem PySem.Spec PyProof.Rows L2
/-! ## how a search ended, as data -/
def endRow (r : Bool × Nat) : List V := [kindV r.1, natV r.2]
theorem endRow_plain {r : Bool × Nat} (h : r.2 < 1000000) : Plains (endRow r) := fun v hv => by
  have hv : v ∈ [kindV r.1, natV r.2] := hv
  simp only [List.mem_cons, List.not_mem_nil, or_false] at hv
  rcases hv with rfl | rfl
  · cases r.1
    · exact ⟨by decide +kernel, by decide +kernel⟩
    · exact ⟨by decide +kernel, by decide +kernel⟩
  · exact plain_nat h
theorem sEnd_le (g : Nat → Int) (tw : Int) (m : Md) : ∀ (t : Tr) (f : Nat), (sEnd g tw m t f).2 ≤ f + t.size
  | .nil, f => Nat.le_refl _
  | .nod l r, f => by
    have e : sEnd g tw m (.nod l r) f = match wayOf tw (g (f + l.size)) m with | .fin => (true, f + l.size) | .lft => sEnd g tw m l f | .rgt => sEnd g tw m r (f + l.size + 1) := rfl
    have z : (Tr.nod l r).size = l.size + 1 + r.size := rfl
    rw [e, z]
    cases wayOf tw (g (f + l.size)) m with
    | fin => show f + l.size ≤ _; omega
    | lft => have := sEnd_le g tw m l f; show (sEnd g tw m l f).2 ≤ _; omega
    | rgt => have := sEnd_le g tw m r (f + l.size + 1); show (sEnd g tw m r (f + l.size + 1)).2 ≤ _; omega
theorem end_eqv (r : Bool × Nat) (i : Nat) : PyData.eqv (rowD (endRow r)) (rowD [.str "found", natV i]) = decide (r = (true, i)) := by
  obtain ⟨b, n⟩ := r
  unfold rowD endRow
  simp only [List.map_cons, List.map_nil, PyData.eqv, PyData.eqvAll, Bool.and_true]
  cases b
  · have e1 : vD (kindV false) = .str "gap" := rfl
    have e2 : vD (V.str "found") = .str "found" := rfl
    rw [e1, e2, decide_eq_false (fun z => by cases z)]
    simp only [PyData.eqv]
    have e3 : (("gap" : Str) == ("found" : Str)) = false := by decide +kernel
    rw [e3, Bool.false_and]
  · have e1 : vD (kindV true) = .str "found" := rfl
    have e2 : vD (V.str "found") = .str "found" := rfl
    have e4 : vD (natV n) = .int (n : Int) := rfl
    have e5 : vD (natV i) = .int (i : Int) := rfl
    rw [e1, e2, e4, e5]
    simp only [PyData.eqv]
    have e3 : (("found" : Str) == ("found" : Str)) = true := by decide +kernel
    rw [e3, Bool.true_and]
    by_cases c : n = i
    · rw [c, decide_eq_true rfl]
      exact beq_self_eq_true _
    · rw [decide_eq_false (fun z => c (Prod.mk.inj z).2)]
      exact beq_eq_false_iff_ne.mpr (fun z => c (by omega))
end HSP
namespace HSP
open PySem PySem.Spec PyProof.Rows L2
/-! ## what hides an element, by the roots of all trees -/
def hides (g : Nat → Int) (i j : Nat) : Bool := (decide (j < i) && decide (g i ≤ g j)) || (decide (i < j) && decide (g j ≤ g i))
def hid (g : Nat → Int) (n i : Nat) : Option Nat := (List.range n).find? (hides g i)
theorem hid_some {g : Nat → Int} {n i j : Nat} (hj : j < n) (h : hides g i j = true) (no : ∀ k, k < j → hides g i k = false) : hid g n i = some j :=
  List.find?_range_eq_some.mpr ⟨h, List.mem_range.mpr hj, fun k hk => by rw [no k hk]; rfl⟩
theorem hid_none {g : Nat → Int} {n i : Nat} (no : ∀ k, k < n → hides g i k = false) : hid g n i = none :=
  List.find?_range_eq_none.mpr fun k hk => by rw [no k hk]; rfl
theorem size_nod' (l r : Tr) : (Tr.nod l r).size = l.size + 1 + r.size := rfl
theorem sEnd_at (g : Nat → Int) (tw : Int) : ∀ (t : Tr) (f j : Nat), sEnd g tw .fin t f = (true, j) → f ≤ j ∧ j < f + t.size
  | .nil, f, j, h => by cases h
  | .nod l r, f, j, h => by
    rw [sEnd_nod] at h
    rw [size_nod']
    cases w : wayOf tw (g (f + l.size)) .fin with
    | fin =>
      rw [w] at h
      have := (Prod.mk.inj h).2
      omega
    | lft =>
      rw [w] at h
      have := sEnd_at g tw l f j h
      omega
    | rgt =>
      rw [w] at h
      have := sEnd_at g tw r (f + l.size + 1) j h
      omega
theorem way_cases (tw v : Int) : (wayOf tw v .fin = .fin ∧ tw = 2 * v) ∨ (wayOf tw v .fin = .lft ∧ tw < 2 * v) ∨ (wayOf tw v .fin = .rgt ∧ 2 * v < tw) := by
  unfold wayOf
  by_cases c : tw = 2 * v
  · exact .inl ⟨by rw [if_pos c], c⟩
  · by_cases d : tw < 2 * v
    · exact .inr (.inl ⟨by rw [if_neg c, if_pos d], d⟩)
    · exact .inr (.inr ⟨by rw [if_neg c, if_neg d], by omega⟩)
/-- a tree of so many nodes -/
def comb : Nat → Tr
  | 0 => .nil
  | n + 1 => .nod .nil (comb n)
theorem comb_size : ∀ n, (comb n).size = n
  | 0 => rfl
  | n + 1 => by
    rw [comb, size_nod', comb_size n]
    show 0 + 1 + n = n + 1
    omega
def lsz : Tr → Nat
  | .nil => 0
  | .nod l _ => l.size
/-- the element is found under a tree -/
def hits (g : Nat → Int) (i : Nat) (t : Tr) : Bool := decide (sEnd g (2 * g i) .fin t 0 = (true, i))
theorem no_hit {g : Nat → Int} {i : Nat} {l r : Tr} (h : hides g i l.size = true) : hits g i (.nod l r) = false := by
  refine decide_eq_false fun e => ?_
  rw [sEnd_nod, Nat.zero_add] at e
  unfold hides at h
  rcases way_cases (2 * g i) (g l.size) with ⟨w, c⟩ | ⟨w, c⟩ | ⟨w, c⟩
  · rw [w] at e
    have e2 : l.size = i := (Prod.mk.inj e).2
    rw [e2] at h
    rw [decide_eq_false (show ¬ i < i by omega)] at h
    cases h
  · rw [w] at e
    have := sEnd_at _ _ _ _ _ e
    rw [decide_eq_false (show ¬ l.size < i by omega), decide_eq_false (show ¬ g l.size ≤ g i by omega), Bool.and_false] at h
    cases h
  · rw [w] at e
    have := sEnd_at _ _ _ _ _ e
    rw [decide_eq_false (show ¬ i < l.size by omega), decide_eq_false (show ¬ g i ≤ g l.size by omega), Bool.and_false] at h
    cases h
theorem way_fin (g : Int) : wayOf (2 * g) g .fin = .fin := by
  unfold wayOf
  rw [if_pos rfl]
theorem hit_any {g : Nat → Int} {i r n : Nat} (hi : i < n) (hr : r < n) (h : hides g i r = false) : ∃ t, t.size = n ∧ t ≠ .nil ∧ lsz t = r ∧ hits g i t = true := by
  unfold hides at h
  by_cases c : i = r
  · refine ⟨.nod (comb r) (comb (n - 1 - r)), by rw [size_nod', comb_size, comb_size]; omega, fun z => (by cases z), comb_size r, decide_eq_true ?_⟩
    rw [sEnd_nod, comb_size, Nat.zero_add, ← c, way_fin]
  by_cases d : i < r
  · rw [decide_eq_false (show ¬ r < i by omega), decide_eq_true d] at h
    have e : ¬ g r ≤ g i := of_decide_eq_false (by simpa using h)
    have s : (Tr.nod (comb i) (comb (r - 1 - i))).size = r := by rw [size_nod', comb_size, comb_size]; omega
    refine ⟨.nod (.nod (comb i) (comb (r - 1 - i))) (comb (n - 1 - r)), by rw [size_nod', s, comb_size]; omega, fun z => (by cases z), s, decide_eq_true ?_⟩
    have w : wayOf (2 * g i) (g r) .fin = .lft := by
      unfold wayOf
      rw [if_neg (by omega), if_pos (by omega)]
    rw [sEnd_nod, s, Nat.zero_add, w]
    show sEnd g (2 * g i) .fin (.nod (comb i) (comb (r - 1 - i))) 0 = _
    rw [sEnd_nod, comb_size, Nat.zero_add, way_fin]
  · rw [decide_eq_true (show r < i by omega), decide_eq_false (show ¬ i < r by omega)] at h
    have e : ¬ g i ≤ g r := of_decide_eq_false (by simpa using h)
    have s : (Tr.nod (comb (i - r - 1)) (comb (n - 1 - i))).size = n - 1 - r := by rw [size_nod', comb_size, comb_size]; omega
    refine ⟨.nod (comb r) (.nod (comb (i - r - 1)) (comb (n - 1 - i))), by rw [size_nod', s, comb_size]; omega, fun z => (by cases z), comb_size r, decide_eq_true ?_⟩
    have w : wayOf (2 * g i) (g r) .fin = .rgt := by
      unfold wayOf
      rw [if_neg (by omega), if_neg (by omega)]
    rw [sEnd_nod, comb_size, Nat.zero_add, w]
    show sEnd g (2 * g i) .fin (.nod (comb (i - r - 1)) (comb (n - 1 - i))) (r + 1) = _
    rw [sEnd_nod, comb_size, show r + 1 + (i - r - 1) = i by omega, way_fin]
def byRoots (g : Nat → Int) (ts : List Tr) (n i : Nat) : Option Nat := (List.range n).find? fun r => !((ts.filter fun t => lsz t == r).any (hits g i))
theorem find_same {α : Type} {p q : α → Bool} : ∀ {l : List α}, (∀ x, x ∈ l → p x = q x) → l.find? p = l.find? q
  | [], _ => rfl
  | x :: r, h => by
    rw [List.find?_cons, List.find?_cons, h x List.mem_cons_self, find_same fun y hy => h y (List.mem_cons_of_mem _ hy)]
theorem roots_hid {g : Nat → Int} {n i : Nat} (hi : i < n) : byRoots g (shapesOf n) n i = hid g n i := by
  refine find_same fun r hr => ?_
  have hr' := List.mem_range.mp hr
  cases h : hides g i r with
  | true =>
    rw [Bool.not_eq_true']
    refine List.any_eq_false.mpr fun t ht => ?_
    obtain ⟨h1, h2⟩ := List.mem_filter.mp ht
    have h3 : lsz t = r := eq_of_beq h2
    cases t with
    | nil =>
      have := shapes_size h1
      have e : Tr.nil.size = 0 := rfl
      omega
    | nod l r' =>
      have h4 : l.size = r := h3
      rw [no_hit (by rw [h4]; exact h)]
      exact Bool.false_ne_true
  | false =>
    rw [Bool.not_eq_false']
    obtain ⟨t, h1, h2, h3, h4⟩ := hit_any hi hr' h
    refine List.any_eq_true.mpr ⟨t, List.mem_filter.mpr ⟨?_, by rw [h3]; exact beq_self_eq_true _⟩, h4⟩
    rw [← h1]
    exact shapes_in t
theorem hit_all {g : Nat → Int} {i : Nat} : ∀ (t : Tr) (f : Nat), f ≤ i → i < f + t.size → (∀ j, f ≤ j → j < f + t.size → hides g i j = false) → sEnd g (2 * g i) .fin t f = (true, i)
  | .nil, f, h1, h2, _ => by
    have e : Tr.nil.size = 0 := rfl
    omega
  | .nod l r, f, h1, h2, h => by
    rw [size_nod'] at h2 h
    rw [sEnd_nod]
    have hk := h (f + l.size) (by omega) (by omega)
    unfold hides at hk
    rcases Nat.lt_trichotomy i (f + l.size) with c | c | c
    · rw [decide_eq_false (show ¬ f + l.size < i by omega), decide_eq_true c] at hk
      have e : ¬ g (f + l.size) ≤ g i := of_decide_eq_false (by simpa using hk)
      have w : wayOf (2 * g i) (g (f + l.size)) .fin = .lft := by
        unfold wayOf
        rw [if_neg (by omega), if_pos (by omega)]
      rw [w]
      exact hit_all l f h1 c fun j a b => h j a (by omega)
    · rw [← c, way_fin]
    · rw [decide_eq_true c, decide_eq_false (show ¬ i < f + l.size by omega)] at hk
      have e : ¬ g i ≤ g (f + l.size) := of_decide_eq_false (by simpa using hk)
      have w : wayOf (2 * g i) (g (f + l.size)) .fin = .rgt := by
        unfold wayOf
        rw [if_neg (by omega), if_neg (by omega)]
      rw [w]
      exact hit_all r (f + l.size + 1) (by omega) (by omega) fun j a b => h j (by omega) (by omega)
theorem every_hid {g : Nat → Int} {n i : Nat} (hi : i < n) : ((shapesOf n).filter fun t => !hits g i t).isEmpty = (hid g n i).isNone := by
  cases e : hid g n i with
  | none =>
    show _ = true
    rw [List.isEmpty_iff, List.filter_eq_nil_iff]
    intro t ht
    have no := List.find?_range_eq_none.mp e
    have sz := shapes_size ht
    have h : hits g i t = true := decide_eq_true (hit_all t 0 (Nat.zero_le _) (by omega) fun j _ hj => by simpa using no j (by omega))
    rw [h]
    exact Bool.false_ne_true
  | some r =>
    show _ = false
    obtain ⟨h1, h2, _⟩ := List.find?_range_eq_some.mp e
    have hr := List.mem_range.mp h2
    refine Bool.eq_false_iff.mpr fun z => ?_
    rw [List.isEmpty_iff, List.filter_eq_nil_iff] at z
    have s : (Tr.nod (comb r) (comb (n - 1 - r))).size = n := by rw [size_nod', comb_size, comb_size]; omega
    have mem := shapes_in (Tr.nod (comb r) (comb (n - 1 - r)))
    rw [s] at mem
    refine z _ mem ?_
    rw [no_hit (by rw [comb_size]; exact h1)]
    rfl
/-- by the values themselves -/
theorem head_hid {g : Nat → Int} {n i : Nat} (hi : i < n) :
    ((((List.range i).filter fun j => decide (g j ≥ g i)).map natV ++ ((List.range (n - (i + 1))).filter fun j => decide (g (i + 1 + j) ≤ g i)).map fun j => natV (i + 1 + j)) ++ [V.non])[0]? = some (optNV (hid g n i)) := by
  rw [← List.head?_eq_getElem?]
  cases e1 : (List.range i).find? (fun j => decide (g j ≥ g i)) with
  | some x =>
    have e1' := e1
    rw [← List.head?_filter] at e1'
    obtain ⟨h1, h2, h3⟩ := List.find?_range_eq_some.mp e1
    have hx := List.mem_range.mp h2
    rw [hid_some (j := x) (by omega) (by unfold hides; rw [decide_eq_true hx, h1]; rfl) (fun k hk => by
      have q := h3 k hk
      have q2 : decide (g k ≥ g i) = false := by simpa using q
      unfold hides
      rw [show decide (g i ≤ g k) = false from q2, decide_eq_false (show ¬ i < k by omega), Bool.and_false]
      rfl)]
    cases e2 : (List.range i).filter fun j => decide (g j ≥ g i) with
    | nil => rw [e2] at e1'; cases e1'
    | cons y r =>
      rw [e2] at e1'
      cases (show some y = some x from e1')
      rfl
  | none =>
    have no1 := List.find?_range_eq_none.mp e1
    have e2 : (List.range i).filter (fun j => decide (g j ≥ g i)) = [] := List.filter_eq_nil_iff.mpr fun k hk => by simpa using no1 k (List.mem_range.mp hk)
    rw [e2, List.map_nil, List.nil_append]
    have low : ∀ k, k ≤ i → hides g i k = false := fun k hk => by
      unfold hides
      rw [decide_eq_false (show ¬ i < k by omega)]
      by_cases c : k < i
      · have q : decide (g k ≥ g i) = false := by simpa using no1 k c
        rw [show decide (g i ≤ g k) = false from q, Bool.and_false]
        rfl
      · rw [decide_eq_false c]
        rfl
    cases e3 : (List.range (n - (i + 1))).find? (fun j => decide (g (i + 1 + j) ≤ g i)) with
    | some x =>
      have e3' := e3
      rw [← List.head?_filter] at e3'
      obtain ⟨h1, h2, h3⟩ := List.find?_range_eq_some.mp e3
      have hx := List.mem_range.mp h2
      rw [hid_some (j := i + 1 + x) (by omega) (by unfold hides; rw [h1, decide_eq_true (show i < i + 1 + x by omega), Bool.and_true, Bool.or_true]) (fun k hk => by
        by_cases c : k ≤ i
        · exact low k c
        · have q : decide (g (i + 1 + (k - (i + 1))) ≤ g i) = false := by simpa using h3 (k - (i + 1)) (by omega)
          rw [show i + 1 + (k - (i + 1)) = k by omega] at q
          unfold hides
          rw [q, decide_eq_false (show ¬ k < i by omega), Bool.and_false]
          rfl)]
      cases e4 : (List.range (n - (i + 1))).filter fun j => decide (g (i + 1 + j) ≤ g i) with
      | nil => rw [e4] at e3'; cases e3'
      | cons y r =>
        rw [e4] at e3'
        cases (show some y = some x from e3')
        rfl
    | none =>
      have no3 := List.find?_range_eq_none.mp e3
      have e4 : (List.range (n - (i + 1))).filter (fun j => decide (g (i + 1 + j) ≤ g i)) = [] := List.filter_eq_nil_iff.mpr fun k hk => by simpa using no3 k (List.mem_range.mp hk)
      rw [e4, hid_none (fun k hk => by
        by_cases c : k ≤ i
        · exact low k c
        · have q : decide (g (i + 1 + (k - (i + 1))) ≤ g i) = false := by simpa using no3 (k - (i + 1)) (by omega)
          rw [show i + 1 + (k - (i + 1)) = k by omega] at q
          unfold hides
          rw [q, decide_eq_false (show ¬ k < i by omega), Bool.and_false]
          rfl)]
      rfl
/-! ### lists of trees as data -/
theorem treeD_can : ∀ t : Tr, PyData.canLay0 (treeD t) = true
  | .nil => by simp only [treeD, PyData.canLay0]
  | .nod l r => by simp only [treeD, PyData.canLay0, PyData.canLayAll0, treeD_can l, treeD_can r, Bool.and_self]
def treesD (ts : List Tr) : PyData := .list (ts.map treeD)
theorem trees_can : ∀ l : List Tr, PyData.canLayAll0 (l.map treeD) = true
  | [] => by simp [PyData.canLayAll0]
  | x :: r => by
    have ih := trees_can r
    have h1 := treeD_can x
    simp only [List.map_cons, PyData.canLayAll0, h1, ih, Bool.and_self]
theorem trees_deep (c : Nat) : ∀ l : List Tr, (∀ t, t ∈ l → t.ht ≤ c) → PyData.depthAll (l.map treeD) ≤ c + 1
  | [], _ => by simp [PyData.depthAll]
  | x :: r, h => by
    have ih := trees_deep c r fun t ht => h t (List.mem_cons_of_mem _ ht)
    have h1 := treeD_deep x
    have h2 := h x List.mem_cons_self
    simp only [List.map_cons, PyData.depthAll]
    omega
theorem treesD_shaped {l : List Tr} (h : ∀ t, t ∈ l → t.ht ≤ 20) : SeqAt.shaped (treesD l) = true := by
  unfold SeqAt.shaped
  rw [Bool.and_eq_true]
  have h1 := trees_deep 20 l h
  refine ⟨?_, decide_eq_true ?_⟩
  · unfold treesD
    simp only [PyData.canLay0]
    exact trees_can l
  · unfold treesD
    simp only [PyData.depth]
    omega
theorem trees_dp {K : PySem.W.Frag} {H : Hp} {xs : List V} {ts : List Tr} (p : Paired (fun v t => TrAt H v t) xs ts) : DpAll K H xs (ts.map treeD) := by
  induction p with
  | nil => exact .nil
  | cons h _ ih => exact .cons h.dp ih
theorem trees_nil (ts : List Tr) : PyData.eqv (treesD ts) (treesD []) = ts.isEmpty := by
  cases ts with
  | nil => simp [treesD, PyData.eqv, PyData.eqvAll]
  | cons t r => simp [treesD, PyData.eqv, PyData.eqvAll]
/-- among how some searches ended -/
theorem ends_any (i : Nat) : ∀ rs : List (Bool × Nat), ((rs.map fun r => rowD (endRow r)).any fun z => PyData.eqv z (rowD [.str "found", natV i])) = rs.any fun r => decide (r = (true, i))
  | [] => rfl
  | r :: rs => by rw [List.map_cons, List.any_cons, List.any_cons, end_eqv, ends_any i rs]
end HSP
namespace HSP
open PySem PySem.Spec PyProof.Rows L2
/-! ## heaps: all but some places stay -/
def Stay (X : List Addr) (H H' : Hp) : Prop := ∀ b o, b ∉ X → H b = some o → H' b = some o
theorem Stay.refl (X : List Addr) (H : Hp) : Stay X H H := fun _ _ _ e => e
theorem Stay.trans {X : List Addr} {H H1 H2 : Hp} (a : Stay X H H1) (b : Stay X H1 H2) : Stay X H H2 := fun c o n e => b c o n (a c o n e)
theorem Stay.of {X : List Addr} {H H' : Hp} (s : Same H H') : Stay X H H' := fun b o _ e => s b o e
theorem Stay.new {X : List Addr} {H : Hp} {p : Addr} {o : HO} (h : H p = none) : Stay X H (upd H p o) := fun b u _ e => by
  rw [upd_ne (ne_of_none e h)]; exact e
theorem Stay.at {X : List Addr} {H : Hp} {p : Addr} {o : HO} (h : p ∈ X) : Stay X H (upd H p o) := fun b u n e => by
  rw [upd_ne (fun z : b = p => n (by rw [z]; exact h))]; exact e
theorem Stay.mono {X Y : List Addr} {H H' : Hp} (a : Stay X H H') (h : ∀ x, x ∈ X → x ∈ Y) : Stay Y H H' := fun b o n e => a b o (fun z => n (h b z)) e
theorem Stay.then {X : List Addr} {H H1 H2 : Hp} (a : Stay X H H1) (b : Same H1 H2) : Stay X H H2 := a.trans (.of b)
theorem Stay.anew {X : List Addr} {H H1 : Hp} {p : Addr} {o : HO} (a : Stay X H H1) (h : H1 p = none) : Stay X H (upd H1 p o) := a.trans (.new h)
theorem Stay.put {X : List Addr} {H H1 : Hp} {p : Addr} {o : HO} (a : Stay X H H1) (h : p ∈ X) : Stay X H (upd H1 p o) := a.trans (.at h)
theorem Stay.free {X : List Addr} {H H' : Hp} {b : Addr} (a : Stay X H H') (n : b ∉ X) (h : H' b = none) : H b = none := by
  cases e : H b with
  | none => rfl
  | some o => cases h.symm.trans (a b o n e)
/-- what was not tracked at first may be written -/
theorem Stay.same {X : List Addr} {H H1 H' : Hp} (s : Same H H1) (n : ∀ x, x ∈ X → H x = none) (k : Stay X H1 H') : Same H H' := fun b o e => k b o (fun z => by rw [n b z] at e; cases e) (s b o e)
theorem no2 {a b c : Addr} (h1 : a ≠ b) (h2 : a ≠ c) : a ∉ [b, c] := fun z => by
  rcases List.mem_cons.mp z with q | q
  · exact h1 q
  · exact h2 (List.mem_singleton.mp q)
theorem no1 {a b : Addr} (h1 : a ≠ b) : a ∉ [b] := fun z => h1 (List.mem_singleton.mp z)
theorem in2l {a b : Addr} : a ∈ [a, b] := List.mem_cons_self
theorem in2r {a b : Addr} : b ∈ [a, b] := List.mem_cons_of_mem _ List.mem_cons_self
theorem in1 {a : Addr} : a ∈ [a] := List.mem_cons_self
theorem tup_ne {H : Hp} {a b : Addr} {xs ys : List V} (h : H a = some (.tup xs)) (h2 : H b = some (.lst ys)) : a ≠ b := fun z => by
  rw [z, h2] at h; cases h
theorem TrAt.stay {X : List Addr} {H H' : Hp} {v : V} {t : Tr} (h : TrAt H v t) (k : Stay X H H') (n : ∀ x, x ∈ X → ∃ ys, H x = some (.lst ys)) : TrAt H' v t :=
  h.keep fun a x y e => k a _ (fun z => by
    obtain ⟨ys, q⟩ := n a z
    rw [q] at e
    cases e) e
theorem valAt_mem {ns : List Int} {i : Nat} (h : i < ns.length) : valAt ns i ∈ ns := by
  have e : valAt ns i = ns[i] := by
    unfold valAt
    rw [List.getD_eq_getElem?_getD, List.getElem?_eq_getElem h]
    rfl
  rw [e]
  exact List.getElem_mem h
theorem TrAt.put {H : Hp} {v : V} {t : Tr} {a : Addr} {xs : List V} {o : HO} (h : TrAt H v t) (e : H a = some (.lst xs)) : TrAt (upd H a o) v t := by
  refine h.keep fun b x y eb => ?_
  rw [upd_ne]
  · exact eb
  · intro z
    rw [z, e] at eb
    cases eb
theorem Keep.free {p q : Addr} {H H' : Hp} (k : Keep p H H') (n : q ≠ p) (h : H' q = none) : H q = none := by
  cases e : H q with
  | none => rfl
  | some o => cases h.symm.trans (k q o n e)
theorem Paired.getL {α β : Type} {R : α → β → Prop} : ∀ {l : List α} {m : List β} {i : Nat} {x : α}, Paired R l m → l[i]? = some x → ∃ y, m[i]? = some y ∧ R x y
  | _, _, i, _, .nil, e => by simp at e
  | _, _, 0, _, .cons h _, e => by
    cases Option.some.inj (show some _ = some _ from e)
    exact ⟨_, rfl, h⟩
  | _, _, i + 1, _, .cons _ t, e => Paired.getL (i := i) t e
end HSP
namespace HSP
open PySem PySem.Spec PyProof.Rows L2
section
variable {P : Program} {w : World} {K : PySem.W.Frag} {mg : Str → Option Value} {base : Heap}
/-! ### _law_all_shapes -/
/-- a list of trees -/
def TreesAt (H : Hp) (q : Addr) (ts : List Tr) : Prop := ∃ xs : List V, H q = some (.lst xs) ∧ Paired (fun v t => TrAt H v t) xs ts
theorem TreesAt.same {H H' : Hp} {q : Addr} {ts : List Tr} (h : TreesAt H q ts) (s : Same H H') : TreesAt H' q ts := by
  obtain ⟨xs, e, p⟩ := h
  exact ⟨xs, s _ _ e, Paired.mapP p fun v t h => h.same s⟩
def spShapes (n : Nat) : Sp := fun vs H Q _ => ∃ m : Nat, vs = [natV m] ∧ m < n ∧ m < 6 ∧ ∀ (H' : Hp) (q : Addr), Same H H' → H q = none → TreesAt H' q (shapesOf m) → Q (.ref q) H'
end
end HSP
namespace HSP
open PySem PySem.Spec PyProof.Rows L2
section
variable {P : Program} {w : World} {K : PySem.W.Frag} {mg : Str → Option Value} {base : Heap}
/-! ### _law_ended -/
def spEnded (n : Nat) : Sp := fun vs H Q _ => ∃ (v : V) (t : Tr) (a : Addr) (ns : List Int) (tw : Int), vs = [v, .ref a, .int tw] ∧ TrAt H v t ∧ t.ht < n ∧ H a = some (.lst (ns.map V.int)) ∧ ns.length = t.size ∧
  ∀ (H' : Hp) (r : Addr), Same H H' → H r = none → H' r = some (.tup (endRow (sEnd (valAt ns) tw .fin t 0))) → Q (.ref r) H'
end
end HSP
namespace HSP
open PySem PySem.Spec PyProof.Rows L2
/-! ## what a call raises for bad arguments -/
section
variable {K : PySem.W.Frag} {H : Hp}
theorem tr_th {v : V} {t : Tr} (h : TrAt H v t) : ∃ u : Th, ThAt K H v u ∧ u.good = true ∧ u.size = t.size := by
  induction h with
  | nil => exact ⟨.nil, .nil, rfl, rfl⟩
  | nod e _ _ i1 i2 =>
    obtain ⟨u1, h1, g1, z1⟩ := i1
    obtain ⟨u2, h2, g2, z2⟩ := i2
    refine ⟨.nod u1 u2, .nod e h1 h2, ?_, ?_⟩
    · show (u1.good && u2.good) = true
      rw [g1, g2]
      rfl
    · show u1.size + 1 + u2.size = _
      rw [z1, z2]
      rfl
theorem whole_int {i : Int} : WholeV K H (.int i) true := ⟨.type "int", true, false, .base (.int i), kit_ty (by decide +kernel), kit_ty (by decide +kernel), rfl⟩
theorem whole_ints {ns : List Int} {n : Nat} : ∀ i x, i < n → (ns.map V.int)[i]? = some x → WholeV K H x true := fun i x _ h => by
  rw [List.getElem?_map] at h
  obtain ⟨z, _, rfl⟩ := Option.map_eq_some_iff.mp h
  exact whole_int
theorem not_none {n : Nat} : NotVals K H .non n := .inl ⟨.type "NoneType", .base .non, kit_ty (by decide +kernel)⟩
theorem not_long {a : Addr} {xs : List V} {n : Nat} (e : H a = some (.lst xs)) (ne : xs.length ≠ n) : NotVals K H (.ref a) n := .inr ⟨a, xs, rfl, e, ne⟩
/-- the values are wrong as a whole -/
theorem vals_none {C1 C2 : Addr} {v y : V} {t : Tr} {Q : VK} {E : XK} (h : TrAt H v t) (z : t.size ≤ 1000) (n : NotVals K H y t.size) (e : EN C2 E H .non) : spChkVX K C1 C2 [v, y] H Q E := by
  obtain ⟨u, hu, gu, zu⟩ := tr_th (K := K) h
  exact ⟨v, y, u, rfl, hu, by omega, .inr (.inl ⟨gu, by rw [zu]; exact n, e⟩)⟩
/-- the tree is none -/
theorem vals_tree {C1 C2 : Addr} {v y : V} {Q : VK} {E : XK} (b : BadV K H v) (e : ∀ H', Same H H' → E (.ref C1) none H') : spChkVX K C1 C2 [v, y] H Q E :=
  ⟨v, y, .bad, rfl, .bad b, Nat.zero_le _, .inl ⟨rfl, e⟩⟩
/-- good values -/
theorem vals_good {C1 C2 : Addr} {v : V} {a : Addr} {ns : List Int} {t : Tr} {Q : VK} {E : XK} (h : TrAt H v t) (z : t.size ≤ 1000) (ea : H a = some (.lst (ns.map V.int))) (hn : ns.length = t.size) (q : ∀ H', Same H H' → Q .non H') : spChkVX K C1 C2 [v, .ref a] H Q E := by
  obtain ⟨u, hu, gu, zu⟩ := tr_th (K := K) h
  exact ⟨v, .ref a, u, rfl, hu, by omega, .inr (.inr ⟨gu, a, ns.map V.int, (ns.map V.int).length, rfl, ea, by rw [List.length_map]; omega, whole_ints, .inl ⟨rfl, q⟩⟩)⟩
/-- the first wrong item -/
theorem vals_node {C1 C2 : Addr} {v x : V} {a : Addr} {ns : List Int} {r : List V} {t : Tr} {Q : VK} {E : XK} (h : TrAt H v t) (z : t.size ≤ 1000) (ea : H a = some (.lst (ns.map V.int ++ x :: r))) (hn : ns.length + 1 + r.length = t.size) (wx : WholeV K H x false) (e : EN C2 E H (natV ns.length)) : spChkVX K C1 C2 [v, .ref a] H Q E := by
  obtain ⟨u, hu, gu, zu⟩ := tr_th (K := K) h
  refine ⟨v, .ref a, u, rfl, hu, by omega, .inr (.inr ⟨gu, a, _, ns.length, rfl, ea, by rw [List.length_append, List.length_map, List.length_cons]; omega, fun i y hi hy => ?_, .inr ⟨x, ?_, wx, e⟩⟩)⟩
  · rw [List.getElem?_append_left (by rw [List.length_map]; exact hi)] at hy
    exact whole_ints (n := ns.length) i y hi hy
  · rw [List.getElem?_append_right (by rw [List.length_map]; exact Nat.le_refl _), List.length_map, Nat.sub_self]
    rfl
theorem whole_bool {b : Bool} : WholeV K H (.bl b) false := ⟨.type "bool", true, true, .base (.bl b), kit_ty (by decide +kernel), kit_ty (by decide +kernel), rfl⟩
/-- a tuple of one -/
theorem bad_tup {a : Addr} {xs : List V} (e : H a = some (.tup xs)) (ne : xs.length ≠ 2) : BadV K H (.ref a) := ⟨fun z => (by cases z), .inr ⟨a, xs, rfl, e, ne⟩⟩
theorem e_tree {C1 : Addr} : ∀ H', Same H H' → ETree C1 H (.ref C1) none H' := fun _ s => ⟨rfl, rfl, s⟩
theorem e_node {C2 : Addr} {v : V} : EN C2 (ENode C2 H v) H v := fun _ dd s e => ⟨rfl, dd, rfl, e, s⟩
theorem e_node2 {C2 : Addr} {v : V} {H1 : Hp} (s1 : Same H H1) : EN C2 (ENode C2 H v) H1 v := fun _ dd s e => ⟨rfl, dd, rfl, e, s1.trans s⟩
end
end HSP
namespace HSP
open PySem PySem.Spec PyProof.Rows L2
/-! ## data in which empty dicts may stand, and their repr -/
mutual
inductive DpE (K : PySem.W.Frag) (H : Hp) : V → PyData → Prop
  | non' : DpE K H .non .none
  | bl' (b : Bool) : DpE K H (.bl b) (.bool b)
  | int' (i : Int) : DpE K H (.int i) (.int i)
  | str' (x : Str) : DpE K H (.str x) (.str x)
  | emp {p : Addr} : H p = some (.dK []) → DpE K H (.ref p) (.dict [])
  | lst' {p : Addr} {ys : List V} {es : List PyData} : SqL K H p ys → DpEs K H ys es → DpE K H (.ref p) (.list es)
  | tup' {p : Addr} {ys : List V} {es : List PyData} : SqT K H p ys → DpEs K H ys es → DpE K H (.ref p) (.tuple es)
inductive DpEs (K : PySem.W.Frag) (H : Hp) : List V → List PyData → Prop
  | nil' : DpEs K H [] []
  | cons' {y : V} {ys : List V} {e : PyData} {es : List PyData} : DpE K H y e → DpEs K H ys es → DpEs K H (y :: ys) (e :: es)
end
mutual
theorem DpE.of {K : PySem.W.Frag} {H : Hp} : ∀ (d : PyData) (v : V), Dp K H v d → DpE K H v d
  | .none, _, h => by cases h; exact .non'
  | .bool b, _, h => by cases h; exact .bl' b
  | .int i, _, h => by cases h; exact .int' i
  | .str x, _, h => by cases h; exact .str' x
  | .list ds, _, h => by
    cases h with
    | lst a b => exact .lst' a (DpEs.of ds _ b)
  | .tuple ds, _, h => by
    cases h with
    | tup a b => exact .tup' a (DpEs.of ds _ b)
  | .dict _, _, h => by cases h
theorem DpEs.of {K : PySem.W.Frag} {H : Hp} : ∀ (ds : List PyData) (vs : List V), DpAll K H vs ds → DpEs K H vs ds
  | [], _, h => by cases h; exact .nil'
  | d :: ds, _, h => by
    cases h with
    | cons a b => exact .cons' (DpE.of d _ a) (DpEs.of ds _ b)
end
theorem seqT_same {K : PySem.W.Frag} {H H' : Hp} {a : Addr} {xs : List V} (e : Same H H') (h : SqT K H a xs) : SqT K H' a xs := by
  rcases h with (h | ⟨o, h⟩) | h
  · exact .inl (.inl (e _ _ h))
  · exact .inl (.inr ⟨o, e _ _ h⟩)
  · exact .inr h
mutual
theorem DpE.same {K : PySem.W.Frag} {H H' : Hp} (s : Same H H') : ∀ (d : PyData) (v : V), DpE K H v d → DpE K H' v d
  | .none, _, h => by cases h; exact .non'
  | .bool b, _, h => by cases h; exact .bl' b
  | .int i, _, h => by cases h; exact .int' i
  | .str x, _, h => by cases h; exact .str' x
  | .list ds, _, h => by
    cases h with
    | lst' a b => exact .lst' (Same.seq s a) (DpEs.same s ds _ b)
  | .tuple ds, _, h => by
    cases h with
    | tup' a b => exact .tup' (seqT_same s a) (DpEs.same s ds _ b)
  | .dict [], _, h => by
    cases h with
    | emp e => exact .emp (s _ _ e)
  | .dict (_ :: _), _, h => by cases h
theorem DpEs.same {K : PySem.W.Frag} {H H' : Hp} (s : Same H H') : ∀ (ds : List PyData) (vs : List V), DpEs K H vs ds → DpEs K H' vs ds
  | [], _, h => by cases h; exact .nil'
  | d :: ds, _, h => by
    cases h with
    | cons' a b => exact .cons' (DpE.same s d _ a) (DpEs.same s ds _ b)
end
section
variable {X : Cx} {pins : List (Addr × Obj)} {σ : L2.St} {H : Hp} {s : Shared}
theorem no_pairs {P : Program} {w : World} {h : Heap} {p : Addr} {H : Hp} (x : ObjOk P w H h p (.dK [])) : (p == sysModules) = false ∧ ∃ o n, h.get? p = some o ∧ o.cls = .type "dict" ∧ o.data = .dict #[] n := by
  obtain ⟨_, sy, us, kv, o, es, ep, ho, ex, hd, _, ps, _⟩ := x
  cases kv
  obtain ⟨l⟩ := es
  cases l with
  | cons e r => cases ps
  | nil => exact ⟨sy, o, ep, ho, ex.1, hd⟩
mutual
theorem DpE.shows (I : Inv X pins σ H s) : ∀ (d : PyData) (v : V) (u : Value), DpE X.K H v d → RelV v u → d.showable = true → d.shown.length ≤ sizeLine → (∃ as, Reads s.heap u d as) ∧ ∃ bs, ReadAtMost s.heap d.depth bs ∧ ReprK X.prog X.w bs s.heap d.depth u d.shown
  | .none, _, _, h, r, g, z => by
    cases h
    cases r
    exact ⟨⟨_, .none⟩, ReprK.of_reads .none g (fun q => by simp [PyData.hasDict] at q) z⟩
  | .bool b, _, _, h, r, g, z => by
    cases h
    cases r
    exact ⟨⟨_, .bool b⟩, ReprK.of_reads (.bool b) g (fun q => by simp [PyData.hasDict] at q) z⟩
  | .int i, _, _, h, r, g, z => by
    cases h
    obtain ⟨k, rfl⟩ := r
    exact ⟨⟨_, .int i k⟩, ReprK.of_reads (.int i k) g (fun q => by simp [PyData.hasDict] at q) z⟩
  | .str x, _, _, h, r, g, z => by
    cases h
    obtain ⟨k, rfl⟩ := r
    exact ⟨⟨_, .str x k⟩, ReprK.of_reads (.str x k) g (fun q => by simp [PyData.hasDict] at q) z⟩
  | .dict [], _, _, h, r, _, _ => by
    cases h with
    | emp e =>
      cases r
      obtain ⟨sy, o, n, ho, hc, hd⟩ := no_pairs (I.hok _ _ e)
      have rd : ∃ as, Reads s.heap (.ref _) (.dict []) as := ⟨_, .dict ho hc hd .nil .nil⟩
      obtain ⟨as, rd⟩ := rd
      refine ⟨⟨as, rd⟩, [_], fun b hb => ⟨_, as, by rw [List.mem_singleton.mp hb]; exact rd, Nat.le_refl _⟩, ?_⟩
      have k := ReprK.dict (prog := X.prog) (w := X.w) (as := []) (h₀ := s.heap) (d := 0) ho hc hd sy (by simp) .nil
      simpa [PyData.depth, PyData.depthKv, PyData.shown, PyData.shownKv] using k
  | .dict (_ :: _), _, _, h, _, _, _ => by cases h
  | .list ds, _, _, h, r, g, z => by
    cases h with
    | lst' hs ha =>
      cases r
      obtain ⟨its, rv, ⟨o, n, ho, hc, _, hd⟩, _⟩ := I.list hs
      have z1 : (listText (PyData.shownAll ds)).length ≤ sizeLine := by simpa only [PyData.shown] using z
      obtain ⟨⟨as, hr⟩, bs, hb, hk⟩ := DpEs.shows I ds _ its ha rv (by simpa [PyData.showable] using g) fun t ht => Nat.le_trans (listText_mem_le ht) z1
      have rd := Reads.list ho hc hd hr
      refine ⟨⟨_, rd⟩, _ :: bs, ReadAtMost.cons rd (by simp only [PyData.depth]; omega) hb, ?_⟩
      have no := not_mem_of_deeper rd (by simp only [PyData.depth]; omega) hb
      simp only [PyData.depth, PyData.shown]
      cases its with
      | nil =>
        cases hr
        simp only [PyData.shownAll, listText_nil]
        exact ReprK.listEmpty ho hc hd
      | cons y r =>
        exact ReprK.list ho hc hd no (by simpa using hk.length_eq) fun i y e => hk.item i y (by simpa using e)
  | .tuple ds, _, _, h, r, g, z => by
    cases h with
    | tup' hs ha =>
      cases r
      obtain ⟨its, rv, ⟨o, ho, hc, n, hd⟩, _⟩ := I.tuple hs
      have z1 : (tupleText (PyData.shownAll ds)).length ≤ sizeLine := by simpa only [PyData.shown] using z
      obtain ⟨⟨as, hr⟩, bs, hb, hk⟩ := DpEs.shows I ds _ its ha rv (by simpa [PyData.showable] using g) fun t ht => Nat.le_trans (tupleText_mem_le ht) z1
      have rd := Reads.tuple ho hc hd hr
      refine ⟨⟨_, rd⟩, _ :: bs, ReadAtMost.cons rd (by simp only [PyData.depth]; omega) hb, ?_⟩
      simp only [PyData.depth, PyData.shown]
      exact ReprK.tuple ho hc hd (not_mem_of_deeper rd (by simp only [PyData.depth]; omega) hb) hk
theorem DpEs.shows (I : Inv X pins σ H s) : ∀ (ds : List PyData) (vs : List V) (us : List Value), DpEs X.K H vs ds → Vals vs us → PyData.showableAll ds = true → (∀ t ∈ PyData.shownAll ds, t.length ≤ sizeLine) → (∃ as, ReadsAll s.heap us ds as) ∧ ∃ bs, ReadAtMost s.heap (PyData.depthAll ds) bs ∧ ReprAllK X.prog X.w bs s.heap (PyData.depthAll ds) us (PyData.shownAll ds)
  | [], _, _, h, r, _, _ => by
    cases h
    cases r
    exact ⟨⟨_, .nil⟩, [], fun _ q => (by cases q), by simp only [PyData.shownAll]; exact .nil⟩
  | d :: ds, _, _, h, r, g, z => by
    cases h with
    | cons' h1 h2 =>
      cases r with
      | cons r1 r2 =>
        have g2 : d.showable = true ∧ PyData.showableAll ds = true := by simpa [PyData.showableAll] using g
        obtain ⟨⟨a1, q1⟩, b1, m1, k1⟩ := DpE.shows I d _ _ h1 r1 g2.1 (z _ (by simp only [PyData.shownAll]; exact List.mem_cons_self))
        obtain ⟨⟨a2, q2⟩, b2, m2, k2⟩ := DpEs.shows I ds _ _ h2 r2 g2.2 fun t ht => z t (by simp only [PyData.shownAll]; exact List.mem_cons_of_mem _ ht)
        have l1 : d.depth ≤ PyData.depthAll (d :: ds) := by simp only [PyData.depthAll]; omega
        have l2 : PyData.depthAll ds ≤ PyData.depthAll (d :: ds) := by simp only [PyData.depthAll]; omega
        refine ⟨⟨_, .cons q1 q2⟩, b1 ++ b2, (m1.mono l1).append (m2.mono l2), ?_⟩
        simp only [PyData.shownAll]
        exact .cons ((k1.more fun b q => List.mem_append_left _ q).level_le l1) (k2.more_le (fun b q => List.mem_append_right _ q) l2)
end
end
section
variable {X : Cx}
/-- repr of a list of such data -/
def rReprE (K : PySem.W.Frag) : List V → Hp → VK → Prop := fun vs H Q => ∃ (p : Addr) (ys : List V) (es : List PyData), vs = [.ref p] ∧ H p = some (.lst ys) ∧ DpEs K H ys es ∧ (PyData.list es).showable = true ∧ (PyData.list es).depth ≤ 60 ∧ (PyData.list es).shown.length ≤ sizeLine ∧ Q (.str (PyData.list es).shown) H
theorem cr_reprE (hgd : X.A.guards = some []) (hu : X.A.units + 64 < cLine) : CallR X (.builtin "repr") (rReprE X.K) := by
  intro pins s σ H vs us Q I r h
  obtain ⟨p, ys, es, rfl, hp, ha, g, h60, z, q⟩ := h
  rw [Vals.ref1 r]
  obtain ⟨its, rv, ⟨o, n, ho, hc, _, hd⟩, _⟩ := I.list (.of hp)
  have z1 : (listText (PyData.shownAll es)).length ≤ sizeLine := by simpa only [PyData.shown] using z
  obtain ⟨⟨as, hr⟩, bs, hb, hk⟩ := DpEs.shows I es _ its ha rv (by simpa [PyData.showable] using g) fun t ht => Nat.le_trans (listText_mem_le ht) z1
  have rd := Reads.list ho hc hd hr
  have no := not_mem_of_deeper rd (by simp only [PyData.depth]; omega) hb
  have ty : s.TypeIs (.ref p) "list" := ⟨o, ho, hc⟩
  have fin : ∀ h' u tk, (∀ b o, s.heap.get? b = some o → h'.get? b = some o) → (fun v s1 => ∃ y H', Inv X pins σ H' s1 ∧ RelV y v ∧ Q y H') (.str (PyData.list es).shown u) { s with heap := h', toks := tk } := fun h' u tk kp => ⟨.str _, H, I.kept kp, ⟨u, rfl⟩, q⟩
  have dp : (PyData.list es).depth = PyData.depthAll es + 1 := by simp only [PyData.depth]
  simp only [PyData.shown] at fin
  refine call_repr_slot (by omega) ty F.slot_list_repr.toG ?_
  cases its with
  | nil =>
    cases hr
    simp only [PyData.shownAll, listText_nil] at fin
    exact call_list_repr_empty ⟨o, ho, hc⟩ ho hd ⟨_, _, rfl, fin s.heap _ _ fun _ _ e => e⟩
  | cons y l =>
    exact call_list_reprK ho hc hd no (by simpa using hk.length_eq) (fun i y e => hk.item i y (by simpa using e)) hgd (fun b _ => Clear.nil b) (by show X.A.units + 1 + (PyData.depthAll es + 1) < cLine; omega) (fun _ _ e => e) (fun h' u tk kp => ⟨_, _, rfl, fin h' u tk kp⟩) z1
end
end HSP
namespace HSP
open PySem PySem.Spec PyProof.Rows L2
/-! ## how long the text of data is -/
mutual
def ndD : PyData → Nat
  | .list xs => 1 + ndDs xs
  | .tuple xs => 1 + ndDs xs
  | _ => 1
def ndDs : List PyData → Nat
  | [] => 0
  | x :: r => ndD x + ndDs r
end
mutual
def okD : PyData → Bool
  | .int i => decide (i.natAbs < 10 ^ 30)
  | .str s => decide ((reprText s).length ≤ 40)
  | .dict kvs => kvs.isEmpty
  | .list xs => okDs xs
  | .tuple xs => okDs xs
  | _ => true
def okDs : List PyData → Bool
  | [] => true
  | x :: r => okD x && okDs r
end
theorem okDs_all : ∀ {l : List PyData}, (∀ x, x ∈ l → okD x = true) → okDs l = true
  | [], _ => by simp [okDs]
  | x :: r, h => by
    have ih := okDs_all (l := r) fun y hy => h y (List.mem_cons_of_mem _ hy)
    simp [okDs, h x List.mem_cons_self, ih]
theorem ndDs_le (c : Nat) : ∀ {l : List PyData}, (∀ x, x ∈ l → ndD x ≤ c) → ndDs l ≤ c * l.length
  | [], _ => by simp [ndDs]
  | x :: r, h => by
    have ih := ndDs_le c (l := r) fun y hy => h y (List.mem_cons_of_mem _ hy)
    have h1 := h x List.mem_cons_self
    simp only [ndDs, List.length_cons, Nat.mul_succ]
    omega
theorem depthAll_le (c : Nat) : ∀ {l : List PyData}, (∀ x, x ∈ l → x.depth ≤ c) → PyData.depthAll l ≤ c
  | [], _ => by simp [PyData.depthAll]
  | x :: r, h => by
    have ih := depthAll_le c (l := r) fun y hy => h y (List.mem_cons_of_mem _ hy)
    have h1 := h x List.mem_cons_self
    simp only [PyData.depthAll]
    omega
mutual
theorem shown_nd : ∀ d : PyData, okD d = true → d.showable = true ∧ d.shown.length + 2 ≤ 60 * ndD d
  | .none, _ => ⟨by simp [PyData.showable], by simp only [PyData.shown, ndD]; decide +kernel⟩
  | .bool true, _ => ⟨by simp [PyData.showable], by simp only [PyData.shown, ndD]; decide +kernel⟩
  | .bool false, _ => ⟨by simp [PyData.showable], by simp only [PyData.shown, ndD]; decide +kernel⟩
  | .int i, h => by
    have h1 : i.natAbs < 10 ^ 30 := by simpa only [okD, decide_eq_true_eq] using h
    have h2 := int_len h1
    refine ⟨?_, ?_⟩
    · have := int_log h1
      simpa [PyData.showable] using this
    · simp only [ndD]
      omega
  | .str s, h => by
    have h1 : (reprText s).length ≤ 40 := by simpa only [okD, decide_eq_true_eq] using h
    refine ⟨by simp [PyData.showable], ?_⟩
    simp only [PyData.shown, ndD]
    omega
  | .dict [], _ => ⟨by simp [PyData.showable, PyData.showableKv], by simp only [PyData.shown, PyData.shownKv, ndD]; decide +kernel⟩
  | .dict (_ :: _), h => by simp [okD] at h
  | .list xs, h => by
    obtain ⟨h1, h2⟩ := shown_nds xs (by simpa only [okD] using h)
    have h3 := listText_le (PyData.shownAll xs)
    refine ⟨by simpa [PyData.showable] using h1, ?_⟩
    simp only [PyData.shown, ndD]
    omega
  | .tuple xs, h => by
    obtain ⟨h1, h2⟩ := shown_nds xs (by simpa only [okD] using h)
    have h3 := tupleText_le (PyData.shownAll xs)
    refine ⟨by simpa [PyData.showable] using h1, ?_⟩
    simp only [PyData.shown, ndD]
    omega
theorem shown_nds : ∀ l : List PyData, okDs l = true → PyData.showableAll l = true ∧ piled (PyData.shownAll l) ≤ 60 * ndDs l
  | [], _ => ⟨by simp [PyData.showableAll], by simp [PyData.shownAll, piled_nil]⟩
  | x :: r, h => by
    have h0 : okD x = true ∧ okDs r = true := by simpa only [okDs, Bool.and_eq_true] using h
    obtain ⟨a1, a2⟩ := shown_nd x h0.1
    obtain ⟨b1, b2⟩ := shown_nds r h0.2
    refine ⟨by simp [PyData.showableAll, a1, b1], ?_⟩
    simp only [PyData.shownAll, piled_cons, ndDs]
    omega
end
/-- data that repr shows -/
structure FineE (d : PyData) : Prop where
  ok : okD d = true
  nd : ndD d ≤ 100000
  deep : d.depth ≤ 50
theorem FineE.len {d : PyData} (f : FineE d) : d.shown.length ≤ sizeLine := by
  have h := (shown_nd d f.ok).2
  have h2 := f.nd
  show d.shown.length ≤ 16777216
  omega
theorem FineE.shows {d : PyData} (f : FineE d) : d.showable = true := (shown_nd d f.ok).1
end HSP
namespace HSP
open PySem PySem.Spec PyProof.Rows L2
/-! ## xs == [], xs != [], whatever xs holds -/
section
variable {X : Cx}
def rNeN (K : PySem.W.Frag) : R2 := fun x y H Q => ∃ (a b : Addr) (xs : List V), x = .ref a ∧ y = .ref b ∧ SqL K H a xs ∧ SqL K H b [] ∧ Q (.bl (!xs.isEmpty)) H
def rEqN (K : PySem.W.Frag) : R2 := fun x y H Q => ∃ (a b : Addr) (xs : List V), x = .ref a ∧ y = .ref b ∧ SqL K H a xs ∧ SqL K H b [] ∧ Q (.bl xs.isEmpty) H
theorem op_neN (hu : X.A.units < cLine) : OpR X (compareOp .NotEq) (rNeN X.K) := by
  intro pins s σ H x y v u Q I rx ry h
  obtain ⟨a, b, xs, rfl, rfl, hx, hy, q⟩ := h
  cases rx
  cases ry
  obtain ⟨i1, r1, p1, _⟩ := I.list hx
  obtain ⟨i2, r2, p2, _⟩ := I.list hy
  cases r2
  cases r1 with
  | nil => exact PySem.SeqAt.RcNeAt.lists (e := fun _ => true) p1.isList p2.isList rfl hu (fun j h => absurd h (by simp)) X.prog X.w _ _ ⟨.bl false, H, I, rfl, q⟩
  | cons _ _ => exact PySem.SeqAt.RcNeAt.lists_lengths p1.isList p2.isList (by simp) hu X.prog X.w _ _ ⟨.bl true, H, I, rfl, q⟩
theorem op_eqN (hu : X.A.units < cLine) : OpR X (compareOp .Eq) (rEqN X.K) := by
  intro pins s σ H x y v u Q I rx ry h
  obtain ⟨a, b, xs, rfl, rfl, hx, hy, q⟩ := h
  cases rx
  cases ry
  obtain ⟨i1, r1, p1, _⟩ := I.list hx
  obtain ⟨i2, r2, p2, _⟩ := I.list hy
  cases r2
  cases r1 with
  | nil => exact PySem.SeqAt.RcAt.lists (e := fun _ => true) p1.isList p2.isList rfl hu (fun j h => absurd h (by simp)) X.prog X.w _ _ ⟨.bl true, H, I, rfl, q⟩
  | cons _ _ => exact PySem.SeqAt.RcAt.lists_lengths p1.isList p2.isList (by simp) hu X.prog X.w _ _ ⟨.bl false, H, I, rfl, q⟩
end
end HSP
namespace HSP
open PySem PySem.Spec PyProof.Rows L2
/-! ## the representative -/
/-- the value nearest to v between two bounds -/
def clamp (lo hi : Option Int) (v : Int) : Int := match lo with
  | some l => if v ≤ l then l else match hi with
    | some h => if v ≥ h then h else v
    | none => v
  | none => match hi with
    | some h => if v ≥ h then h else v
    | none => v
/-- the values of the representative, in the order of the nodes -/
def repOf (g : Nat → Int) : Tr → Nat → Option Int → Option Int → List Int
  | .nil, _, _, _ => []
  | .nod l r, f, lo, hi => repOf g l f lo (some (clamp lo hi (g (f + l.size)))) ++ clamp lo hi (g (f + l.size)) :: repOf g r (f + l.size + 1) (some (clamp lo hi (g (f + l.size)))) hi
theorem repOf_nod (g : Nat → Int) (l r : Tr) (f : Nat) (lo hi : Option Int) : repOf g (.nod l r) f lo hi = repOf g l f lo (some (clamp lo hi (g (f + l.size)))) ++ clamp lo hi (g (f + l.size)) :: repOf g r (f + l.size + 1) (some (clamp lo hi (g (f + l.size)))) hi := rfl
theorem repOf_len (g : Nat → Int) : ∀ (t : Tr) (f : Nat) (lo hi : Option Int), (repOf g t f lo hi).length = t.size
  | .nil, _, _, _ => rfl
  | .nod l r, f, lo, hi => by
    rw [repOf_nod, List.length_append, List.length_cons, repOf_len g l, repOf_len g r]
    show _ = l.size + 1 + r.size
    omega
/-- bounds that do not cross -/
def Straight (lo hi : Option Int) : Prop := ∀ l h, lo = some l → hi = some h → l ≤ h
theorem straight_none : Straight none none := fun l h e => by cases e
theorem clamp_in {lo hi : Option Int} (s : Straight lo hi) (v : Int) : Straight lo (some (clamp lo hi v)) ∧ Straight (some (clamp lo hi v)) hi := by
  constructor
  · intro l h e1 e2
    subst e1
    cases e2
    cases hi with
    | none => show l ≤ if v ≤ l then l else v; split <;> omega
    | some d =>
      have := s l d rfl rfl
      show l ≤ if v ≤ l then l else if v ≥ d then d else v
      split <;> (try split) <;> omega
  · intro l h e1 e2
    subst e2
    cases e1
    cases lo with
    | none => show (if v ≥ h then h else v) ≤ h; split <;> omega
    | some d =>
      have := s d h rfl rfl
      show (if v ≤ d then d else if v ≥ h then h else v) ≤ h
      split <;> (try split) <;> omega
def upTo (hi : Option Int) (x : Int) : Prop := ∀ h, hi = some h → x ≤ h
def downTo (lo : Option Int) (x : Int) : Prop := ∀ l, lo = some l → l ≤ x
theorem rep_in {g : Nat → Int} : ∀ (t : Tr) (f : Nat) (lo hi : Option Int), Straight lo hi → (repOf g t f lo hi).Pairwise (· ≤ ·) ∧ ∀ x, x ∈ repOf g t f lo hi → downTo lo x ∧ upTo hi x
  | .nil, _, _, _, _ => ⟨.nil, fun x h => by cases h⟩
  | .nod l r, f, lo, hi, s => by
    rw [repOf_nod]
    obtain ⟨s1, s2⟩ := clamp_in s (g (f + l.size))
    obtain ⟨a1, a2⟩ := rep_in l f lo (some (clamp lo hi (g (f + l.size)))) s1
    obtain ⟨b1, b2⟩ := rep_in r (f + l.size + 1) (some (clamp lo hi (g (f + l.size)))) hi s2
    refine ⟨List.pairwise_append.mpr ⟨a1, List.pairwise_cons.mpr ⟨fun x hx => (b2 x hx).1 _ rfl, b1⟩, fun x hx y hy => ?_⟩, fun x hx => ?_⟩
    · have h1 := (a2 x hx).2 _ rfl
      rcases List.mem_cons.mp hy with z | z
      · rw [z]; exact h1
      · exact Int.le_trans h1 ((b2 y z).1 _ rfl)
    · rcases List.mem_append.mp hx with z | z
      · exact ⟨(a2 x z).1, fun h e => Int.le_trans ((a2 x z).2 _ rfl) (s2 _ _ rfl e)⟩
      · rcases List.mem_cons.mp z with z | z
        · rw [z]
          exact ⟨fun l e => s1 _ _ e rfl, fun h e => s2 _ _ rfl e⟩
        · exact ⟨fun l e => Int.le_trans (s1 _ _ e rfl) ((b2 x z).1 _ rfl), (b2 x z).2⟩
theorem clamp_id {lo hi : Option Int} {v : Int} (h1 : downTo lo v) (h2 : upTo hi v) : clamp lo hi v = v := by
  cases lo with
  | none => cases hi with
    | none => rfl
    | some h => have := h2 h rfl; show (if v ≥ h then h else v) = v; split <;> omega
  | some l => have := h1 l rfl; cases hi with
    | none => show (if v ≤ l then l else v) = v; split <;> omega
    | some h => have := h2 h rfl; show (if v ≤ l then l else if v ≥ h then h else v) = v; split <;> (try split) <;> omega
end HSP
namespace HSP
open PySem PySem.Spec PyProof.Rows L2
/-! ## trees of halving, trees put together -/
/-- the tree of halving, to so many levels -/
def halv : Nat → Nat → Tr
  | 0, _ => .nil
  | _ + 1, 0 => .nil
  | k + 1, m + 1 => .nod (halv k ((m + 1) / 2)) (halv k (m + 1 - (m + 1) / 2 - 1))
theorem half_lt {k m : Nat} (h : m + 1 < 2 ^ (k + 1)) : (m + 1) / 2 < 2 ^ k ∧ m + 1 - (m + 1) / 2 - 1 < 2 ^ k := by
  have e : 2 ^ (k + 1) = 2 ^ k * 2 := Nat.pow_succ 2 k
  omega
theorem halv_size : ∀ (k m : Nat), m < 2 ^ k → (halv (k + 1) m).size = m
  | _, 0, _ => rfl
  | 0, m + 1, h => by
    have e : 2 ^ 0 = 1 := rfl
    omega
  | k + 1, m + 1, h => by
    obtain ⟨h1, h2⟩ := half_lt h
    show (halv (k + 1) ((m + 1) / 2)).size + 1 + (halv (k + 1) (m + 1 - (m + 1) / 2 - 1)).size = m + 1
    rw [halv_size k _ h1, halv_size k _ h2]
    omega
theorem halv_ht : ∀ (k m : Nat), (halv k m).ht ≤ k
  | 0, _ => Nat.le_refl _
  | _ + 1, 0 => Nat.zero_le _
  | k + 1, m + 1 => by
    have h1 := halv_ht k ((m + 1) / 2)
    have h2 := halv_ht k (m + 1 - (m + 1) / 2 - 1)
    show max (halv k ((m + 1) / 2)).ht (halv k (m + 1 - (m + 1) / 2 - 1)).ht + 1 ≤ k + 1
    omega
/-- the trees, with a node between each two -/
def joinT : Nat → List Tr → Tr
  | 0, _ => .nil
  | n + 1, ts => if ts.length = 1 then ts.headD .nil else .nod (joinT n (ts.take (ts.length / 2))) (joinT n (ts.drop (ts.length / 2)))
/-- how many nodes that makes -/
def wide : List Tr → Nat
  | [] => 0
  | [t] => t.size
  | t :: r => t.size + 1 + wide r
theorem wide_app : ∀ (a b : List Tr), a ≠ [] → b ≠ [] → wide (a ++ b) = wide a + 1 + wide b
  | [], _, h, _ => absurd rfl h
  | [t], [], _, h => absurd rfl h
  | [t], u :: r, _, _ => rfl
  | t :: u :: r, b, _, hb => by
    have ih := wide_app (u :: r) b (by simp) hb
    show t.size + 1 + wide ((u :: r) ++ b) = t.size + 1 + wide (u :: r) + 1 + wide b
    rw [ih]
    omega
theorem take_ne {α : Type} {l : List α} (h : 2 ≤ l.length) : l.take (l.length / 2) ≠ [] := fun z => by
  have := congrArg List.length z
  rw [List.length_take, List.length_nil] at this
  omega
theorem drop_ne {α : Type} {l : List α} (h : 2 ≤ l.length) : l.drop (l.length / 2) ≠ [] := fun z => by
  have := congrArg List.length z
  rw [List.length_drop, List.length_nil] at this
  omega
theorem half_len {n : Nat} {α : Type} {l : List α} (h : l.length ≤ 2 ^ (n + 1)) : (l.take (l.length / 2)).length ≤ 2 ^ n ∧ (l.drop (l.length / 2)).length ≤ 2 ^ n := by
  have e : 2 ^ (n + 1) = 2 ^ n * 2 := Nat.pow_succ 2 n
  rw [List.length_take, List.length_drop]
  omega
theorem one_list {α : Type} {l : List α} (h : l ≠ []) (h2 : l.length ≤ 2 ^ 0) : ∃ t, l = [t] := by
  match l, h, h2 with
  | [], h, _ => exact absurd rfl h
  | [t], _, _ => exact ⟨t, rfl⟩
  | _ :: _ :: r, _, h2 =>
    have e : 2 ^ 0 = 1 := rfl
    rw [List.length_cons, List.length_cons] at h2
    omega
/-- what joinT makes, by halves -/
theorem join_ind {P : Nat → List Tr → Tr → Prop} (h1 : ∀ n t, P (n + 1) [t] t) (h2 : ∀ n a b x y, a ≠ [] → b ≠ [] → P n a x → P n b y → P (n + 1) (a ++ b) (.nod x y)) : ∀ (n : Nat) (ts : List Tr), ts ≠ [] → ts.length ≤ 2 ^ n → P (n + 1) ts (joinT (n + 1) ts)
  | 0, ts, hne, hl => by
    obtain ⟨t, rfl⟩ := one_list hne hl
    exact h1 0 t
  | n + 1, ts, hne, hl => by
    by_cases c : ts.length = 1
    · obtain ⟨t, rfl⟩ := one_list hne (Nat.le_of_eq c)
      exact h1 (n + 1) t
    · have c2 : 2 ≤ ts.length := by
        cases ts with
        | nil => exact absurd rfl hne
        | cons a r =>
          rw [List.length_cons] at c ⊢
          omega
      obtain ⟨l1, l2⟩ := half_len hl
      have a := join_ind h1 h2 n (ts.take (ts.length / 2)) (take_ne c2) l1
      have b := join_ind h1 h2 n (ts.drop (ts.length / 2)) (drop_ne c2) l2
      have z := h2 (n + 1) _ _ _ _ (take_ne c2) (drop_ne c2) a b
      rw [List.take_append_drop] at z
      show P (n + 1 + 1) ts (if ts.length = 1 then ts.headD .nil else .nod (joinT (n + 1) (ts.take (ts.length / 2))) (joinT (n + 1) (ts.drop (ts.length / 2))))
      rw [if_neg c]
      exact z
theorem join_size (n : Nat) (ts : List Tr) (h : ts ≠ []) (hl : ts.length ≤ 2 ^ n) : (joinT (n + 1) ts).size = wide ts :=
  join_ind (P := fun _ ts t => t.size = wide ts) (fun _ _ => rfl) (fun n a b x y ha hb e1 e2 => by
    show x.size + 1 + y.size = wide (a ++ b)
    rw [wide_app a b ha hb, e1, e2]) n ts h hl
theorem join_ht (m : Nat) (n : Nat) (ts : List Tr) (h : ts ≠ []) (hl : ts.length ≤ 2 ^ n) (hm : ∀ t, t ∈ ts → t.ht ≤ m) : (joinT (n + 1) ts).ht ≤ n + m := by
  have z := join_ind (P := fun k ts t => (∀ u, u ∈ ts → u.ht ≤ m) → t.ht + 1 ≤ k + m) (fun n t hm => by
    have := hm t (List.mem_singleton.mpr rfl)
    omega) (fun n a b x y ha hb e1 e2 hm => by
    have h1 := e1 fun u hu => hm u (List.mem_append_left _ hu)
    have h2 := e2 fun u hu => hm u (List.mem_append_right _ hu)
    show max x.ht y.ht + 1 + 1 ≤ n + 1 + m
    omega) n ts h hl hm
  omega
end HSP
namespace HSP
open PySem PySem.Spec PyProof.Rows L2
/-! ## goals of a list -/
structure GoalOk (g r : Nat → Int) (n : Nat) : Prop where
  up : ∀ i, i + 1 < n → r i ≤ r (i + 1)
  st : ∀ i, i < n → (i = 0 ∨ r (i - 1) ≠ r i) → r i ≤ g i
  en : ∀ i, i < n → (i + 1 = n ∨ r (i + 1) ≠ r i) → g i ≤ r i
  ex : ∀ i, i < n → ∃ j, j < n ∧ r j = r i ∧ g j = r i
theorem clamp_ge {lo hi : Option Int} {v : Int} (s : Straight lo hi) (h : lo ≠ some (clamp lo hi v)) : clamp lo hi v ≤ v := by
  cases lo with
  | none => cases hi with
    | none => exact Int.le_refl _
    | some b =>
      show (if v ≥ b then b else v) ≤ v
      split <;> omega
  | some a => cases hi with
    | none =>
      have e : clamp (some a) none v = if v ≤ a then a else v := rfl
      rw [e] at h ⊢
      by_cases c : v ≤ a
      · rw [if_pos c] at h
        exact absurd rfl h
      · rw [if_neg c]
        exact Int.le_refl _
    | some b =>
      have e : clamp (some a) (some b) v = if v ≤ a then a else if v ≥ b then b else v := rfl
      rw [e] at h ⊢
      by_cases c : v ≤ a
      · rw [if_pos c] at h
        exact absurd rfl h
      · rw [if_neg c]
        split <;> omega
theorem clamp_le {lo hi : Option Int} {v : Int} (s : Straight lo hi) (h : hi ≠ some (clamp lo hi v)) : v ≤ clamp lo hi v := by
  cases hi with
  | none => cases lo with
    | none => exact Int.le_refl _
    | some a =>
      show v ≤ if v ≤ a then a else v
      split <;> omega
  | some b => cases lo with
    | none =>
      have e : clamp none (some b) v = if v ≥ b then b else v := rfl
      rw [e] at h ⊢
      by_cases c : v ≥ b
      · rw [if_pos c] at h
        exact absurd rfl h
      · rw [if_neg c]
        exact Int.le_refl _
    | some a =>
      have e : clamp (some a) (some b) v = if v ≤ a then a else if v ≥ b then b else v := rfl
      have ab := s a b rfl rfl
      rw [e] at h ⊢
      by_cases c : v ≤ a
      · rw [if_pos c]
        exact c
      · rw [if_neg c] at h ⊢
        by_cases d : v ≥ b
        · rw [if_pos d] at h
          exact absurd rfl h
        · rw [if_neg d]
          exact Int.le_refl _
theorem get_app {α : Type} {a b : List α} {c : α} {i : Nat} : (a ++ c :: b)[i]? = if i < a.length then a[i]? else if i = a.length then some c else b[i - a.length - 1]? := by
  by_cases h : i < a.length
  · rw [if_pos h, List.getElem?_append_left h]
  · rw [if_neg h, List.getElem?_append_right (by omega)]
    by_cases e : i = a.length
    · rw [if_pos e, e, Nat.sub_self]
      rfl
    · rw [if_neg e, show i - a.length = (i - a.length - 1) + 1 by omega, List.getElem?_cons_succ]
      rfl
theorem up_get {l : List Int} (h : l.Pairwise (· ≤ ·)) {i j : Nat} {x y : Int} (hij : i < j) (hx : l[i]? = some x) (hy : l[j]? = some y) : x ≤ y := by
  obtain ⟨h1, e1⟩ := List.getElem?_eq_some_iff.mp hx
  obtain ⟨h2, e2⟩ := List.getElem?_eq_some_iff.mp hy
  rw [← e1, ← e2]
  exact List.pairwise_iff_getElem.mp h i j h1 h2 hij
/-- a block of the representative starts at a value that is not less, ends at one that is not greater, and holds an equal one -/
theorem rep_blocks {g : Nat → Int} : ∀ (t : Tr) (f : Nat) (lo hi : Option Int), Straight lo hi →
    (∀ (i : Nat) (v : Int), (repOf g t f lo hi)[i]? = some v → lo ≠ some v → (i = 0 ∨ (repOf g t f lo hi)[i - 1]? ≠ some v) → v ≤ g (f + i)) ∧
    (∀ (i : Nat) (v : Int), (repOf g t f lo hi)[i]? = some v → hi ≠ some v → (repOf g t f lo hi)[i + 1]? ≠ some v → g (f + i) ≤ v) ∧
    ∀ (i : Nat) (v : Int), (repOf g t f lo hi)[i]? = some v → lo ≠ some v → hi ≠ some v → ∃ j : Nat, (repOf g t f lo hi)[j]? = some v ∧ g (f + j) = v
  | .nil, f, lo, hi, _ => ⟨fun i v h => (by cases h), fun i v h => (by cases h), fun i v h => (by cases h)⟩
  | .nod l r, f, lo, hi, s => by
    obtain ⟨s1, s2⟩ := clamp_in s (g (f + l.size))
    obtain ⟨a1, a2, a3⟩ := rep_blocks (g := g) l f lo (some (clamp lo hi (g (f + l.size)))) s1
    obtain ⟨b1, b2, b3⟩ := rep_blocks (g := g) r (f + l.size + 1) (some (clamp lo hi (g (f + l.size)))) hi s2
    obtain ⟨u1, m1⟩ := rep_in (g := g) l f lo (some (clamp lo hi (g (f + l.size)))) s1
    obtain ⟨u2, m2⟩ := rep_in (g := g) r (f + l.size + 1) (some (clamp lo hi (g (f + l.size)))) hi s2
    have ge : lo ≠ some (clamp lo hi (g (f + l.size))) → clamp lo hi (g (f + l.size)) ≤ g (f + l.size) := clamp_ge s
    have le : hi ≠ some (clamp lo hi (g (f + l.size))) → g (f + l.size) ≤ clamp lo hi (g (f + l.size)) := clamp_le s
    have ll := repOf_len g l f lo (some (clamp lo hi (g (f + l.size))))
    rw [repOf_nod]
    generalize clamp lo hi (g (f + l.size)) = c at *
    generalize repOf g l f lo (some c) = Rl at *
    generalize repOf g r (f + l.size + 1) (some c) hi = Rr at *
    have lowR : ∀ {j : Nat} {v : Int}, Rr[j]? = some v → c ≤ v := fun h => (m2 _ (List.mem_of_getElem? h)).1 c rfl
    have highL : ∀ {j : Nat} {v : Int}, Rl[j]? = some v → v ≤ c := fun h => (m1 _ (List.mem_of_getElem? h)).2 c rfl
    refine ⟨fun i v h hlo st => ?_, fun i v h hhi en => ?_, fun i v h hlo hhi => ?_⟩
    · rw [get_app] at h
      by_cases c1 : i < Rl.length
      · rw [if_pos c1] at h
        refine a1 i v h hlo (st.imp id fun q => ?_)
        rw [get_app, if_pos (by omega)] at q
        exact q
      · rw [if_neg c1] at h
        by_cases c2 : i = Rl.length
        · rw [if_pos c2] at h
          cases h
          rw [c2, ll]
          exact ge hlo
        · rw [if_neg c2] at h
          have cv : c ≠ v := fun z => by
            rcases st with q | q
            · omega
            · rw [get_app, if_neg (by omega)] at q
              by_cases c3 : i - 1 = Rl.length
              · rw [if_pos c3] at q
                exact q (congrArg some z)
              · rw [if_neg c3] at q
                obtain ⟨y, hy⟩ : ∃ y, Rr[i - 1 - Rl.length - 1]? = some y := ⟨_, List.getElem?_eq_getElem (by have := (List.getElem?_eq_some_iff.mp h).1; omega)⟩
                have h1 := up_get u2 (show i - 1 - Rl.length - 1 < i - Rl.length - 1 by omega) hy h
                have h2 := lowR hy
                rw [hy] at q
                exact q (congrArg some (by omega))
          have z := b1 (i - Rl.length - 1) v h (fun z => cv (Option.some.inj z)) (by
            by_cases c3 : i - Rl.length - 1 = 0
            · exact .inl c3
            · refine .inr ?_
              rcases st with q | q
              · omega
              · rw [get_app, if_neg (by omega), if_neg (by omega)] at q
                rw [show i - Rl.length - 1 - 1 = i - 1 - Rl.length - 1 by omega]
                exact q)
          rw [show f + l.size + 1 + (i - Rl.length - 1) = f + i by omega] at z
          exact z
    · rw [get_app] at h
      by_cases c1 : i < Rl.length
      · rw [if_pos c1] at h
        have cv : c ≠ v := fun z => by
          rw [get_app] at en
          by_cases c2 : i + 1 < Rl.length
          · rw [if_pos c2] at en
            obtain ⟨y, hy⟩ : ∃ y, Rl[i + 1]? = some y := ⟨_, List.getElem?_eq_getElem c2⟩
            have h1 := up_get u1 (Nat.lt_succ_self i) h hy
            have h2 := highL hy
            rw [hy] at en
            exact en (congrArg some (by omega))
          · rw [if_neg c2, if_pos (by omega)] at en
            exact en (congrArg some z)
        refine a2 i v h (fun z => cv (Option.some.inj z)) ?_
        by_cases c2 : i + 1 < Rl.length
        · rw [get_app, if_pos c2] at en
          exact en
        · rw [List.getElem?_eq_none (by omega)]
          exact fun z => by cases z
      · rw [if_neg c1] at h
        by_cases c2 : i = Rl.length
        · rw [if_pos c2] at h
          cases h
          rw [c2, ll]
          exact le hhi
        · rw [if_neg c2] at h
          have z := b2 (i - Rl.length - 1) v h hhi (by
            rw [get_app, if_neg (by omega), if_neg (by omega)] at en
            rw [show i - Rl.length - 1 + 1 = i + 1 - Rl.length - 1 by omega]
            exact en)
          rw [show f + l.size + 1 + (i - Rl.length - 1) = f + i by omega] at z
          exact z
    · by_cases cv : v = c
      · have h1 := ge (by rw [← cv]; exact hlo)
        have h2 := le (by rw [← cv]; exact hhi)
        refine ⟨Rl.length, ?_, by rw [ll]; omega⟩
        rw [get_app, if_neg (by omega), if_pos rfl, cv]
      · rw [get_app] at h
        by_cases c1 : i < Rl.length
        · rw [if_pos c1] at h
          obtain ⟨j, h1, h2⟩ := a3 i v h hlo (fun z => cv (Option.some.inj z).symm)
          refine ⟨j, ?_, h2⟩
          rw [get_app, if_pos (List.getElem?_eq_some_iff.mp h1).1]
          exact h1
        · rw [if_neg c1] at h
          by_cases c2 : i = Rl.length
          · rw [if_pos c2] at h
            exact absurd (Option.some.inj h).symm cv
          · rw [if_neg c2] at h
            obtain ⟨j, h1, h2⟩ := b3 _ v h (fun z => cv (Option.some.inj z).symm) hhi
            refine ⟨Rl.length + 1 + j, ?_, ?_⟩
            · rw [get_app, if_neg (by omega), if_neg (by omega), show Rl.length + 1 + j - Rl.length - 1 = j by omega]
              exact h1
            · rw [← h2]
              exact congrArg g (by omega)
theorem rep_goal {g : Nat → Int} {t : Tr} {n : Nat} (hn : t.size = n) {r : Nat → Int} (hr : ∀ i, i < n → (repOf g t 0 none none)[i]? = some (r i)) : GoalOk g r n := by
  obtain ⟨a, b, c⟩ := rep_blocks (g := g) t 0 none none straight_none
  have up := (rep_in (g := g) t 0 none none straight_none).1
  have len := repOf_len g t 0 none none
  generalize repOf g t 0 none none = R at *
  refine ⟨fun i h => up_get up (Nat.lt_succ_self i) (hr i (by omega)) (hr (i + 1) h), fun i h st => ?_, fun i h en => ?_, fun i h => ?_⟩
  · have z := a i (r i) (hr i h) (fun z => by cases z) (by
      by_cases c : i = 0
      · exact .inl c
      · refine .inr ?_
        rw [hr (i - 1) (by omega)]
        exact fun z => (st.resolve_left c) (Option.some.inj z))
    rw [Nat.zero_add] at z
    exact z
  · have z := b i (r i) (hr i h) (fun z => by cases z) (by
      by_cases c : i + 1 < n
      · rw [hr (i + 1) c]
        exact fun z => (en.resolve_left (by omega)) (Option.some.inj z)
      · rw [List.getElem?_eq_none (by omega)]
        exact fun z => by cases z)
    rw [Nat.zero_add] at z
    exact z
  · obtain ⟨j, h1, h2⟩ := c i (r i) (hr i h) (fun z => by cases z) (fun z => by cases z)
    have hj := (List.getElem?_eq_some_iff.mp h1).1
    rw [Nat.zero_add] at h2
    rw [hr j (by omega)] at h1
    exact ⟨j, by omega, Option.some.inj h1, h2⟩
end HSP
namespace HSP
open PySem PySem.Spec PyProof.Rows L2
/-! ## a tree for a goal -/
def hiT (high : Nat) : Tr := if 0 < high then .nod .nil (halv 8 (high - 1)) else .nil
def passT (low high : Nat) : Tr := if 0 < low then .nod (halv 8 (low - 1)) (hiT high) else hiT high
theorem hiT_size {m : Nat} (h : m ≤ 64) : (hiT m).size = m := by
  unfold hiT
  by_cases c : 0 < m
  · rw [if_pos c]
    show 0 + 1 + (halv 8 (m - 1)).size = m
    rw [halv_size 7 _ (by show m - 1 < 128; omega)]
    omega
  · rw [if_neg c]
    show 0 = m
    omega
theorem passT_size {a b : Nat} (ha : a ≤ 64) (hb : b ≤ 64) : (passT a b).size = a + b := by
  unfold passT
  by_cases c : 0 < a
  · rw [if_pos c]
    show (halv 8 (a - 1)).size + 1 + (hiT b).size = a + b
    rw [halv_size 7 _ (by show a - 1 < 128; omega), hiT_size hb]
    omega
  · rw [if_neg c, hiT_size hb]
    omega
theorem passT_ht (a b : Nat) : (passT a b).ht ≤ 10 := by
  have h1 := halv_ht 8 (a - 1)
  have h2 := halv_ht 8 (b - 1)
  have h3 : (hiT b).ht ≤ 9 := by
    unfold hiT
    split
    · show max 0 (halv 8 (b - 1)).ht + 1 ≤ 9
      omega
    · exact Nat.zero_le _
  unfold passT
  split
  · show max (halv 8 (a - 1)).ht (hiT b).ht + 1 ≤ 10
    omega
  · omega
theorem rep_dead (g : Nat → Int) (v : Int) : ∀ (t : Tr) (f : Nat), repOf g t f (some v) (some v) = List.replicate t.size v
  | .nil, _ => rfl
  | .nod l r, f => by
    have c : ∀ x, clamp (some v) (some v) x = v := fun x => by
      show (if x ≤ v then v else if x ≥ v then v else x) = v
      split
      · rfl
      · split
        · rfl
        · omega
    rw [repOf_nod, c, rep_dead g v l, rep_dead g v r]
    show _ = List.replicate (l.size + 1 + r.size) v
    rw [show v :: List.replicate r.size v = List.replicate (1 + r.size) v by rw [Nat.add_comm]; rfl, List.replicate_append_replicate, Nat.add_assoc]
theorem rep_hi {g : Nat → Int} {f m : Nat} {lo hi : Option Int} {b : Int} (hm : m ≤ 64) (s : Straight lo hi) (h : 0 < m → hi = some b ∧ b ≤ g f) : repOf g (hiT m) f lo hi = List.replicate m b := by
  unfold hiT
  by_cases c : 0 < m
  · obtain ⟨e, h2⟩ := h c
    rw [if_pos c, repOf_nod]
    have ec : clamp lo hi (g (f + Tr.nil.size)) = b := by
      show clamp lo hi (g (f + 0)) = b
      rw [e, Nat.add_zero]
      cases lo with
      | none =>
        show (if g f ≥ b then b else g f) = b
        rw [if_pos h2]
      | some l =>
        have := s l b rfl e
        show (if g f ≤ l then l else if g f ≥ b then b else g f) = b
        by_cases c2 : g f ≤ l
        · rw [if_pos c2]
          omega
        · rw [if_neg c2, if_pos h2]
    rw [ec, e, rep_dead, halv_size 7 _ (by show m - 1 < 128; omega)]
    show b :: List.replicate (m - 1) b = _
    rw [show m = (m - 1) + 1 by omega]
    rfl
  · rw [if_neg c, show m = 0 by omega]
    rfl
theorem rep_pass {g : Nat → Int} {f low high : Nat} {lo hi : Option Int} {a b : Int} (h1 : low ≤ 64) (h2 : high ≤ 64) (s : Straight lo hi) (hl : 0 < low → lo = some a ∧ g (f + low - 1) ≤ a) (hh : 0 < high → hi = some b ∧ b ≤ g (f + low)) :
    repOf g (passT low high) f lo hi = List.replicate low a ++ List.replicate high b := by
  unfold passT
  by_cases c : 0 < low
  · obtain ⟨e, q⟩ := hl c
    have hs : (halv 8 (low - 1)).size = low - 1 := halv_size 7 _ (by show low - 1 < 128; omega)
    rw [if_pos c, repOf_nod, hs]
    have ec : clamp lo hi (g (f + (low - 1))) = a := by
      rw [e, show f + (low - 1) = f + low - 1 by omega]
      cases hi with
      | none =>
        show (if g (f + low - 1) ≤ a then a else g (f + low - 1)) = a
        rw [if_pos q]
      | some d =>
        show (if g (f + low - 1) ≤ a then a else _) = a
        rw [if_pos q]
    rw [ec, e, rep_dead, hs, rep_hi h2 (fun l h x y => by cases x; exact s a h e y) (fun q => by rw [show f + (low - 1) + 1 = f + low by omega]; exact hh q)]
    rw [show a :: List.replicate high b = [a] ++ List.replicate high b from rfl, ← List.append_assoc, show List.replicate (low - 1) a ++ [a] = List.replicate low a by
      rw [show low = (low - 1) + 1 by omega, List.replicate_succ']
      rfl]
  · rw [if_neg c, show low = 0 by omega]
    exact rep_hi h2 s fun q => by
      have := hh q
      rw [show low = 0 by omega] at this
      exact this
/-! ### parts put together -/
def flatRep (g : Nat → Int) : Nat → Option Int → Option Int → List Tr → List Int
  | _, _, _, [] => []
  | f, lo, hi, [t] => repOf g t f lo hi
  | f, lo, hi, t :: u :: r => repOf g t f lo (some (g (f + t.size))) ++ g (f + t.size) :: flatRep g (f + t.size + 1) (some (g (f + t.size))) hi (u :: r)
def IncG (g : Nat → Int) : Nat → Option Int → Option Int → List Tr → Prop
  | _, _, _, [] => True
  | _, _, _, [_] => True
  | f, lo, hi, t :: u :: r => downTo lo (g (f + t.size)) ∧ upTo hi (g (f + t.size)) ∧ IncG g (f + t.size + 1) (some (g (f + t.size))) hi (u :: r)
theorem inc_app {g : Nat → Int} : ∀ (a b : List Tr) (f : Nat) (lo hi : Option Int), a ≠ [] → b ≠ [] → IncG g f lo hi (a ++ b) →
    downTo lo (g (f + wide a)) ∧ upTo hi (g (f + wide a)) ∧ IncG g f lo (some (g (f + wide a))) a ∧ IncG g (f + wide a + 1) (some (g (f + wide a))) hi b
  | [], _, _, _, _, h, _, _ => absurd rfl h
  | [t], [], _, _, _, _, h, _ => absurd rfl h
  | [t], u :: r, f, lo, hi, _, _, h => ⟨h.1, h.2.1, trivial, h.2.2⟩
  | t :: u :: r, b, f, lo, hi, _, hb, h => by
    have h' : downTo lo (g (f + t.size)) ∧ upTo hi (g (f + t.size)) ∧ IncG g (f + t.size + 1) (some (g (f + t.size))) hi ((u :: r) ++ b) := h
    obtain ⟨h1, h2, h3⟩ := h'
    obtain ⟨i1, i2, i3, i4⟩ := inc_app (u :: r) b (f + t.size + 1) (some (g (f + t.size))) hi (List.cons_ne_nil _ _) hb h3
    have e : f + wide (t :: u :: r) = f + t.size + 1 + wide (u :: r) := by
      show f + (t.size + 1 + wide (u :: r)) = _
      omega
    rw [e]
    have le := i1 _ rfl
    exact ⟨fun l q => Int.le_trans (h1 l q) le, i2, ⟨h1, fun x q => by cases q; exact le, i3⟩, i4⟩
theorem flat_app {g : Nat → Int} : ∀ (a b : List Tr) (f : Nat) (lo hi : Option Int), a ≠ [] → b ≠ [] → flatRep g f lo hi (a ++ b) = flatRep g f lo (some (g (f + wide a))) a ++ g (f + wide a) :: flatRep g (f + wide a + 1) (some (g (f + wide a))) hi b
  | [], _, _, _, _, h, _ => absurd rfl h
  | [t], [], _, _, _, _, h => absurd rfl h
  | [t], u :: r, f, lo, hi, _, _ => rfl
  | t :: u :: r, b, f, lo, hi, _, hb => by
    have ih := flat_app (g := g) (u :: r) b (f + t.size + 1) (some (g (f + t.size))) hi (List.cons_ne_nil _ _) hb
    have e : f + wide (t :: u :: r) = f + t.size + 1 + wide (u :: r) := by
      show f + (t.size + 1 + wide (u :: r)) = _
      omega
    show repOf g t f lo (some (g (f + t.size))) ++ g (f + t.size) :: flatRep g (f + t.size + 1) (some (g (f + t.size))) hi ((u :: r) ++ b) = _
    rw [ih, e]
    show _ = (repOf g t f lo (some (g (f + t.size))) ++ g (f + t.size) :: flatRep g (f + t.size + 1) (some (g (f + t.size))) (some (g (f + t.size + 1 + wide (u :: r)))) (u :: r)) ++ _
    rw [List.append_assoc]
    rfl
theorem join_rep {g : Nat → Int} (n : Nat) (ts : List Tr) (h : ts ≠ []) (hl : ts.length ≤ 2 ^ n) (f : Nat) (lo hi : Option Int) (hi' : IncG g f lo hi ts) : repOf g (joinT (n + 1) ts) f lo hi = flatRep g f lo hi ts := by
  have z := join_ind (P := fun _ ts t => t.size = wide ts ∧ ∀ f lo hi, IncG g f lo hi ts → repOf g t f lo hi = flatRep g f lo hi ts) (fun _ t => ⟨rfl, fun f lo hi _ => rfl⟩) (fun k a b s t ha hb ⟨z1, h1⟩ ⟨z2, h2⟩ => by
    refine ⟨by show s.size + 1 + t.size = wide (a ++ b); rw [wide_app a b ha hb, z1, z2], fun f lo hi q => ?_⟩
    obtain ⟨i1, i2, i3, i4⟩ := inc_app a b f lo hi ha hb q
    rw [flat_app a b f lo hi ha hb, repOf_nod, z1, clamp_id i1 i2, h1 f lo _ i3, h2 _ _ hi i4]) n ts h hl
  exact z.2 f lo hi hi'
/-! ### the blocks of a goal -/
def Chain (r : Nat → Int) : Nat → List (Nat × Nat) → Nat → Prop
  | a, [], n => a = n
  | a, (x, y) :: rest, n => x = a ∧ a < y ∧ y ≤ n ∧ (∀ i, a ≤ i → i < y → r i = r a) ∧ (y < n → r y ≠ r (y - 1)) ∧ Chain r y rest n
def isFirst (r : Nat → Int) (i : Nat) : Bool := decide (i = 0) || !decide (r (i - 1) = r i)
def firstsOf (r : Nat → Int) (n : Nat) : List Nat := (List.range n).filter (isFirst r)
def pairsOf (r : Nat → Int) (n : Nat) : List (Nat × Nat) := (firstsOf r n).zip ((firstsOf r n).drop 1 ++ [n])
theorem const_to {r : Nat → Int} {a y : Nat} (h : ∀ i, a < i → i < y → r (i - 1) = r i) : ∀ (k i : Nat), i = a + k → i < y → r i = r a
  | 0, i, e, _ => by rw [e]; rfl
  | k + 1, i, e, hy => by
    have ih := const_to h k (i - 1) (by omega) (by omega)
    rw [← h i (by omega) hy]
    exact ih
theorem chain_of {r : Nat → Int} {n : Nat} : ∀ (l : List Nat) (a : Nat), a < n → (a :: l).Pairwise (· < ·) → (∀ i, i ∈ l → i < n) → (∀ i, a < i → i < n → (r (i - 1) ≠ r i ↔ i ∈ l)) → Chain r a ((a :: l).zip (l ++ [n])) n
  | [], a, ha, _, _, h => by
    refine ⟨rfl, ha, Nat.le_refl _, fun i h1 h2 => const_to (fun i h3 h4 => ?_) (i - a) i (by omega) h2, fun q => absurd q (Nat.lt_irrefl _), rfl⟩
    by_cases e : r (i - 1) = r i
    · exact e
    · exact absurd ((h i h3 h4).mp e) (by simp)
  | b :: l, a, ha, hp, hl, h => by
    obtain ⟨p1, p2⟩ := List.pairwise_cons.mp hp
    obtain ⟨p3, p4⟩ := List.pairwise_cons.mp p2
    have ab := p1 b List.mem_cons_self
    have bn := hl b List.mem_cons_self
    have ih := chain_of l b bn p2 (fun i hi => hl i (List.mem_cons_of_mem _ hi)) fun i h1 h2 => by
      rw [h i (by omega) h2]
      constructor
      · intro q
        rcases List.mem_cons.mp q with q | q
        · omega
        · exact q
      · exact fun q => List.mem_cons_of_mem _ q
    refine ⟨rfl, ab, Nat.le_of_lt bn, fun i h1 h2 => const_to (fun i h3 h4 => ?_) (i - a) i (by omega) h2, fun _ => fun z => ((h b ab bn).mpr List.mem_cons_self) z.symm, ih⟩
    by_cases e : r (i - 1) = r i
    · exact e
    · rcases List.mem_cons.mp ((h i h3 (by omega)).mp e) with q | q
      · omega
      · have := p3 i q
        omega
theorem chain_pairs (r : Nat → Int) (n : Nat) : Chain r 0 (pairsOf r n) n := by
  by_cases c : n = 0
  · rw [c]
    rfl
  have hp : (firstsOf r n).Pairwise (· < ·) := (List.pairwise_lt_range (n := n)).sublist List.filter_sublist
  have h0 : 0 ∈ firstsOf r n := List.mem_filter.mpr ⟨List.mem_range.mpr (by omega), rfl⟩
  unfold pairsOf
  have mem : ∀ i, i ∈ firstsOf r n → i < n := fun i hi => List.mem_range.mp (List.mem_filter.mp hi).1
  have iff : ∀ i, 0 < i → i < n → (r (i - 1) ≠ r i ↔ i ∈ firstsOf r n) := fun i h1 h2 => by
    unfold firstsOf
    rw [List.mem_filter, List.mem_range]
    unfold isFirst
    rw [decide_eq_false (show ¬ i = 0 by omega), Bool.false_or]
    simp [h2]
  cases e : firstsOf r n with
  | nil =>
    rw [e] at h0
    cases h0
  | cons x l =>
    rw [e] at hp h0 mem iff
    have x0 : x = 0 := by
      rcases List.mem_cons.mp h0 with q | q
      · exact q.symm
      · have := (List.pairwise_cons.mp hp).1 0 q
        omega
    rw [x0] at hp mem iff ⊢
    refine chain_of l 0 (by omega) hp (fun i hi => mem i (List.mem_cons_of_mem _ hi)) fun i h1 h2 => ?_
    rw [iff i h1 h2]
    constructor
    · intro q
      rcases List.mem_cons.mp q with q | q
      · omega
      · exact q
    · exact fun q => List.mem_cons_of_mem _ q
/-! ### the tree -/
def findIn (g r : Nat → Int) (a b : Nat) : Option Nat := if g a < r a ∨ g (b - 1) > r a then none else (List.range (b - a)).find? fun k => decide (g (a + k) = r a)
def partsFrom (g r : Nat → Int) : List (Nat × Nat) → Nat → Option (List Tr)
  | [], low => some [passT low 0]
  | (a, b) :: rest, low => match findIn g r a b with
    | none => none
    | some p => (partsFrom g r rest (b - a - p - 1)).map (passT low p :: ·)
theorem find_in {g r : Nat → Int} {a b p : Nat} (h : findIn g r a b = some p) : r a ≤ g a ∧ g (b - 1) ≤ r a ∧ p < b - a ∧ g (a + p) = r a := by
  unfold findIn at h
  by_cases c : g a < r a ∨ g (b - 1) > r a
  · rw [if_pos c] at h
    cases h
  · rw [if_neg c] at h
    obtain ⟨h1, h2, _⟩ := List.find?_range_eq_some.mp h
    exact ⟨by omega, by omega, List.mem_range.mp h2, of_decide_eq_true h1⟩
theorem parts_ne {g r : Nat → Int} : ∀ {ps : List (Nat × Nat)} {low : Nat} {ts : List Tr}, partsFrom g r ps low = some ts → ts ≠ []
  | [], low, ts, h => by
    cases h
    exact List.cons_ne_nil _ _
  | (a, b) :: rest, low, ts, h => by
    have h' : (match findIn g r a b with | none => none | some p => (partsFrom g r rest (b - a - p - 1)).map (passT low p :: ·)) = some ts := h
    cases e : findIn g r a b with
    | none => rw [e] at h'; cases h'
    | some p =>
      rw [e] at h'
      obtain ⟨ts', _, rfl⟩ := Option.map_eq_some_iff.mp h'
      exact List.cons_ne_nil _ _
theorem parts_rep {g r : Nat → Int} {n : Nat} (hn : n ≤ 64) (up : ∀ i, i + 1 < n → r i ≤ r (i + 1)) : ∀ (ps : List (Nat × Nat)) (a low : Nat) (lo : Option Int) (v : Int) (ts : List Tr), Chain r a ps n → partsFrom g r ps low = some ts → low ≤ a →
    (a < n → downTo lo (r a)) → (0 < low → lo = some v ∧ g (a - 1) ≤ v) → IncG g (a - low) lo none ts ∧ flatRep g (a - low) lo none ts = List.replicate low v ++ (List.range (n - a)).map (fun i => r (a + i)) ∧ a - low + wide ts = n ∧ ts.length ≤ n - a + 1 ∧ ∀ t, t ∈ ts → t.ht ≤ 10
  | [], a, low, lo, v, ts, hc, h, hla, _, hl => by
    cases h
    have e : a = n := hc
    refine ⟨trivial, ?_, ?_, Nat.le_add_left _ _, fun t ht => by rw [List.mem_singleton.mp ht]; exact passT_ht low 0⟩
    · show repOf g (passT low 0) (a - low) lo none = _
      rw [rep_pass (a := v) (b := 0) (by omega) (Nat.zero_le _) (fun l h _ q => by cases q) (fun q => by rw [show a - low + low - 1 = a - 1 by omega]; exact hl q) (fun q => absurd q (Nat.lt_irrefl 0)), show n - a = 0 by omega]
      rfl
    · show a - low + (passT low 0).size = n
      rw [passT_size (by omega) (Nat.zero_le _)]
      omega
  | (x, y) :: rest, a, low, lo, v, ts, hc, h, hla, hd, hl => by
    obtain ⟨rfl, c1, c2, c3, c4, c5⟩ := hc
    have h' : (match findIn g r x y with | none => none | some p => (partsFrom g r rest (y - x - p - 1)).map (passT low p :: ·)) = some ts := h
    cases e : findIn g r x y with
    | none => rw [e] at h'; cases h'
    | some p =>
      rw [e] at h'
      obtain ⟨ts', ht', rfl⟩ := Option.map_eq_some_iff.mp h'
      obtain ⟨f1, f2, f3, f4⟩ := find_in e
      have last : r (y - 1) = r x := c3 (y - 1) (by omega) (by omega)
      obtain ⟨i1, i2, i3, i4, i5⟩ := parts_rep hn up rest y (y - x - p - 1) (some (r x)) (r x) ts' c5 ht' (by omega) (fun q l z => by
        cases z
        have := up (y - 1) (by omega)
        rw [last, show y - 1 + 1 = y by omega] at this
        exact this) (fun _ => ⟨rfl, f2⟩)
      have ne := parts_ne ht'
      have ea : y - (y - x - p - 1) = x + p + 1 := by omega
      rw [ea] at i1 i2 i3
      have sz : (passT low p).size = low + p := passT_size (by omega) (by omega)
      have es : x - low + (passT low p).size = x + p := by
        rw [sz]
        omega
      cases ts' with
      | nil => exact absurd rfl ne
      | cons u w =>
        refine ⟨?_, ?_, ?_, ?_, fun t ht => ?_⟩
        · show downTo lo (g (x - low + (passT low p).size)) ∧ upTo none (g (x - low + (passT low p).size)) ∧ IncG g (x - low + (passT low p).size + 1) (some (g (x - low + (passT low p).size))) none (u :: w)
          rw [es, f4]
          exact ⟨hd (by omega), fun l z => (by cases z), i1⟩
        · show repOf g (passT low p) (x - low) lo (some (g (x - low + (passT low p).size))) ++ g (x - low + (passT low p).size) :: flatRep g (x - low + (passT low p).size + 1) (some (g (x - low + (passT low p).size))) none (u :: w) = _
          rw [es, f4, i2, rep_pass (a := v) (b := r x) (by omega) (by omega) (fun l h z1 z2 => by cases z2; exact hd (by omega) l z1) (fun q => by rw [show x - low + low - 1 = x - 1 by omega]; exact hl q) (fun _ => ⟨rfl, by rw [show x - low + low = x by omega]; exact f1⟩)]
          rw [List.append_assoc]
          congr 1
          have split : (List.range (n - x)).map (fun i => r (x + i)) = List.replicate (y - x) (r x) ++ (List.range (n - y)).map (fun i => r (y + i)) := by
            rw [show n - x = (y - x) + (n - y) by omega, List.range_add, List.map_append, List.map_map]
            congr 1
            · refine List.ext_getElem (by simp) fun i q1 q2 => ?_
              rw [List.length_map, List.length_range] at q1
              rw [List.getElem_map, List.getElem_range, List.getElem_replicate]
              exact c3 (x + i) (by omega) (by omega)
            · exact List.map_congr_left fun i _ => congrArg r (by show x + (y - x + i) = y + i; omega)
          rw [split, show y - x = p + (1 + (y - x - p - 1)) by omega, ← List.replicate_append_replicate, ← List.replicate_append_replicate, show p + (1 + (y - x - p - 1)) - p - 1 = y - x - p - 1 by omega, List.append_assoc, List.append_assoc]
          rfl
        · show x - low + ((passT low p).size + 1 + wide (u :: w)) = n
          omega
        · rw [List.length_cons]
          omega
        · rcases List.mem_cons.mp ht with q | q
          · rw [q]
            exact passT_ht low p
          · exact i5 t q
def treeFor (g r : Nat → Int) (n : Nat) : Option Tr := (partsFrom g r (pairsOf r n) 0).map (joinT 8)
theorem tree_for {g r : Nat → Int} {n : Nat} {t : Tr} (hn : n ≤ 64) (up : ∀ i, i + 1 < n → r i ≤ r (i + 1)) (h : treeFor g r n = some t) : repOf g t 0 none none = (List.range n).map r ∧ t.size = n ∧ t.ht ≤ 17 := by
  obtain ⟨ts, ht, rfl⟩ := Option.map_eq_some_iff.mp h
  obtain ⟨i1, i2, i3, i4, i5⟩ := parts_rep hn up (pairsOf r n) 0 0 none 0 ts (chain_pairs r n) ht (Nat.le_refl _) (fun _ l z => by cases z) (fun q => absurd q (Nat.lt_irrefl 0))
  have ne := parts_ne ht
  have few : ts.length ≤ 2 ^ 7 := by
    show ts.length ≤ 128
    omega
  rw [Nat.sub_zero] at i1 i2 i3 i4
  refine ⟨?_, ?_, ?_⟩
  · rw [join_rep 7 ts ne few 0 none none i1, i2]
    show [] ++ _ = _
    rw [List.nil_append]
    exact List.map_congr_left fun i _ => congrArg r (Nat.zero_add i)
  · rw [join_size 7 ts ne few]
    omega
  · exact join_ht 10 7 ts ne few i5
/-- where the three looks at each block succeed, there is one -/
theorem parts_some {g r : Nat → Int} {n : Nat} (ok : GoalOk g r n) : ∀ (ps : List (Nat × Nat)) (a low : Nat), Chain r a ps n → (a = 0 ∨ a = n ∨ r (a - 1) ≠ r a) → partsFrom g r ps low ≠ none
  | [], a, low, _, _ => fun z => by cases z
  | (x, y) :: rest, a, low, hc, hs => by
    obtain ⟨rfl, c1, c2, c3, c4, c5⟩ := hc
    have xn : x < n := by omega
    have mono : ∀ (k i : Nat), i + k < n → r i ≤ r (i + k) := fun k => by
      induction k with
      | zero => intro i _; exact Int.le_refl _
      | succ k ih =>
        intro i h
        exact Int.le_trans (ih i (by omega)) (ok.up (i + k) h)
    have st : r x ≤ g x := ok.st x xn (by
      rcases hs with q | q | q
      · exact .inl q
      · omega
      · exact .inr q)
    have last : r (y - 1) = r x := c3 (y - 1) (by omega) (by omega)
    have en : g (y - 1) ≤ r x := by
      rw [← last]
      refine ok.en (y - 1) (by omega) ?_
      by_cases q : y < n
      · refine .inr ?_
        rw [show y - 1 + 1 = y by omega]
        exact c4 q
      · exact .inl (by omega)
    obtain ⟨j, j1, j2, j3⟩ := ok.ex x xn
    have hj : x ≤ j ∧ j < y := by
      constructor
      · by_cases q : x ≤ j
        · exact q
        · have h1 := mono (x - 1 - j) j (by omega)
          rw [show j + (x - 1 - j) = x - 1 by omega] at h1
          have h2 := mono 1 (x - 1) (by omega)
          rw [show x - 1 + 1 = x by omega] at h2
          rcases hs with z | z | z
          · omega
          · omega
          · exact absurd (by omega) z
      · by_cases q : j < y
        · exact q
        · have h1 := mono (j - y) y (by omega)
          rw [show y + (j - y) = j by omega] at h1
          have h2 := mono 1 (y - 1) (by omega)
          rw [show y - 1 + 1 = y by omega] at h2
          exact absurd (by omega) (c4 (by omega))
    have e : findIn g r x y ≠ none := by
      unfold findIn
      rw [if_neg (by omega)]
      intro z
      have := List.find?_range_eq_none.mp z (j - x) (by omega)
      rw [show x + (j - x) = j by omega, decide_eq_true j3] at this
      cases this
    intro z
    have z' : (match findIn g r x y with | none => none | some p => (partsFrom g r rest (y - x - p - 1)).map (passT low p :: ·)) = none := z
    cases e2 : findIn g r x y with
    | none => exact e e2
    | some p =>
      rw [e2] at z'
      exact parts_some ok rest y (y - x - p - 1) c5 (by
        by_cases q : y < n
        · exact .inr (.inr (Ne.symm (c4 q)))
        · exact .inr (.inl (by omega))) (Option.map_eq_none_iff.mp z')
theorem tree_some {g r : Nat → Int} {n : Nat} (ok : GoalOk g r n) : treeFor g r n ≠ none := fun z =>
  parts_some ok (pairsOf r n) 0 0 (chain_pairs r n) (.inl rfl) (Option.map_eq_none_iff.mp z)
end HSP
namespace HSP
open PySem PySem.Spec PyProof.Rows L2
/-! ## the representative, cut from the root down -/
def capHi (c : Int) : Option Int → Int
  | none => c
  | some h => if h < c then h else c
def minI (v c : Int) : Int := if c < v then c else v
def maxI (v c : Int) : Int := if c > v then c else v
def capLo (c : Int) : Option Int → Int
  | none => c
  | some l => if l > c then l else c
theorem clamp_cap {lo hi : Option Int} {c v : Int} (s : Straight lo hi) : clamp (lo.map fun l => minI l c) (some (capHi c hi)) v = minI (clamp lo hi v) c := by
  cases lo with
  | none => cases hi with
    | none =>
      show (if v ≥ c then c else v) = if c < v then c else v
      split <;> split <;> omega
    | some h =>
      show (if v ≥ (if h < c then h else c) then (if h < c then h else c) else v) = if c < (if v ≥ h then h else v) then c else if v ≥ h then h else v
      repeat' split
      all_goals omega
  | some l => cases hi with
    | none =>
      show (if v ≤ (if c < l then c else l) then (if c < l then c else l) else if v ≥ c then c else v) = if c < (if v ≤ l then l else v) then c else if v ≤ l then l else v
      repeat' split
      all_goals omega
    | some h =>
      have := s l h rfl rfl
      show (if v ≤ (if c < l then c else l) then (if c < l then c else l) else if v ≥ (if h < c then h else c) then (if h < c then h else c) else v) = if c < (if v ≤ l then l else if v ≥ h then h else v) then c else if v ≤ l then l else if v ≥ h then h else v
      repeat' split
      all_goals omega
theorem rep_cap {g : Nat → Int} {c : Int} : ∀ (t : Tr) (f : Nat) (lo hi : Option Int), Straight lo hi → repOf g t f (lo.map fun l => minI l c) (some (capHi c hi)) = (repOf g t f lo hi).map fun v => minI v c
  | .nil, _, _, _, _ => rfl
  | .nod l r, f, lo, hi, s => by
    obtain ⟨s1, s2⟩ := clamp_in s (g (f + l.size))
    have h1 := rep_cap (g := g) (c := c) l f lo (some (clamp lo hi (g (f + l.size)))) s1
    have h2 := rep_cap (g := g) (c := c) r (f + l.size + 1) (some (clamp lo hi (g (f + l.size)))) hi s2
    rw [repOf_nod, repOf_nod, clamp_cap s, List.map_append, List.map_cons]
    have e1 : capHi c (some (clamp lo hi (g (f + l.size)))) = minI (clamp lo hi (g (f + l.size))) c := by
      show (if clamp lo hi (g (f + l.size)) < c then clamp lo hi (g (f + l.size)) else c) = if c < clamp lo hi (g (f + l.size)) then c else clamp lo hi (g (f + l.size))
      repeat' split
      all_goals omega
    rw [e1] at h1
    rw [h1]
    exact congrArg (fun z => _ ++ _ :: z) h2
theorem clamp_floor {lo hi : Option Int} {c v : Int} (s : Straight lo hi) : clamp (some (capLo c lo)) (hi.map fun h => maxI h c) v = maxI (clamp lo hi v) c := by
  cases lo with
  | none => cases hi with
    | none =>
      show (if v ≤ c then c else v) = if c > v then c else v
      split <;> split <;> omega
    | some h =>
      show (if v ≤ c then c else if v ≥ (if c > h then c else h) then (if c > h then c else h) else v) = if c > (if v ≥ h then h else v) then c else if v ≥ h then h else v
      repeat' split
      all_goals omega
  | some l => cases hi with
    | none =>
      show (if v ≤ (if l > c then l else c) then (if l > c then l else c) else v) = if c > (if v ≤ l then l else v) then c else if v ≤ l then l else v
      repeat' split
      all_goals omega
    | some h =>
      have := s l h rfl rfl
      show (if v ≤ (if l > c then l else c) then (if l > c then l else c) else if v ≥ (if c > h then c else h) then (if c > h then c else h) else v) = if c > (if v ≤ l then l else if v ≥ h then h else v) then c else if v ≤ l then l else if v ≥ h then h else v
      repeat' split
      all_goals omega
theorem rep_floor {g : Nat → Int} {c : Int} : ∀ (t : Tr) (f : Nat) (lo hi : Option Int), Straight lo hi → repOf g t f (some (capLo c lo)) (hi.map fun h => maxI h c) = (repOf g t f lo hi).map fun v => maxI v c
  | .nil, _, _, _, _ => rfl
  | .nod l r, f, lo, hi, s => by
    obtain ⟨s1, s2⟩ := clamp_in s (g (f + l.size))
    have h1 := rep_floor (g := g) (c := c) l f lo (some (clamp lo hi (g (f + l.size)))) s1
    have h2 := rep_floor (g := g) (c := c) r (f + l.size + 1) (some (clamp lo hi (g (f + l.size)))) hi s2
    rw [repOf_nod, repOf_nod, clamp_floor s, List.map_append, List.map_cons]
    have e1 : capLo c (some (clamp lo hi (g (f + l.size)))) = maxI (clamp lo hi (g (f + l.size))) c := by
      show (if clamp lo hi (g (f + l.size)) > c then clamp lo hi (g (f + l.size)) else c) = if c > clamp lo hi (g (f + l.size)) then c else clamp lo hi (g (f + l.size))
      repeat' split
      all_goals omega
    rw [e1] at h2
    rw [h2]
    exact congrArg (fun z => z ++ _) h1
theorem rep_congr {g g' : Nat → Int} : ∀ (t : Tr) (f f' : Nat) (lo hi : Option Int), (∀ i, i < t.size → g (f + i) = g' (f' + i)) → repOf g t f lo hi = repOf g' t f' lo hi
  | .nil, _, _, _, _, _ => rfl
  | .nod l r, f, f', lo, hi, h => by
    have z : (Tr.nod l r).size = l.size + 1 + r.size := rfl
    rw [z] at h
    rw [repOf_nod, repOf_nod, h l.size (by omega), rep_congr l f f' lo _ (fun i hi => h i (by omega)), rep_congr r (f + l.size + 1) (f' + l.size + 1) _ hi (fun i hi => by
      have := h (l.size + 1 + i) (by omega)
      rw [show f + (l.size + 1 + i) = f + l.size + 1 + i by omega, show f' + (l.size + 1 + i) = f' + l.size + 1 + i by omega] at this
      exact this)]
/-- the cut of a tree and a list -/
def cutT (t : Tr) (ns : List Int) : List Int := repOf (valAt ns) t 0 none none
theorem cut_len (t : Tr) (ns : List Int) : (cutT t ns).length = t.size := repOf_len _ _ _ _ _
theorem cut_nod {l r : Tr} {ns : List Int} (h : ns.length = l.size + 1 + r.size) :
    cutT (.nod l r) ns = ((cutT l (ns.take l.size)).map fun v => minI v (valAt ns l.size)) ++ valAt ns l.size :: (cutT r (ns.drop (l.size + 1))).map fun v => maxI v (valAt ns l.size) := by
  unfold cutT
  rw [repOf_nod, Nat.zero_add]
  have ec : clamp none none (valAt ns l.size) = valAt ns l.size := rfl
  rw [ec]
  have h1 := rep_cap (g := valAt ns) (c := valAt ns l.size) l 0 none none straight_none
  have h2 := rep_floor (g := valAt ns) (c := valAt ns l.size) r (l.size + 1) none none straight_none
  have h1 : repOf (valAt ns) l 0 none (some (valAt ns l.size)) = (repOf (valAt ns) l 0 none none).map fun v => minI v (valAt ns l.size) := h1
  have h2 : repOf (valAt ns) r (l.size + 1) (some (valAt ns l.size)) none = (repOf (valAt ns) r (l.size + 1) none none).map fun v => maxI v (valAt ns l.size) := h2
  rw [h1, h2, rep_congr (g := valAt ns) (g' := valAt (ns.take l.size)) l 0 0 none none (fun i hi => by
    unfold valAt
    rw [List.getD_eq_getElem?_getD, List.getD_eq_getElem?_getD, List.getElem?_take, if_pos (by omega)]), rep_congr (g := valAt ns) (g' := valAt (ns.drop (l.size + 1))) r (l.size + 1) 0 none none (fun i hi => by
    unfold valAt
    rw [List.getD_eq_getElem?_getD, List.getD_eq_getElem?_getD, List.getElem?_drop, Nat.zero_add])]
/-! ### equal lists of numbers -/
theorem ints_eqv : ∀ a b : List Int, PyData.eqv (intsD a) (intsD b) = decide (a = b) := by
  have key : ∀ a b : List Int, PyData.eqvAll (a.map PyData.int) (b.map PyData.int) = decide (a = b) := fun a => by
    induction a with
    | nil =>
      intro b
      cases b with
      | nil => simp [PyData.eqvAll]
      | cons => simp [PyData.eqvAll]
    | cons x r ih =>
      intro b
      cases b with
      | nil => simp [PyData.eqvAll]
      | cons y s =>
        have := ih s
        simp only [List.map_cons, PyData.eqvAll, PyData.eqv, this]
        by_cases c : x = y
        · by_cases d : r = s
          · rw [c, d]
            simp
          · rw [decide_eq_false d, Bool.and_false, decide_eq_false (fun z => d (List.cons.inj z).2)]
        · rw [decide_eq_false (fun z => c (List.cons.inj z).1)]
          have : (x == y) = false := beq_eq_false_iff_ne.mpr c
          rw [this, Bool.false_and]
  intro a b
  unfold intsD
  simp only [PyData.eqv]
  exact key a b
theorem ints_any (x : List Int) : ∀ E : List (List Int), ((E.map intsD).any fun z => PyData.eqv z (intsD x)) = decide (x ∈ E)
  | [] => rfl
  | e :: E => by
    rw [List.map_cons, List.any_cons, ints_eqv, ints_any x E]
    by_cases c : e = x
    · rw [decide_eq_true c, Bool.true_or, decide_eq_true (List.mem_cons.mpr (.inl c.symm))]
    · rw [decide_eq_false c, Bool.false_or]
      by_cases d : x ∈ E
      · rw [decide_eq_true d, decide_eq_true (List.mem_cons_of_mem _ d)]
      · rw [decide_eq_false d, decide_eq_false (fun z => (List.mem_cons.mp z).elim (fun q => c q.symm) d)]
def listsD (E : List (List Int)) : PyData := .list (E.map intsD)
theorem lists_can : ∀ E : List (List Int), PyData.canLayAll0 (E.map intsD) = true
  | [] => by simp [PyData.canLayAll0]
  | e :: E => by
    have ih := lists_can E
    have h1 : PyData.canLay0 (intsD e) = true := by
      unfold intsD
      simp only [PyData.canLay0]
      exact ints_can e
    simp only [List.map_cons, PyData.canLayAll0, h1, ih, Bool.and_self]
theorem lists_deep : ∀ E : List (List Int), PyData.depthAll (E.map intsD) ≤ 3
  | [] => by simp [PyData.depthAll]
  | e :: E => by
    have ih := lists_deep E
    have h1 := ints_deep e
    have h2 : (intsD e).depth ≤ 2 := by
      unfold intsD
      simp only [PyData.depth]
      omega
    simp only [List.map_cons, PyData.depthAll]
    omega
theorem lists_shaped (E : List (List Int)) : SeqAt.shaped (listsD E) = true := by
  unfold SeqAt.shaped
  rw [Bool.and_eq_true]
  have h1 := lists_deep E
  refine ⟨?_, decide_eq_true ?_⟩
  · unfold listsD
    simp only [PyData.canLay0]
    exact lists_can E
  · unfold listsD
    simp only [PyData.depth]
    omega
theorem lists_dp {K : PySem.W.Frag} {H : Hp} {as : List Addr} {E : List (List Int)} (p : Paired (fun a (l : List Int) => H a = some (.lst (l.map V.int))) as E) : DpAll K H (as.map V.ref) (E.map intsD) := by
  induction p with
  | nil => exact .nil
  | cons e _ ih => exact .cons (.lst (.of e) (ints_dpAll _)) ih
end HSP
namespace HSP
open PySem PySem.Spec PyProof.Rows L2
/-! ### sorted lists with the same numbers -/
theorem sorted_same : ∀ {l m : List Int}, l.Perm m → l.Pairwise (· ≤ ·) → m.Pairwise (· ≤ ·) → l = m
  | [], m, p, _, _ => p.nil_eq
  | a :: l, [], p, _, _ => absurd p.length_eq (by simp)
  | a :: l, b :: m, p, hl, hm => by
    obtain ⟨l1, l2⟩ := List.pairwise_cons.mp hl
    obtain ⟨m1, m2⟩ := List.pairwise_cons.mp hm
    have e : a = b := by
      have h1 : a ≤ b := by
        rcases List.mem_cons.mp (p.mem_iff.mpr (List.mem_cons_self : b ∈ b :: m)) with z | z
        · omega
        · exact l1 b z
      have h2 : b ≤ a := by
        rcases List.mem_cons.mp (p.mem_iff.mp (List.mem_cons_self : a ∈ a :: l)) with z | z
        · omega
        · exact m1 a z
      omega
    subst e
    rw [sorted_same (List.perm_cons a |>.mp p) l2 m2]
theorem range_up (n : Nat) : ((List.range n).map Int.ofNat).Pairwise (· ≤ ·) := by
  rw [List.pairwise_map]
  exact (List.pairwise_lt_range (n := n)).imp fun h => Int.ofNat_le.mpr (Nat.le_of_lt h)
end HSP
namespace HSP
open PySem PySem.Spec PyProof.Rows L2
/-! ### things made of lists and whatever -/
def NotL (K : PySem.W.Frag) (H : Hp) (y : V) : Prop := ∃ t, TyX K H y t ∧ PySem.W.kitOne K t (.type "list") = some false
theorem NotL.same {K : PySem.W.Frag} {H H' : Hp} {y : V} (s : Same H H') (h : NotL K H y) : NotL K H' y := by
  obtain ⟨t, ty, k⟩ := h
  exact ⟨t, TyX.same s ty, k⟩
/-- an item: a whole number, or something else -/
def ItemAt (K : PySem.W.Frag) (H : Hp) (x : V) : Option Int → Prop
  | some i => x = .int i
  | none => WholeV K H x false
/-- a row: a list of items, or something else -/
def RowAt (K : PySem.W.Frag) (H : Hp) (y : V) : Option (List (Option Int)) → Prop
  | none => NotL K H y
  | some is => ∃ (a : Addr) (xs : List V), y = .ref a ∧ H a = some (.lst xs) ∧ Paired (ItemAt K H) xs is
def ThingAt (K : PySem.W.Frag) (H : Hp) (y : V) : Option (List (Option (List (Option Int)))) → Prop
  | none => NotL K H y
  | some ks => ∃ (a : Addr) (xs : List V), y = .ref a ∧ H a = some (.lst xs) ∧ Paired (RowAt K H) xs ks
theorem ItemAt.same {K : PySem.W.Frag} {H H' : Hp} (s : Same H H') {x : V} : ∀ {i : Option Int}, ItemAt K H x i → ItemAt K H' x i
  | some _, h => h
  | none, h => WholeV.same s h
theorem RowAt.same {K : PySem.W.Frag} {H H' : Hp} (s : Same H H') {y : V} : ∀ {k : Option (List (Option Int))}, RowAt K H y k → RowAt K H' y k
  | none, h => NotL.same s h
  | some _, ⟨a, xs, e, ha, p⟩ => ⟨a, xs, e, s _ _ ha, Paired.mapP p fun _ _ h => ItemAt.same s h⟩
theorem ThingAt.same {K : PySem.W.Frag} {H H' : Hp} (s : Same H H') {y : V} : ∀ {k : Option (List (Option (List (Option Int))))}, ThingAt K H y k → ThingAt K H' y k
  | none, h => NotL.same s h
  | some _, ⟨a, xs, e, ha, p⟩ => ⟨a, xs, e, s _ _ ha, Paired.mapP p fun _ _ h => RowAt.same s h⟩
def rowLen : Option (List (Option Int)) → Nat
  | none => 0
  | some is => is.length
/-- not too great -/
def ThSmall : Option (List (Option (List (Option Int)))) → Prop
  | none => True
  | some ks => ks.length ≤ 100 ∧ ∀ k, k ∈ ks → rowLen k ≤ 200
/-- rows of whole numbers -/
def asRows (rws : List (List Int)) : Option (List (Option (List (Option Int)))) := some (rws.map fun r => some (r.map some))
def SplitK (th : Option (List (Option (List (Option Int))))) (n : Nat) : Prop := ∃ rws : List (List Int), th = asRows rws ∧ (∀ r, r ∈ rws → r ≠ []) ∧ rws.flatten.Perm ((List.range n).map Int.ofNat)
theorem flat_le (c : Nat) : ∀ {l : List (List Int)}, (∀ r, r ∈ l → r.length ≤ c) → l.flatten.length ≤ c * l.length
  | [], _ => Nat.zero_le _
  | x :: r, h => by
    have ih := flat_le c (l := r) fun y hy => h y (List.mem_cons_of_mem _ hy)
    have h1 := h x List.mem_cons_self
    rw [List.flatten_cons, List.length_append, List.length_cons, Nat.mul_succ]
    omega
theorem some_inj : ∀ {a b : List Int}, a.map some = b.map (some : Int → Option Int) → a = b
  | [], [], _ => rfl
  | [], _ :: _, h => by cases h
  | _ :: _, [], h => by cases h
  | x :: a, y :: b, h => by
    rw [List.map_cons, List.map_cons] at h
    obtain ⟨h1, h2⟩ := List.cons.inj h
    rw [Option.some.inj h1, some_inj h2]
section
variable {P : Program} {w : World} {K : PySem.W.Frag} {mg : Str → Option Value} {base : Heap}
theorem sc_splitX : FnScope n_is_split ["thing", "nodes"] (defScope s_is_split) := ⟨rfl, rfl, rfl, by decide +kernel, rfl, by decide +kernel, by decide +kernel⟩
def spSplitX (K : PySem.W.Frag) : Sp := fun vs H Q _ => ∃ (y : V) (N : Addr) (th : Option (List (Option (List (Option Int))))) (n : Nat), vs = [y, .ref N] ∧ ThingAt K H y th ∧ ThSmall th ∧ H N = some (.lst ((List.range n).map natV)) ∧ n ≤ 900 ∧ ∀ (H' : Hp) (b : Bool), Same H H' → (b = true ↔ SplitK th n) → Q (.bl b) H'
theorem ok_splitX (B : Bl mg) (Wh : Df P w K mg base "is_whole" 1 ["thing"] (spWholeX K)) (a : At K mg "is_split" s_is_split) : Df P w K mg base "is_split" 2 ["thing", "nodes"] (spSplitX K) := by
  refine Df.mk' a sc_splitX (fun vs H Q E h => ?_) (fun _ _ _ _ _ _ us hl => match us, hl with | [_, _], _ => rfl) (fun f cdv A outer s H vs Q E hr h => ?_)
  · obtain ⟨_, _, _, _, rfl, _⟩ := h
    rfl
  obtain ⟨y, N, th, n, rfl, hth, sm, eN, h900, q⟩ := h
  have zero : 0 ≤ sizeLine := by show 0 ≤ sizeLine; decide
  have no : ∀ H', Same H H' → ¬ SplitK th n → Q (.bl false) H' := fun H' s h => q H' false s ⟨fun z => (by cases z), fun z => absurd z h⟩
  refine ⟨_, (pss_cons (ps_if (pt_not (pt_val (pe_callB call_isi (by rfl) B.isinstance (by decide +kernel) (pa_cons (pv 0) (pa_cons (pe_bltn (v := .ty "list") (by rfl) B.list (by decide +kernel) rfl) pa_nil))))) (pss_one (ps_ret pe_bl)) pss_nil)
 (pss_cons (ps_set (i := 2) sc_splitX.nd rfl (.inl rfl) (pe_lst pa_nil))
 (pss_cons (ps_for PassesOwn.never rfl (pi_list (pv 0)) (pg_name (i := 3) sc_splitX.nd rfl (.inl rfl)) (pss_cons (ps_if (PW.pt (pw_or (pt_not (pt_val (pe_callB call_isi (by rfl) B.isinstance (by decide +kernel) (pa_cons (pv 3) (pa_cons (pe_bltn (v := .ty "list") (by rfl) B.list (by decide +kernel) rfl) pa_nil))))) (pw_or1 (pt_cmpR op_eq (pe_callB call_len_seq (by rfl) B.len PySem.boot_len (pa_cons (pv 3) pa_nil)) pe_int (nomark _))))) (pss_one (ps_ret pe_bl)) pss_nil)
 (pss_one (ps_for PassesOwn.never rfl (pi_list (pv 3)) (pg_name (i := 4) sc_splitX.nd rfl (.inl rfl)) (pss_cons (ps_if (pt_not (pt_val (pe_df Wh hr (pa_cons (pv 4) pa_nil)))) (pss_one (ps_ret pe_bl)) pss_nil)
 (pss_one (ps_expr (pe_bm PySem.F.plainAttrs_list PySem.F.slot_list_append PySem.F.type_list_append mt_append (pv 2) (pa_cons (pv 4) pa_nil)))))))))
 (pss_one (ps_ret (pe_cmpR (op_eqD hr.units) (pe_callB cr_sortedI (by rfl) B.sorted (by decide +kernel) (pa_cons (pv 2) pa_nil)) (pv 1) (nomark _))))))), ?_⟩
  cases th with
  | none =>
    obtain ⟨t, ty, k⟩ := hth
    refine ⟨_, rfl, _, _, _, _, false, rfl, .ty "list", ty, k, false, rfl, iteT ?_⟩
    exact no H (Same.refl _) fun ⟨_, h, _⟩ => by cases h
  | some ks =>
  obtain ⟨R, ys, rfl, eR, pR⟩ := hth
  obtain ⟨sm1, sm2⟩ := sm
  have lr := Paired.length pR
  refine ⟨_, rfl, _, _, _, _, true, rfl, .ty "list", .base (.lst eR), rfl, true, rfl, iteF ?_⟩
  refine ⟨zero, fun D hD => ?_⟩
  have sD := Same.new (o := .lst []) hD
  refine ⟨_, rfl, R, rfl, ⟨_, .of (sD _ _ eR)⟩, for_list (xs := ys) (fun i σ H' => ∃ y3 y4 : Option V, σ = [some (.ref R), some (.ref N), some (.ref D), y3, y4] ∧ Same H H' ∧ ∃ rws : List (List Int), ks.take i = rws.map (fun r => some (r.map some)) ∧ (∀ r, r ∈ rws → r ≠ []) ∧ H' D = some (.lst (rws.flatten.map V.int))) ⟨none, none, rfl, sD, [], rfl, fun r h => (by cases h), upd_same⟩ (fun i σ H' _ h' => ?_) (fun i x σ H2 hx h2 => ?_) (fun σ H2 h2 => ?_)⟩
  · obtain ⟨_, _, _, s', _⟩ := h'
    exact .of (s' _ _ eR)
  · obtain ⟨y3, y4, rfl, s2, rws, ek, ne, e2⟩ := h2
    obtain ⟨k, hk, hkx⟩ := Paired.getL pR hx
    have hi := (List.getElem?_eq_some_iff.mp hk).1
    have len : rws.length = i := by
      have := congrArg List.length ek
      rw [List.length_take, List.length_map] at this
      omega
    have bound : ∀ r, r ∈ rws → r.length ≤ 200 := fun r hr2 => by
      have h1 : (some (r.map some) : Option (List (Option Int))) ∈ ks.take i := by rw [ek]; exact List.mem_map.mpr ⟨r, hr2, rfl⟩
      have h2 := sm2 _ (List.mem_of_mem_take h1)
      have h3 : rowLen (some (r.map some)) = r.length := List.length_map _
      omega
    have fl := flat_le 200 bound
    cases k with
    | none =>
      obtain ⟨t, ty, kk⟩ := hkx
      refine ⟨_, rfl, _, _, _, _, false, rfl, .ty "list", TyX.same s2 ty, kk, false, rfl, iteT ?_⟩
      refine no H2 s2 fun ⟨rw2, h, _⟩ => ?_
      have h := Option.some.inj h
      rw [h, List.getElem?_map] at hk
      obtain ⟨_, _, z⟩ := Option.map_eq_some_iff.mp hk
      cases z
    | some is =>
    obtain ⟨r, xs, rfl, er, pi⟩ := hkx
    have er2 := s2 _ _ er
    have lx := Paired.length pi
    have l200 : is.length ≤ 200 := sm2 _ (List.mem_of_getElem? hk)
    refine ⟨_, rfl, _, _, _, _, true, rfl, .ty "list", .base (.lst er2), rfl, true, rfl, iteF ?_⟩
    refine ⟨_, rfl, r, _, rfl, .inl (.of er2), rfl, _, rfl, ?_⟩
    by_cases z : is = []
    · rw [decide_eq_true (show V.int ((xs.length : Nat) : Int) = V.int 0 by rw [lx, z]; rfl)]
      refine iteT ?_
      refine no H2 s2 fun ⟨rw2, h, ne2, _⟩ => ?_
      have h := Option.some.inj h
      rw [h, List.getElem?_map] at hk
      obtain ⟨r2, h1, h2⟩ := Option.map_eq_some_iff.mp hk
      have h3 := Option.some.inj h2
      rw [z] at h3
      exact ne2 r2 (List.mem_of_getElem? h1) (List.map_eq_nil_iff.mp h3)
    have lpos : 0 < is.length := List.length_pos_iff.mpr z
    rw [decide_eq_false (fun z => by have := V.int.inj z; omega)]
    refine iteF ?_
    refine ⟨_, rfl, r, rfl, ⟨_, .of er2⟩, for_list (xs := xs) (fun j σ H' => ∃ y4 : Option V, σ = [some (.ref R), some (.ref N), some (.ref D), some (.ref r), y4] ∧ Same H H' ∧ ∃ js : List Int, is.take j = js.map some ∧ H' D = some (.lst ((rws.flatten ++ js).map V.int))) ⟨y4, rfl, s2, [], rfl, by rw [List.append_nil]; exact e2⟩ (fun j σ H' _ h' => ?_) (fun j x σ H3 hx3 h3 => ?_) (fun σ H3 h3 => ?_)⟩
    · obtain ⟨_, _, s', _⟩ := h'
      exact .of (s' _ _ er)
    · obtain ⟨y5, rfl, s3, js, ej, e3⟩ := h3
      obtain ⟨o, ho, hox⟩ := Paired.getL pi hx3
      have hj := (List.getElem?_eq_some_iff.mp ho).1
      have lj : js.length = j := by
        have := congrArg List.length ej
        rw [List.length_take, List.length_map] at this
        omega
      cases o with
      | none =>
        refine ⟨_, rfl, _, false, rfl, WholeV.same s3 hox, false, rfl, iteT ?_⟩
        refine no H3 s3 fun ⟨rw2, h, _⟩ => ?_
        have h := Option.some.inj h
        rw [h, List.getElem?_map] at hk
        obtain ⟨r2, _, h2⟩ := Option.map_eq_some_iff.mp hk
        rw [← Option.some.inj h2, List.getElem?_map] at ho
        obtain ⟨_, _, z⟩ := Option.map_eq_some_iff.mp ho
        cases z
      | some i2 =>
      cases (show x = V.int i2 from hox)
      refine ⟨_, rfl, _, true, rfl, whole_int, true, rfl, iteF ?_⟩
      refine ⟨_, rfl, .inl ⟨rfl, _, .of e3⟩, _, rfl, D, _, _, rfl, rfl, e3, ?_, ?_⟩
      · rw [List.length_map, List.length_append]
        show _ < 16777216
        omega
      refine ⟨_, rfl, fun b o eb => ?_, js ++ [i2], ?_, ?_⟩
      · rw [upd_ne (ne_of_none eb hD)]
        exact s3 _ _ eb
      · rw [List.take_add_one, ho, ej, List.map_append]
        rfl
      · rw [upd_same, ← List.append_assoc, List.map_append (l₂ := [i2])]
        rfl
    · obtain ⟨y5, rfl, s3, js, ej, e3⟩ := h3
      rw [lx, List.take_length] at ej
      refine ⟨_, _, rfl, s3, rws ++ [js], ?_, fun r2 hr2 => ?_, ?_⟩
      · rw [List.take_add_one, hk, ek, List.map_append, ej]
        rfl
      · rcases List.mem_append.mp hr2 with g | g
        · exact ne r2 g
        · rw [List.mem_singleton.mp g]
          intro z2
          rw [z2] at ej
          exact z ej
      · rw [List.flatten_append, show [js].flatten = js by simp]
        exact e3
  · obtain ⟨y3, y4, rfl, s2, rws, ek, ne, e2⟩ := h2
    rw [lr, List.take_length] at ek
    refine ⟨_, rfl, D, _, rfl, .of e2, fun ns' p perm srt np => ?_⟩
    have sp := Same.new (o := .lst (ns'.map V.int)) np
    have eN2 := sp _ _ (s2 _ _ eN)
    rw [nats_ints] at eN2
    refine ⟨_, rfl, intsD ns', intsD ((List.range n).map Int.ofNat), .lst (.of upd_same) (ints_dpAll _), .lst (.of eN2) (ints_dpAll _), ints_shaped _, ints_shaped _, ?_⟩
    rw [ints_eqv]
    refine q _ _ (s2.trans sp) ⟨fun h => ⟨rws, by rw [ek]; rfl, ne, ?_⟩, fun ⟨rw2, h, _, pm⟩ => ?_⟩
    · rw [← of_decide_eq_true h]
      exact perm.symm
    · have h := Option.some.inj h
      rw [ek] at h
      have e : rws = rw2 := by
        have key : ∀ (a b : List (List Int)), (a.map fun r => (some (r.map some) : Option (List (Option Int)))) = b.map (fun r => some (r.map some)) → a = b := fun a => by
          induction a with
          | nil => intro b hb; cases b with
            | nil => rfl
            | cons _ _ => cases hb
          | cons x r ih => intro b hb; cases b with
            | nil => cases hb
            | cons y t =>
              rw [List.map_cons, List.map_cons] at hb
              obtain ⟨h1, h2⟩ := List.cons.inj hb
              rw [some_inj (Option.some.inj h1), ih t h2]
        exact key _ _ h
      subst e
      exact decide_eq_true (sorted_same (perm.trans pm) srt (range_up n))
end
end HSP
namespace HSP
open PySem PySem.Spec PyProof.Rows L2
/-! ## rows that do not rise -/
def lastN (r : List Nat) : Nat := r.getLastD 0
theorem lastN_snoc (r : List Nat) (x : Nat) : lastN (r ++ [x]) = x := by
  unfold lastN
  rw [List.getLastD_concat]
theorem lastN_mem {r : List Nat} (h : r ≠ []) : lastN r ∈ r := by
  rcases List.eq_nil_or_concat r with e | ⟨s, z, e⟩
  · exact absurd e h
  · rw [e, List.concat_eq_append, lastN_snoc]
    exact List.mem_append_right _ (List.mem_singleton.mpr rfl)
def stepR (g : Nat → Int) : List (List Nat) → Nat → List (List Nat)
  | [], i => [[i]]
  | row :: rest, i => if g (lastN row) < g i then row :: stepR g rest i else (row ++ [i]) :: rest
def rowsOf (g : Nat → Int) : Nat → List (List Nat)
  | 0 => []
  | n + 1 => stepR g (rowsOf g n) n
theorem stepR_at {g : Nat → Int} {i : Nat} : ∀ {rws : List (List Nat)} {k : Nat} {row : List Nat}, (∀ (j : Nat) (r : List Nat), j < k → rws[j]? = some r → g (lastN r) < g i) → rws[k]? = some row → ¬ g (lastN row) < g i → stepR g rws i = rws.set k (row ++ [i])
  | [], _, _, _, h, _ => by cases h
  | r :: rest, 0, row, _, h, no => by
    cases (show some r = some row from h)
    show (if g (lastN r) < g i then r :: stepR g rest i else (r ++ [i]) :: rest) = _
    rw [if_neg no]
    rfl
  | r :: rest, k + 1, row, lo, h, no => by
    show (if g (lastN r) < g i then r :: stepR g rest i else (r ++ [i]) :: rest) = _
    rw [if_pos (lo 0 r (Nat.succ_pos k) rfl), stepR_at (rws := rest) (k := k) (fun j r' hj e => lo (j + 1) r' (by omega) e) h no]
    rfl
theorem stepR_end {g : Nat → Int} {i : Nat} : ∀ {rws : List (List Nat)}, (∀ (j : Nat) (r : List Nat), rws[j]? = some r → g (lastN r) < g i) → stepR g rws i = rws ++ [[i]]
  | [], _ => rfl
  | r :: rest, lo => by
    show (if g (lastN r) < g i then r :: stepR g rest i else (r ++ [i]) :: rest) = _
    rw [if_pos (lo 0 r rfl), stepR_end (rws := rest) (fun j r' e => lo (j + 1) r' e)]
    rfl
/-- where the next one goes -/
theorem stepR_split (g : Nat → Int) (i : Nat) : ∀ rws : List (List Nat), (∀ (j : Nat) (r : List Nat), rws[j]? = some r → g (lastN r) < g i) ∨ ∃ (k : Nat) (row : List Nat), (∀ (j : Nat) (r : List Nat), j < k → rws[j]? = some r → g (lastN r) < g i) ∧ rws[k]? = some row ∧ ¬ g (lastN row) < g i
  | [] => .inl fun j r h => by cases h
  | r :: rest => by
    by_cases c : g (lastN r) < g i
    · rcases stepR_split g i rest with h | ⟨k, row, h1, h2, h3⟩
      · refine .inl fun j r' e => ?_
        cases j with
        | zero => cases (show some r = some r' from e); exact c
        | succ j => exact h j r' e
      · refine .inr ⟨k + 1, row, fun j r' hj e => ?_, h2, h3⟩
        cases j with
        | zero => cases (show some r = some r' from e); exact c
        | succ j => exact h1 j r' (by omega) e
    · exact .inr ⟨0, r, fun j r' hj => absurd hj (Nat.not_lt_zero j), rfl, c⟩
structure RowsOk (g : Nat → Int) (rws : List (List Nat)) (n : Nat) : Prop where
  ne : ∀ r, r ∈ rws → r ≠ []
  down : ∀ r, r ∈ rws → r.Pairwise fun a b => a < b ∧ g b ≤ g a
  part : rws.flatten.Perm (List.range n)
  back : ∀ (k : Nat) (row prev : List Nat), rws[k + 1]? = some row → rws[k]? = some prev → ∀ x, x ∈ row → ∃ y, y ∈ prev ∧ y < x ∧ g y < g x ∧ ∀ z, z ∈ prev → z < x → z ≤ y
theorem RowsOk.lt {g : Nat → Int} {rws : List (List Nat)} {n : Nat} (h : RowsOk g rws n) {r : List Nat} (hr : r ∈ rws) {x : Nat} (hx : x ∈ r) : x < n :=
  List.mem_range.mp (h.part.mem_iff.mp (List.mem_flatten.mpr ⟨r, hr, hx⟩))
theorem last_up {R : Nat → Nat → Prop} {r : List Nat} (h : r.Pairwise R) {x : Nat} (hx : x ∈ r) : x = lastN r ∨ R x (lastN r) := by
  rcases List.eq_nil_or_concat r with e | ⟨s, z, e⟩
  · rw [e] at hx
    cases hx
  · rw [List.concat_eq_append] at e
    rw [e, lastN_snoc]
    rw [e] at h hx
    rcases List.mem_append.mp hx with q | q
    · exact .inr ((List.pairwise_append.mp h).2.2 x q z (List.mem_singleton.mpr rfl))
    · exact .inl (List.mem_singleton.mp q)
theorem set_flatten {α : Type} {x : α} : ∀ {l : List (List α)} {k : Nat} {row : List α}, l[k]? = some row → (l.set k (row ++ [x])).flatten.Perm (l.flatten ++ [x])
  | [], _, _, h => by cases h
  | r :: rest, 0, row, h => by
    cases (show some r = some row from h)
    show ((r ++ [x]) ++ rest.flatten).Perm (r ++ rest.flatten ++ [x])
    rw [List.append_assoc, List.append_assoc]
    exact List.Perm.append_left r List.perm_append_comm
  | r :: rest, k + 1, row, h => by
    have ih := set_flatten (x := x) (l := rest) (k := k) h
    show (r ++ (rest.set k (row ++ [x])).flatten).Perm (r ++ rest.flatten ++ [x])
    rw [List.append_assoc]
    exact List.Perm.append_left r ih
theorem rows_ok (g : Nat → Int) : ∀ n, RowsOk g (rowsOf g n) n
  | 0 => ⟨fun r h => (by cases h), fun r h => (by cases h), .nil, fun k row prev h => (by cases h)⟩
  | n + 1 => by
    have ih := rows_ok g n
    show RowsOk g (stepR g (rowsOf g n) n) (n + 1)
    generalize rowsOf g n = rws at ih
    have prevBack : ∀ prev, prev ∈ rws → g (lastN prev) < g n → ∃ y, y ∈ prev ∧ y < n ∧ g y < g n ∧ ∀ z, z ∈ prev → z < n → z ≤ y := fun prev hp hg => by
      have ne := ih.ne prev hp
      refine ⟨lastN prev, lastN_mem ne, ih.lt hp (lastN_mem ne), hg, fun z hz _ => ?_⟩
      rcases last_up (ih.down prev hp) hz with e | ⟨e, _⟩ <;> omega
    rcases stepR_split g n rws with h | ⟨k, row, h1, h2, h3⟩
    · rw [stepR_end h]
      refine ⟨fun r hr => ?_, fun r hr => ?_, ?_, fun k row prev e1 e2 x hx => ?_⟩
      · rcases List.mem_append.mp hr with q | q
        · exact ih.ne r q
        · rw [List.mem_singleton.mp q]; exact List.cons_ne_nil _ _
      · rcases List.mem_append.mp hr with q | q
        · exact ih.down r q
        · rw [List.mem_singleton.mp q]; exact List.pairwise_singleton _ _
      · rw [List.flatten_append, List.range_succ]
        exact List.Perm.append_right _ ih.part
      · by_cases c : k + 1 < rws.length
        · rw [List.getElem?_append_left c] at e1
          rw [List.getElem?_append_left (by omega)] at e2
          exact ih.back k row prev e1 e2 x hx
        · have c2 : k + 1 < (rws ++ [[n]]).length := (List.getElem?_eq_some_iff.mp e1).1
          rw [List.length_append, List.length_singleton] at c2
          have c3 : k + 1 = rws.length := by omega
          rw [List.getElem?_append_right (by omega), c3, Nat.sub_self] at e1
          cases (show some [n] = some row from e1)
          rw [List.mem_singleton.mp hx]
          rw [List.getElem?_append_left (by omega)] at e2
          exact prevBack prev (List.mem_of_getElem? e2) (h k prev e2)
    · rw [stepR_at h1 h2 h3]
      have hk := (List.getElem?_eq_some_iff.mp h2).1
      have hrow := List.mem_of_getElem? h2
      have ne := ih.ne row hrow
      have newDown : (row ++ [n]).Pairwise fun a b => a < b ∧ g b ≤ g a := by
        refine List.pairwise_append.mpr ⟨ih.down row hrow, List.pairwise_singleton _ _, fun a ha b hb => ?_⟩
        rw [List.mem_singleton.mp hb]
        refine ⟨ih.lt hrow ha, ?_⟩
        rcases last_up (ih.down row hrow) ha with e | ⟨_, e⟩
        · rw [e]; omega
        · omega
      refine ⟨fun r hr => ?_, fun r hr => ?_, ?_, fun j r2 prev e1 e2 x hx => ?_⟩
      · rcases List.mem_or_eq_of_mem_set hr with q | q
        · exact ih.ne r q
        · rw [q]; exact List.append_ne_nil_of_right_ne_nil _ (List.cons_ne_nil _ _)
      · rcases List.mem_or_eq_of_mem_set hr with q | q
        · exact ih.down r q
        · rw [q]; exact newDown
      · rw [List.range_succ]
        exact (set_flatten h2).trans (List.Perm.append_right _ ih.part)
      · have old : ∀ prev0, rws[j]? = some prev0 → ∃ z0, prev = prev0 ∨ (z0 = n ∧ prev = prev0 ++ [z0] ∧ j = k) := fun prev0 e => by
          by_cases c : k = j
          · refine ⟨n, .inr ⟨rfl, ?_, c.symm⟩⟩
            rw [← c] at e e2
            rw [List.getElem?_set_self hk] at e2
            rw [h2] at e
            cases e
            cases e2
            rfl
          · refine ⟨0, .inl ?_⟩
            rw [List.getElem?_set_ne c] at e2
            exact Option.some.inj (e2.symm.trans e)
        by_cases c : k = j + 1
        · rw [c, List.getElem?_set_self (by omega)] at e1
          cases (show some (row ++ [n]) = some r2 from e1)
          rw [List.getElem?_set_ne (by omega)] at e2
          rcases List.mem_append.mp hx with q | q
          · exact ih.back j row prev (by rw [← c]; exact h2) e2 x q
          · rw [List.mem_singleton.mp q]
            exact prevBack prev (List.mem_of_getElem? e2) (h1 j prev (by omega) e2)
        · rw [List.getElem?_set_ne c] at e1
          have hj : j < rws.length := by
            have := (List.getElem?_eq_some_iff.mp e1).1
            omega
          obtain ⟨prev0, hp0⟩ : ∃ p, rws[j]? = some p := ⟨_, List.getElem?_eq_getElem hj⟩
          obtain ⟨y, hy, y1, y2, y3⟩ := ih.back j r2 prev0 e1 hp0 x hx
          have xn := ih.lt (List.mem_of_getElem? e1) hx
          obtain ⟨z0, q | ⟨q1, q2, _⟩⟩ := old prev0 hp0
          · rw [q]
            exact ⟨y, hy, y1, y2, y3⟩
          · refine ⟨y, by rw [q2]; exact List.mem_append_left _ hy, y1, y2, fun z hz hz2 => ?_⟩
            rw [q2] at hz
            rcases List.mem_append.mp hz with q | q
            · exact y3 z q hz2
            · have := List.mem_singleton.mp q
              omega
/-! ### the rising row -/
def takeS (taken row : List Nat) : List Nat := taken ++ [lastN (row.filter fun x => taken.isEmpty || decide (x < lastN taken))]
def takenOf (rws : List (List Nat)) (j : Nat) : List Nat := (rws.reverse.take j).foldl takeS []
def risingOf (rws : List (List Nat)) : List Nat := (takenOf rws rws.length).reverse
theorem taken_succ (rws : List (List Nat)) (j : Nat) {row : List Nat} (h : rws.reverse[j]? = some row) : takenOf rws (j + 1) = takeS (takenOf rws j) row := by
  unfold takenOf
  rw [List.take_add_one, h, List.foldl_append]
  rfl
structure TakenOk (g : Nat → Int) (rws : List (List Nat)) (j : Nat) (tk : List Nat) : Prop where
  len : tk.length = j
  down : tk.Pairwise fun a b => b < a ∧ g b < g a
  inn : ∀ x, x ∈ tk → ∃ r, r ∈ rws ∧ x ∈ r
  top : ∀ row, j ≠ 0 → rws.reverse[j - 1]? = some row → lastN tk ∈ row
theorem rev_get {α : Type} {l : List α} {j : Nat} {x : α} (h : l.reverse[j]? = some x) : j < l.length ∧ l[l.length - 1 - j]? = some x := by
  have hj := (List.getElem?_eq_some_iff.mp h).1
  rw [List.length_reverse] at hj
  rw [List.getElem?_reverse hj] at h
  exact ⟨hj, h⟩
/-- what is picked from the next row -/
theorem taken_pick {g : Nat → Int} {rws : List (List Nat)} {n j : Nat} (ok : RowsOk g rws n) (t : TakenOk g rws j (takenOf rws j)) {row : List Nat} (h : rws.reverse[j]? = some row) :
    row.filter (fun x => (takenOf rws j).isEmpty || decide (x < lastN (takenOf rws j))) ≠ [] ∧ TakenOk g rws (j + 1) (takenOf rws (j + 1)) := by
  obtain ⟨hj, hr⟩ := rev_get h
  have hrow := List.mem_of_getElem? hr
  rw [taken_succ rws j h]
  unfold takeS
  generalize takenOf rws j = tk at t ⊢
  have base : ∀ (fl : List Nat), fl = row.filter (fun x => tk.isEmpty || decide (x < lastN tk)) → fl ≠ [] → (∀ a, a ∈ tk → lastN fl < a ∧ g (lastN fl) < g a) → TakenOk g rws (j + 1) (tk ++ [lastN fl]) := fun fl hf hne hlt => by
    have mem : lastN fl ∈ row := by
      have := lastN_mem hne
      rw [hf] at this
      rw [hf]
      exact (List.mem_filter.mp this).1
    refine ⟨by rw [List.length_append, List.length_singleton, t.len], List.pairwise_append.mpr ⟨t.down, List.pairwise_singleton _ _, fun a ha b hb => ?_⟩, fun x hx => ?_, fun r2 _ e => ?_⟩
    · rw [List.mem_singleton.mp hb]
      exact hlt a ha
    · rcases List.mem_append.mp hx with q | q
      · exact t.inn x q
      · rw [List.mem_singleton.mp q]
        exact ⟨row, hrow, mem⟩
    · rw [Nat.add_sub_cancel, h] at e
      cases e
      rw [lastN_snoc]
      exact mem
  cases j with
  | zero =>
    have e : tk = [] := List.length_eq_zero_iff.mp t.len
    have ef : row.filter (fun x => tk.isEmpty || decide (x < lastN tk)) = row := by
      rw [e]
      exact List.filter_eq_self.mpr fun _ _ => rfl
    have ne := ok.ne row hrow
    refine ⟨by rw [ef]; exact ne, base _ rfl (by rw [ef]; exact ne) fun a ha => ?_⟩
    rw [e] at ha
    cases ha
  | succ j =>
    obtain ⟨up, hup⟩ : ∃ up, rws.reverse[j]? = some up := ⟨_, List.getElem?_eq_getElem (by rw [List.length_reverse]; omega)⟩
    obtain ⟨hj2, hr2⟩ := rev_get hup
    have tm : lastN tk ∈ up := t.top up (Nat.succ_ne_zero j) (by rw [Nat.add_sub_cancel]; exact hup)
    have e1 : rws[rws.length - 1 - (j + 1) + 1]? = some up := by
      rw [show rws.length - 1 - (j + 1) + 1 = rws.length - 1 - j by omega]
      exact hr2
    obtain ⟨y, hy, y1, y2, y3⟩ := ok.back _ up row e1 hr _ tm
    have nemp : tk.isEmpty = false := by
      cases tk with
      | nil => cases t.len
      | cons => rfl
    have ef : row.filter (fun x => tk.isEmpty || decide (x < lastN tk)) = row.filter fun x => decide (x < lastN tk) := by
      rw [nemp]
      rfl
    have hy2 : y ∈ row.filter (fun x => tk.isEmpty || decide (x < lastN tk)) := by
      rw [ef]
      exact List.mem_filter.mpr ⟨hy, decide_eq_true y1⟩
    have ne : row.filter (fun x => tk.isEmpty || decide (x < lastN tk)) ≠ [] := fun z => by rw [z] at hy2; cases hy2
    have ly : lastN (row.filter (fun x => tk.isEmpty || decide (x < lastN tk))) = y := by
      have h1 := lastN_mem ne
      have h2 := h1
      rw [ef] at h2
      obtain ⟨h3, h4⟩ := List.mem_filter.mp h2
      rw [← ef] at h3 h4
      have h5 := y3 _ h3 (of_decide_eq_true h4)
      have pw : (row.filter (fun x => tk.isEmpty || decide (x < lastN tk))).Pairwise fun a b => a < b ∧ g b ≤ g a := (ok.down row hrow).sublist List.filter_sublist
      rcases last_up pw hy2 with e | ⟨e, _⟩ <;> omega
    refine ⟨ne, base _ rfl ne fun a ha => ?_⟩
    rw [ly]
    rcases last_up t.down ha with e | ⟨e, e'⟩
    · rw [e]
      exact ⟨y1, y2⟩
    · constructor <;> omega
theorem taken_ok {g : Nat → Int} {rws : List (List Nat)} {n : Nat} (ok : RowsOk g rws n) : ∀ j, j ≤ rws.length → TakenOk g rws j (takenOf rws j)
  | 0, _ => ⟨rfl, .nil, fun x h => (by cases h), fun _ h => absurd rfl h⟩
  | j + 1, h => by
    obtain ⟨row, hrow⟩ : ∃ row, rws.reverse[j]? = some row := ⟨_, List.getElem?_eq_getElem (by rw [List.length_reverse]; omega)⟩
    exact (taken_pick ok (taken_ok ok j (by omega)) hrow).2
/-- a rising row -/
def Rising (g : Nat → Int) (n : Nat) (c : List Nat) : Prop := (c.Pairwise fun a b => a < b ∧ g a < g b) ∧ ∀ x, x ∈ c → x < n
theorem rising_ok {g : Nat → Int} {rws : List (List Nat)} {n : Nat} (ok : RowsOk g rws n) : Rising g n (risingOf rws) ∧ (risingOf rws).length = rws.length := by
  have t := taken_ok ok rws.length (Nat.le_refl _)
  unfold risingOf
  refine ⟨⟨List.pairwise_reverse.mpr t.down, fun x hx => ?_⟩, by rw [List.length_reverse, t.len]⟩
  obtain ⟨r, h1, h2⟩ := t.inn x (List.mem_reverse.mp hx)
  exact ok.lt h1 h2
/-- a rising row has at most one of each row that does not rise -/
theorem rising_le {g : Nat → Int} : ∀ (rws : List (List Nat)) (c : List Nat), (∀ r, r ∈ rws → r.Pairwise fun a b => a < b ∧ g b ≤ g a) → (c.Pairwise fun a b => a < b ∧ g a < g b) → (∀ x, x ∈ c → x ∈ rws.flatten) → c.length ≤ rws.length
  | [], c, _, _, h => by
    cases c with
    | nil => exact Nat.le_refl _
    | cons x r => exact absurd (h x List.mem_cons_self) (by simp)
  | row :: rest, c, hd, hc, h => by
    have ih := rising_le rest (c.filter fun x => !decide (x ∈ row)) (fun r hr => hd r (List.mem_cons_of_mem _ hr)) (hc.sublist List.filter_sublist) fun x hx => by
      obtain ⟨h1, h2⟩ := List.mem_filter.mp hx
      have h3 : ¬ x ∈ row := by simpa using h2
      rcases List.mem_append.mp (show x ∈ row ++ rest.flatten from h x h1) with q | q
      · exact absurd q h3
      · exact q
    have few : ∀ c : List Nat, (c.Pairwise fun a b => a < b ∧ g a < g b) → c.length ≤ (c.filter fun x => !decide (x ∈ row)).length + 1 := fun c hc => by
      induction c with
      | nil => exact Nat.zero_le _
      | cons x r ih2 =>
        obtain ⟨p1, p2⟩ := List.pairwise_cons.mp hc
        rw [List.filter_cons, List.length_cons]
        by_cases m : x ∈ row
        · rw [decide_eq_true m]
          show r.length + 1 ≤ (r.filter fun x => !decide (x ∈ row)).length + 1
          have all : (r.filter fun x => !decide (x ∈ row)) = r := List.filter_eq_self.mpr fun y hy => by
            have q := p1 y hy
            have no : ¬ y ∈ row := fun hy2 => by
              have dn := hd row List.mem_cons_self
              obtain ⟨i, hi, ei⟩ := List.mem_iff_getElem.mp m
              obtain ⟨j, hj, ej⟩ := List.mem_iff_getElem.mp hy2
              have pw := List.pairwise_iff_getElem.mp dn
              rcases Nat.lt_trichotomy i j with c | c | c
              · have := pw i j hi hj c
                rw [ei, ej] at this
                omega
              · subst c
                omega
              · have := pw j i hj hi c
                rw [ei, ej] at this
                omega
            rw [decide_eq_false no]
            rfl
          rw [all]
          exact Nat.le_refl _
        · rw [decide_eq_false m]
          have := ih2 p2
          show r.length + 1 ≤ (r.filter fun x => !decide (x ∈ row)).length + 1 + 1
          omega
    have := few c hc
    rw [List.length_cons]
    omega
theorem rising_most {g : Nat → Int} {n : Nat} {c : List Nat} (h : Rising g n c) : c.length ≤ (rowsOf g n).length := by
  have ok := rows_ok g n
  exact rising_le _ c ok.down h.1 fun x hx => ok.part.mem_iff.mpr (List.mem_range.mpr (h.2 x hx))
theorem rows_le (g : Nat → Int) (n : Nat) : (rowsOf g n).length ≤ n := by
  have ok := rows_ok g n
  have h := ok.part.length_eq
  rw [List.length_range] at h
  have key : ∀ l : List (List Nat), (∀ r, r ∈ l → r ≠ []) → l.length ≤ l.flatten.length := fun l => by
    induction l with
    | nil => intro _; exact Nat.le_refl _
    | cons r t ih =>
      intro hn
      have h1 := ih fun x hx => hn x (List.mem_cons_of_mem _ hx)
      have h2 := List.length_pos_iff.mpr (hn r List.mem_cons_self)
      rw [List.flatten_cons, List.length_append, List.length_cons]
      omega
  have := key _ ok.ne
  omega
/-! ### the tree that finds a rising row -/
def gaps : Nat → List Nat → Nat → List Nat
  | s, [], n => [n - s]
  | s, x :: r, n => (x - s) :: gaps (x + 1) r n
def seps : Nat → List Tr → List Nat
  | _, [] => []
  | _, [_] => []
  | f, t :: u :: r => (f + t.size) :: seps (f + t.size + 1) (u :: r)
theorem gaps_ne (s : Nat) (c : List Nat) (n : Nat) : gaps s c n ≠ [] := by
  cases c <;> exact List.cons_ne_nil _ _
theorem gaps_len : ∀ (s : Nat) (c : List Nat) (n : Nat), (gaps s c n).length = c.length + 1
  | _, [], _ => rfl
  | s, x :: r, n => by
    show (gaps (x + 1) r n).length + 1 = _
    rw [gaps_len (x + 1) r n]
    rfl
theorem gaps_small : ∀ (s : Nat) (c : List Nat) (n : Nat), (∀ x, x ∈ c → x < n) → ∀ m, m ∈ gaps s c n → m ≤ n
  | s, [], n, _, m, h => by
    have := List.mem_singleton.mp h
    omega
  | s, x :: r, n, hc, m, h => by
    have hx := hc x List.mem_cons_self
    rcases List.mem_cons.mp h with q | q
    · omega
    · exact gaps_small (x + 1) r n (fun y hy => hc y (List.mem_cons_of_mem _ hy)) m q
theorem gaps_tree {k : Nat} : ∀ (s : Nat) (c : List Nat) (n : Nat), s ≤ n → n < 2 ^ k → (c.Pairwise (· < ·)) → (∀ x, x ∈ c → s ≤ x ∧ x < n) → s + wide ((gaps s c n).map (halv (k + 1))) = n ∧ seps s ((gaps s c n).map (halv (k + 1))) = c
  | s, [], n, hs, hk, _, _ => by
    show s + (halv (k + 1) (n - s)).size = n ∧ [] = []
    rw [halv_size k _ (by omega)]
    exact ⟨by omega, rfl⟩
  | s, x :: r, n, hs, hk, hp, hx => by
    obtain ⟨h1, h2⟩ := hx x List.mem_cons_self
    obtain ⟨p1, p2⟩ := List.pairwise_cons.mp hp
    obtain ⟨w, e⟩ := gaps_tree (x + 1) r n (by omega) hk p2 fun y hy => ⟨p1 y hy, (hx y (List.mem_cons_of_mem _ hy)).2⟩
    have hm : (halv (k + 1) (x - s)).size = x - s := halv_size k _ (by omega)
    have ne := gaps_ne (x + 1) r n
    show s + wide (halv (k + 1) (x - s) :: (gaps (x + 1) r n).map (halv (k + 1))) = n ∧ seps s (halv (k + 1) (x - s) :: (gaps (x + 1) r n).map (halv (k + 1))) = x :: r
    cases eg : (gaps (x + 1) r n).map (halv (k + 1)) with
    | nil => exact absurd (List.map_eq_nil_iff.mp eg) ne
    | cons u v =>
      rw [eg] at w e
      show s + ((halv (k + 1) (x - s)).size + 1 + wide (u :: v)) = n ∧ (s + (halv (k + 1) (x - s)).size) :: seps (s + (halv (k + 1) (x - s)).size + 1) (u :: v) = x :: r
      rw [hm, show s + (x - s) = x by omega, e]
      exact ⟨by omega, rfl⟩
theorem seps_app : ∀ (a b : List Tr) (f : Nat), a ≠ [] → b ≠ [] → seps f (a ++ b) = seps f a ++ (f + wide a) :: seps (f + wide a + 1) b
  | [], _, _, h, _ => absurd rfl h
  | [t], [], _, _, h => absurd rfl h
  | [t], u :: r, f, _, _ => rfl
  | t :: u :: r, b, f, _, hb => by
    have ih := seps_app (u :: r) b (f + t.size + 1) (List.cons_ne_nil _ _) hb
    show (f + t.size) :: seps (f + t.size + 1) ((u :: r) ++ b) = ((f + t.size) :: seps (f + t.size + 1) (u :: r)) ++ (f + (t.size + 1 + wide (u :: r))) :: seps (f + (t.size + 1 + wide (u :: r)) + 1) b
    rw [ih, show f + t.size + 1 + wide (u :: r) = f + (t.size + 1 + wide (u :: r)) by omega]
    rfl
theorem sep_hit {g : Nat → Int} (n : Nat) (ts : List Tr) (hne : ts ≠ []) (hl : ts.length ≤ 2 ^ n) (f x : Nat) (up : (seps f ts).Pairwise fun a b => g a < g b) (hx : x ∈ seps f ts) : sEnd g (2 * g x) .fin (joinT (n + 1) ts) f = (true, x) := by
  have z := join_ind (P := fun _ ts t => t.size = wide ts ∧ ∀ f x, ((seps f ts).Pairwise fun a b => g a < g b) → x ∈ seps f ts → sEnd g (2 * g x) .fin t f = (true, x)) (fun _ t => ⟨rfl, fun f x _ h => by cases h⟩) (fun k a b s t ha hb ⟨z1, h1⟩ ⟨z2, h2⟩ => by
    refine ⟨by show s.size + 1 + t.size = wide (a ++ b); rw [wide_app a b ha hb, z1, z2], fun f x up hx => ?_⟩
    rw [seps_app a b f ha hb] at up hx
    obtain ⟨u1, u2, u3⟩ := List.pairwise_append.mp up
    obtain ⟨u4, u5⟩ := List.pairwise_cons.mp u2
    rw [sEnd_nod, z1]
    rcases List.mem_append.mp hx with q | q
    · have lt := u3 x q _ List.mem_cons_self
      have w : wayOf (2 * g x) (g (f + wide a)) .fin = .lft := by
        unfold wayOf
        rw [if_neg (by omega), if_pos (by omega)]
      rw [w]
      exact h1 f x u1 q
    · rcases List.mem_cons.mp q with q | q
      · rw [q, way_fin]
      · have lt := u4 x q
        have w : wayOf (2 * g x) (g (f + wide a)) .fin = .rgt := by
          unfold wayOf
          rw [if_neg (by omega), if_neg (by omega)]
        rw [w]
        exact h2 (f + wide a + 1) x u5 q) n ts hne hl
  exact z.2 f x up hx
def mostT (g : Nat → Int) (n : Nat) : Tr := joinT 8 ((gaps 0 (risingOf (rowsOf g n)) n).map (halv 8))
theorem most_tree {g : Nat → Int} {n : Nat} (hn : n ≤ 64) : (mostT g n).size = n ∧ (mostT g n).ht ≤ 15 ∧ ∀ x, x ∈ risingOf (rowsOf g n) → hits g x (mostT g n) = true := by
  obtain ⟨⟨up, inn⟩, len⟩ := rising_ok (rows_ok g n)
  have few := rows_le g n
  have hne : (gaps 0 (risingOf (rowsOf g n)) n).map (halv 8) ≠ [] := fun z => gaps_ne _ _ _ (List.map_eq_nil_iff.mp z)
  have hl : ((gaps 0 (risingOf (rowsOf g n)) n).map (halv 8)).length ≤ 2 ^ 7 := by
    rw [List.length_map, gaps_len]
    have e : 2 ^ 7 = 128 := rfl
    omega
  obtain ⟨w, s⟩ := gaps_tree (k := 7) 0 (risingOf (rowsOf g n)) n (Nat.zero_le _) (by have e : 2 ^ 7 = 128 := rfl; omega) (up.imp fun h => h.1) fun x hx => ⟨Nat.zero_le _, inn x hx⟩
  refine ⟨?_, ?_, fun x hx => decide_eq_true (sep_hit 7 _ hne hl 0 x ?_ ?_)⟩
  · unfold mostT
    rw [join_size 7 _ hne hl]
    have w2 : 0 + wide ((gaps 0 (risingOf (rowsOf g n)) n).map (halv 8)) = n := w
    omega
  · exact join_ht 8 7 _ hne hl fun t ht => by
      obtain ⟨m, _, rfl⟩ := List.mem_map.mp ht
      exact halv_ht 8 m
  · rw [s]
    exact up.imp fun h => h.2
  · rw [s]
    exact hx
/-! ### what a tree finds rises -/
theorem found_up {g : Nat → Int} : ∀ (t : Tr) (f i j : Nat), i < j → sEnd g (2 * g i) .fin t f = (true, i) → sEnd g (2 * g j) .fin t f = (true, j) → g i < g j
  | .nil, _, _, _, _, h, _ => by cases h
  | .nod l r, f, i, j, hij, hi, hj => by
    rw [sEnd_nod] at hi hj
    rcases way_cases (2 * g i) (g (f + l.size)) with ⟨w, c⟩ | ⟨w, c⟩ | ⟨w, c⟩ <;> rcases way_cases (2 * g j) (g (f + l.size)) with ⟨w2, c2⟩ | ⟨w2, c2⟩ | ⟨w2, c2⟩ <;> rw [w] at hi <;> rw [w2] at hj
    · have e1 := (Prod.mk.inj hi).2
      have e2 := (Prod.mk.inj hj).2
      omega
    · have e1 := (Prod.mk.inj hi).2
      have e2 := sEnd_at _ _ _ _ _ hj
      omega
    · omega
    · omega
    · exact found_up l f i j hij hi hj
    · omega
    · have e1 := (Prod.mk.inj hj).2
      have e2 := sEnd_at _ _ _ _ _ hi
      omega
    · have e1 := sEnd_at _ _ _ _ _ hi
      have e2 := sEnd_at _ _ _ _ _ hj
      omega
    · exact found_up r (f + l.size + 1) i j hij hi hj
def hitsOf (g : Nat → Int) (n : Nat) (t : Tr) : List Nat := (List.range n).filter fun i => hits g i t
theorem hits_rising (g : Nat → Int) (n : Nat) (t : Tr) : Rising g n (hitsOf g n t) := by
  refine ⟨?_, fun x hx => List.mem_range.mp (List.mem_filter.mp hx).1⟩
  unfold hitsOf
  refine List.Pairwise.imp_of_mem (fun {a b} ha hb h => ?_) ((List.pairwise_lt_range (n := n)).sublist List.filter_sublist)
  have h1 := of_decide_eq_true (List.mem_filter.mp ha).2
  have h2 := of_decide_eq_true (List.mem_filter.mp hb).2
  exact ⟨h, found_up t 0 a b h h1 h2⟩
theorem hits_le (g : Nat → Int) (n : Nat) (t : Tr) : (hitsOf g n t).length ≤ (rowsOf g n).length := rising_most (hits_rising g n t)
theorem sub_len : ∀ {a b : List Nat}, a.Pairwise (· < ·) → b.Pairwise (· < ·) → (∀ x, x ∈ a → x ∈ b) → a.length ≤ b.length
  | [], _, _, _, _ => Nat.zero_le _
  | x :: a, [], _, _, h => absurd (h x List.mem_cons_self) (by simp)
  | x :: a, y :: b, ha, hb, h => by
    obtain ⟨a1, a2⟩ := List.pairwise_cons.mp ha
    obtain ⟨b1, b2⟩ := List.pairwise_cons.mp hb
    have ih := sub_len a2 b2 fun z hz => by
      rcases List.mem_cons.mp (h z (List.mem_cons_of_mem _ hz)) with q | q
      · have h1 := a1 z hz
        rcases List.mem_cons.mp (h x List.mem_cons_self) with q2 | q2
        · omega
        · have := b1 x q2
          omega
      · exact q
    rw [List.length_cons, List.length_cons]
    omega
theorem most_hits {g : Nat → Int} {n : Nat} (hn : n ≤ 64) : (hitsOf g n (mostT g n)).length = (rowsOf g n).length := by
  obtain ⟨⟨up, inn⟩, len⟩ := rising_ok (rows_ok g n)
  obtain ⟨_, _, hit⟩ := most_tree (g := g) hn
  have h1 := hits_le g n (mostT g n)
  have h2 := sub_len (a := risingOf (rowsOf g n)) (b := hitsOf g n (mostT g n)) (up.imp fun h => h.1) ((List.pairwise_lt_range (n := n)).sublist List.filter_sublist) fun x hx => List.mem_filter.mpr ⟨List.mem_range.mpr (inn x hx), hit x hx⟩
  omega
end HSP
namespace HSP
open PySem PySem.Spec PyProof.Rows L2
/-! ### slices -/
theorem cut_from (xs : List V) (k : Nat) : cutV xs (some (k : Int)) none = xs.drop k := by
  unfold cutV
  rw [HT.sIx_nat, HT.sIx_none]
  by_cases h : k ≤ xs.length
  · rw [Nat.min_eq_left h]
    exact List.take_of_length_le (by rw [List.length_drop]; exact Nat.le_refl _)
  · rw [Nat.min_eq_right (by omega), Nat.sub_self, List.take_zero, List.drop_eq_nil_of_le (by omega)]
theorem cut_to (xs : List V) (k : Nat) : cutV xs none (some (k : Int)) = xs.take k := by
  unfold cutV
  rw [HT.sIx_nat, HT.sIx_none, List.drop_zero, Nat.sub_zero]
  by_cases h : k ≤ xs.length
  · rw [Nat.min_eq_left h]
  · rw [Nat.min_eq_right (by omega), List.take_of_length_le (by omega), List.take_of_length_le (by omega)]
theorem cut_init (xs : List V) (x : V) : cutV (xs ++ [x]) none (some (-1)) = xs := by
  unfold cutV
  have e1 : HT.sIx (xs ++ [x]).length (xs ++ [x]).length (some (-1)) = xs.length := by
    show (if (-1 : Int) < 0 then ((-1 : Int) + ((xs ++ [x]).length : Int)).toNat else min (-1 : Int).toNat (xs ++ [x]).length) = _
    rw [if_pos (by decide), List.length_append, List.length_singleton]
    omega
  have e2 : HT.sIx (xs ++ [x]).length 0 none = 0 := rfl
  rw [e1, e2, List.drop_zero, Nat.sub_zero]
  exact List.take_left
/-- len(..) within a comprehension -/
def rLenK (K : PySem.W.Frag) : List V → Hp → VK → Prop := fun xs H Q => ∃ p ys, xs = [V.ref p] ∧ (SqL K H p ys ∨ SqT K H p ys) ∧ Q (.int ((ys.length : Nat) : Int)) H
end HSP
namespace HSP
open PySem PySem.Spec PyProof.Rows L2
section
variable {P : Program} {w : World} {K : PySem.W.Frag} {mg : Str → Option Value} {base : Heap}
/-! ### halved -/
theorem sc_halved : FnScope n_halved ["length", "rule"] (defScope s_halved) := ⟨rfl, rfl, rfl, by decide +kernel, rfl, by decide +kernel, by decide +kernel⟩
def spHalved (n : Nat) : Sp := fun vs H Q _ => ∃ (m k : Nat), n = k + 1 ∧ vs = [natV m, .str "upper"] ∧ m < 2 ^ k ∧ ∀ (H' : Hp) (v : V), Same H H' → TrAt H' v (halv n m) → Q v H'
theorem ok_halved (a : At K mg "halved" s_halved) : ∀ n, Df P w K mg base "halved" (n + 1) ["length", "rule"] (spHalved n)
  | 0 => Df.none' a (fun vs H Q E h => by obtain ⟨m, k, h, _⟩ := h; exact absurd h (by omega)) (fun _ _ _ _ _ _ us hl => match us, hl with | [_, _], _ => rfl) 1
  | n + 1 => by
    have D := ok_halved a n
    refine Df.mk' a sc_halved (fun vs H Q E h => ?_) (fun _ _ _ _ _ _ us hl => match us, hl with | [_, _], _ => rfl) (fun f cdv A outer s H vs Q E hr h => ?_)
    · obtain ⟨m, k, _, rfl, _⟩ := h
      rfl
    obtain ⟨m, k, hk, rfl, hm, q⟩ := h
    cases (show n = k by omega)
    refine ⟨_, (pss_cons (ps_if (pt_cmpR op_lt (pv 0) pe_int (nomark _)) (pss_one (ps_ret pe_non)) pss_nil)
 (pss_cons (ps_set (i := 2) sc_halved.nd rfl (.inl rfl) (pe_ifExp (pt_cmpR op_eq (pv 1) pe_str (nomark _)) (pe_op op_fdiv (pv 0) pe_int) (pe_op op_fdiv (pe_op op_sub (pv 0) pe_int) pe_int)))
 (pss_one (ps_ret (pe_tup (pa_cons (pe_df D hr (pa_cons (pv 2) (pa_cons (pv 1) pa_nil))) (pa_cons (pe_df D hr (pa_cons (pe_op op_sub (pe_op op_sub (pv 0) (pv 2)) pe_int) (pa_cons (pv 1) pa_nil))) pa_nil))))))), ?_⟩
    refine ⟨_, rfl, _, _, rfl, rfl, _, rfl, ?_⟩
    cases m with
    | zero => exact iteT (q H .non (Same.refl _) .nil)
    | succ m =>
      refine ite_no (by omega) ?_
      cases n with
      | zero =>
        have e : 2 ^ 0 = 1 := rfl
        omega
      | succ n =>
        obtain ⟨h1, h2⟩ := half_lt hm
        refine ⟨_, rfl, rfl, _, rfl, ite_yes rfl ?_⟩
        refine ⟨_, rfl, _, _, rfl, rfl, ⟨by decide, by decide⟩, ?_⟩
        refine ⟨_, rfl, _, rfl, (m + 1) / 2, n, rfl, congrArg (fun z => [V.int z, V.str "upper"]) (by omega : ((m + 1 : Nat) : Int) / 2 = (((m + 1) / 2 : Nat) : Int)), h1, fun H1 v1 s1 t1 => ?_⟩
        refine ⟨_, rfl, _, rfl, _, _, rfl, rfl, _, _, rfl, rfl, _, rfl, m + 1 - (m + 1) / 2 - 1, n, rfl, congrArg (fun z => [V.int z, V.str "upper"]) (by omega : ((m + 1 : Nat) : Int) - ((m + 1 : Nat) : Int) / 2 - 1 = ((m + 1 - (m + 1) / 2 - 1 : Nat) : Int)), h2, fun H2 v2 s2 t2 => ?_⟩
        refine ⟨(by show 2 ≤ sizeLine; decide), fun T hT => ?_⟩
        have s3 := Same.new (o := .tup [v1, v2]) hT
        exact q _ (.ref T) (s1.trans (s2.trans s3)) (.nod upd_same ((t1.same s2).same s3) (t2.same s3))
/-! ### joined -/
theorem sc_joined : FnScope n_joined ["parts"] (defScope s_joined) := ⟨rfl, rfl, rfl, by decide +kernel, rfl, by decide +kernel, by decide +kernel⟩
def spJoined (n : Nat) : Sp := fun vs H Q _ => ∃ (a : Addr) (xs : List V) (ts : List Tr) (k : Nat), n = k + 1 ∧ vs = [.ref a] ∧ H a = some (.lst xs) ∧ Paired (fun v t => TrAt H v t) xs ts ∧ ts ≠ [] ∧ ts.length ≤ 2 ^ k ∧ ts.length ≤ 1000 ∧ ∀ (H' : Hp) (v : V), Same H H' → TrAt H' v (joinT n ts) → Q v H'
theorem Paired.take {α β : Type} {R : α → β → Prop} : ∀ (n : Nat) {l : List α} {m : List β}, Paired R l m → Paired R (l.take n) (m.take n)
  | 0, _, _, _ => by rw [List.take_zero, List.take_zero]; exact .nil
  | _ + 1, _, _, .nil => .nil
  | n + 1, _, _, .cons h t => .cons h (Paired.take n t)
theorem Paired.drop {α β : Type} {R : α → β → Prop} : ∀ (n : Nat) {l : List α} {m : List β}, Paired R l m → Paired R (l.drop n) (m.drop n)
  | 0, _, _, h => h
  | _ + 1, _, _, .nil => .nil
  | n + 1, _, _, .cons _ t => Paired.drop n t
theorem ok_joined (B : Bl mg) (a : At K mg "joined" s_joined) : ∀ n, Df P w K mg base "joined" (n + 1) ["parts"] (spJoined n)
  | 0 => Df.none' a (fun vs H Q E h => by obtain ⟨_, _, _, k, h, _⟩ := h; exact absurd h (by omega)) (fun _ _ _ _ _ _ us hl => match us, hl with | [_], _ => rfl) 1
  | n + 1 => by
    have D := ok_joined B a n
    refine Df.mk' a sc_joined (fun vs H Q E h => ?_) (fun _ _ _ _ _ _ us hl => match us, hl with | [_], _ => rfl) (fun f cdv A outer s H vs Q E hr h => ?_)
    · obtain ⟨_, _, _, k, _, rfl, _⟩ := h
      rfl
    obtain ⟨a, xs, ts, k, hk, rfl, ha, hp, hne, hl, h1000, q⟩ := h
    cases (show n = k by omega)
    have lx := Paired.length hp
    refine ⟨_, (pss_cons (ps_if (pt_cmpR op_eq (pe_callB call_len_seq (by rfl) B.len PySem.boot_len (pa_cons (pv 0) pa_nil)) pe_int (nomark _)) (pss_one (ps_ret (pe_ix ix_list (pv 0) pe_int (fun _ _ => rfl)))) pss_nil)
 (pss_cons (ps_set (i := 1) sc_joined.nd rfl (.inl rfl) (pe_op op_fdiv (pe_callB call_len_seq (by rfl) B.len PySem.boot_len (pa_cons (pv 0) pa_nil)) pe_int))
 (pss_one (ps_ret (pe_tup (pa_cons (pe_df D hr (pa_cons (pe_slice sl_list (pv 0) po_none (po_some (pv 1))) pa_nil)) (pa_cons (pe_df D hr (pa_cons (pe_slice sl_list (pv 0) (po_some (pv 1)) po_none) pa_nil)) pa_nil))))))), ?_⟩
    refine ⟨_, rfl, a, _, rfl, .inl (.of ha), rfl, _, rfl, ?_⟩
    have un : joinT (n + 1) ts = if ts.length = 1 then ts.headD .nil else .nod (joinT n (ts.take (ts.length / 2))) (joinT n (ts.drop (ts.length / 2))) := rfl
    by_cases c : ts.length = 1
    · rw [decide_eq_true (show V.int ((xs.length : Nat) : Int) = V.int 1 from congrArg V.int (by omega))]
      rw [un, if_pos c] at q
      match ts, hne, c, hp with
      | [t], _, _, .cons h .nil =>
        exact iteT ⟨_, rfl, a, _, _, _, rfl, rfl, .of ha, atI_nat (j := 0) rfl, q H _ (Same.refl _) h⟩
    · rw [decide_eq_false (fun z => c (by have := V.int.inj z; omega))]
      have c2 : 2 ≤ ts.length := by
        cases ts with
        | nil => exact absurd rfl hne
        | cons t r =>
          rw [List.length_cons] at c ⊢
          omega
      rw [un, if_neg c] at q
      cases n with
      | zero =>
        have e : 2 ^ 0 = 1 := rfl
        omega
      | succ n =>
        obtain ⟨l1, l2⟩ := half_len hl
        have em : ((xs.length : Nat) : Int) / 2 = ((ts.length / 2 : Nat) : Int) := by omega
        refine iteF ⟨_, rfl, a, _, rfl, .inl (.of ha), _, _, rfl, rfl, ⟨by decide, by decide⟩, ?_⟩
        refine ⟨_, rfl, _, rfl, _, rfl, a, xs, rfl, .of ha, fun p1 hp1 => ?_⟩
        have s1 := Same.new (o := .lst (cutV xs none (some (((xs.length : Nat) : Int) / 2)))) hp1
        have e1 : (upd H p1 (.lst (cutV xs none (some (((xs.length : Nat) : Int) / 2))))) p1 = some (.lst (xs.take (ts.length / 2))) := by
          rw [upd_same, em, cut_to]
        generalize upd H p1 (.lst (cutV xs none (some (((xs.length : Nat) : Int) / 2)))) = H1 at s1 e1 ⊢
        refine ⟨p1, xs.take (ts.length / 2), ts.take (ts.length / 2), n, rfl, rfl, e1, Paired.take _ (Paired.mapP hp fun v t h => h.same s1), take_ne c2, l1, by rw [List.length_take]; omega, fun H2 v1 s2 t1 => ?_⟩
        have s12 := s1.trans s2
        refine ⟨_, rfl, _, rfl, _, rfl, a, xs, rfl, .of (s12 _ _ ha), fun p2 hp2 => ?_⟩
        have s3 := Same.new (o := .lst (cutV xs (some (((xs.length : Nat) : Int) / 2)) none)) hp2
        have e2 : (upd H2 p2 (.lst (cutV xs (some (((xs.length : Nat) : Int) / 2)) none))) p2 = some (.lst (xs.drop (ts.length / 2))) := by
          rw [upd_same, em, cut_from]
        generalize upd H2 p2 (.lst (cutV xs (some (((xs.length : Nat) : Int) / 2)) none)) = H3 at s3 e2 ⊢
        have s13 := s12.trans s3
        refine ⟨p2, xs.drop (ts.length / 2), ts.drop (ts.length / 2), n, rfl, rfl, e2, Paired.drop _ (Paired.mapP hp fun v t h => h.same s13), drop_ne c2, l2, by rw [List.length_drop]; omega, fun H4 v2 s4 t2 => ?_⟩
        refine ⟨(by show 2 ≤ sizeLine; decide), fun T hT => ?_⟩
        have s5 := Same.new (o := .tup [v1, v2]) hT
        exact q _ (.ref T) (s13.trans (s4.trans s5)) (.nod upd_same (((t1.same s3).same s4).same s5) (t2.same s5))
end
end HSP
namespace HSP
open PySem PySem.Spec PyProof.Rows L2
section
variable {P : Program} {w : World} {K : PySem.W.Frag} {mg : Str → Option Value} {base : Heap}
/-! ### is_whole -/
def spWhole : Sp := fun vs H Q _ => ∃ i : Int, vs = [.int i] ∧ Q (.bl true) H
theorem sc_whole : FnScope n_is_whole ["thing"] (defScope s_is_whole) := ⟨rfl, rfl, rfl, by decide +kernel, rfl, by decide +kernel, by decide +kernel⟩
theorem ok_whole (B : Bl mg) (a : At K mg "is_whole" s_is_whole) : Df P w K mg base "is_whole" 1 ["thing"] spWhole := by
  refine Df.mk' a sc_whole (fun vs H Q E h => ?_) (fun _ _ _ _ _ _ us hl => match us, hl with | [_], _ => rfl) (fun f cdv A outer s H vs Q E hr h => ?_)
  · obtain ⟨v, rfl, _⟩ := h
    rfl
  obtain ⟨i, rfl, q⟩ := h
  refine ⟨_, pss_one (ps_ret (pe_and (pe_callB call_isi (by rfl) B.isinstance (by decide +kernel) (pa_cons (pv 0) (pa_cons (pe_bltn (v := .ty "int") (by rfl) B.int (by decide +kernel) rfl) pa_nil)))
    (pe_one (pe_not (pe_callB call_isi (by rfl) B.isinstance (by decide +kernel) (pa_cons (pv 0) (pa_cons (pe_bltn (v := .ty "bool") (by rfl) B.bool (by decide +kernel) rfl) pa_nil))))))), ?_⟩
  refine ⟨_, rfl, _, _, _, _, true, rfl, .ty "int", .base (.int i), rfl, true, rfl, iteT ?_⟩
  exact ⟨_, rfl, _, _, _, _, false, rfl, .ty "bool", .base (.int i), rfl, false, rfl, q⟩
end
end HSP
namespace HSP
open PySem PySem.Spec PyProof.Rows L2
section
variable {P : Program} {w : World} {K : PySem.W.Frag} {mg : Str → Option Value} {base : Heap}
/-! ### check_row -/
theorem sc_chkR : FnScope n_check_row ["row"] (defScope s_check_row) := ⟨rfl, rfl, rfl, by decide +kernel, rfl, by decide +kernel, by decide +kernel⟩
def spChkR : Sp := fun vs H Q _ => ∃ (a : Addr) (ns : List Int), vs = [.ref a] ∧ H a = some (.lst (ns.map V.int)) ∧ ∀ H', Same H H' → Q .non H'
theorem ok_chkR (B : Bl mg) (W1 : Df P w K mg base "is_whole" 1 ["thing"] spWhole) (a : At K mg "check_row" s_check_row) : Df P w K mg base "check_row" 2 ["row"] spChkR := by
  refine Df.mk' a sc_chkR (fun vs H Q E h => ?_) (fun _ _ _ _ _ _ us hl => match us, hl with | [_], _ => rfl) (fun f cdv A outer s H vs Q E hr h => ?_)
  · obtain ⟨a, ns, rfl, _⟩ := h
    rfl
  obtain ⟨a, ns, rfl, ha, q⟩ := h
  refine ⟨_, (pss_cons (ps_if (pt_not (pt_val (pe_callB call_isi (by rfl) B.isinstance (by decide +kernel) (pa_cons (pv 0) (pa_cons (pe_bltn (v := .ty "list") (by rfl) B.list (by decide +kernel) rfl) pa_nil))))) (pss_one ps_never) pss_nil)
 (pss_one (ps_for PassesOwn.never rfl (pi_enum (by rfl) B.enumerate (pa_cons (pv 0) pa_nil)) (pg_tup rfl (pgs_cons (pg_name (i := 1) sc_chkR.nd rfl (.inl rfl)) (pgs_cons (pg_name (i := 2) sc_chkR.nd rfl (.inl rfl)) pgs_nil))) (pss_one (ps_if (pt_not (pt_val (pe_df W1 hr (pa_cons (pv 2) pa_nil)))) (pss_one ps_never) pss_nil))))), ?_⟩
  refine ⟨_, rfl, _, _, _, _, true, rfl, .ty "list", .base (.lst ha), rfl, true, rfl, iteF ?_⟩
  refine ⟨.ref a, rfl, a, ns.map V.int, rfl, .of ha, ?_⟩
  refine for_it (walk_enum (K := K) (a := a) (xs := ns.map V.int)) (fun _ σ H3 => Same H H3 ∧ ∃ y2 y3, σ = [some (.ref a), y2, y3]) ⟨Same.refl _, none, none, rfl⟩ (fun i σ H3 _ h3 => .of (h3.1 _ _ ha)) (fun i x σ H3 H4 hi h3 hy => ?_) (fun σ H3 h3 => q _ h3.1)
  obtain ⟨s3, y2, y3, rfl⟩ := h3
  obtain ⟨p, x1, x2, rfl, np, rfl, ex1, ex2⟩ := hy
  rw [List.length_map] at hi
  have g1 : (ns.map V.int)[i]? = some (.int ns[i]) := by
    rw [List.getElem?_map, List.getElem?_eq_getElem hi]
    rfl
  cases g1.symm.trans ex2
  refine ⟨p, [x1, .int ns[i]], rfl, .of upd_same, rfl, x1, _, rfl, _, [], rfl, rfl, ?_⟩
  refine ⟨_, rfl, _, rfl, true, rfl, iteF ?_⟩
  exact ⟨s3.trans (Same.new np), _, _, rfl⟩
end
end HSP
namespace HSP
open PySem PySem.Spec PyProof.Rows L2
/-! ## defs that are also called by name, the names the other way round -/
structure DfB (P : Program) (w : World) (K : PySem.W.Frag) (mg : Str → Option Value) (base : Heap) (x : Str) (n : Nat) (ps ks : List Str) (sp : Sp) : Prop where
  ex : ∃ (f : Addr) (fd : FuncData), mg x = some (.ref f) ∧ PySem.W.keepIn K (.ref f) = true ∧ Binds K fd ps [] ∧ KBn K fd ps 0 ks (fun _ ws => ws.reverse) (fun _ zs => zs.reverse) ∧ FnOk P w K mg base CX0 n f fd ps sp
section
variable {P : Program} {w : World} {K : PySem.W.Frag} {mg : Str → Option Value} {base : Heap}
theorem DfB.df {x : Str} {n : Nat} {ps ks : List Str} {sp : Sp} (D : DfB P w K mg base x n ps ks sp) : Df P w K mg base x n ps sp := by
  obtain ⟨f, fd, h1, h2, h3, _, h5⟩ := D.ex
  exact ⟨f, fd, h1, h2, h3, h5⟩
theorem Vals.rev {vs : List V} {us : List Value} (r : Vals vs us) : Vals vs.reverse us.reverse := by
  induction r with
  | nil => exact .nil
  | cons h t ih =>
    rw [List.reverse_cons, List.reverse_cons]
    exact ih.append (.cons h .nil)
theorem DfB.mk' {x : Str} {st : Stmt} {N ps ks : List Str} {k : Nat} {sp : Sp} (a : At K mg x st) (S : FnScope N ps (defScope st)) (len : ∀ vs H Q E, sp vs H Q E → vs.length = ps.length)
    (hb : ∀ (kV doc pm : Value) (an : Option Addr) (cdv ct : Value) (us : List Value), us.length = ps.length → bindArgs (PySem.W.fnOf x x (defArgs st) (defBody st) (defScope st) .none kV doc pm an cdv ct) ⟨us, []⟩ = pure (ps.zip us))
    (hk : ∀ (kV doc pm : Value) (an : Option Addr) (cdv ct : Value) (ws : List Value), ws.length = ks.length → bindArgs (PySem.W.fnOf x x (defArgs st) (defBody st) (defScope st) .none kV doc pm an cdv ct) ⟨[], ks.zip ws⟩ = pure (ps.zip ws.reverse))
    (body : ∀ (f : Addr) (cdv : Value) (A : Around) (outer : List Env) (s : Shared) (H : Hp) (vs : List V) (Q : VK) (E : XK), Room k (A.deeper (envOfC x (defScope st) s.heap.objs.size f cdv)) → sp vs H Q E →
      ∃ t, PSs (cxOf CX0 P w K mg base N x (defScope st) f cdv A outer s H E).nox (defBody st) t ∧ t { nx := fun _ H' => Q .non H', rt := Q } (start N vs) H) : DfB P w K mg base x (k + 1) ps ks sp := by
  obtain ⟨f, fd, hm, F⟩ := a
  refine ⟨f, fd, hm, F.kp, F.binds hb, ⟨fun s us ws _ h1 h2 => ?_, fun _ r => HSP.Vals.rev r⟩, F.ok S len (body f)⟩
  obtain ⟨oc, od, kV, doc, pm, an, cdv, ct, osl, rfl, _⟩ := F.ex
  rw [List.length_eq_zero_iff.mp h1]
  exact .of_eq (hk kV doc pm an cdv ct ws h2)
end
section
variable {X : Cx} {k : Nat} {ps ks : List Str} {sp : Sp} {x : Str} {p pos : Pos} {kws : List Keyword} {tk : TA}
theorem pe_dfK (D : DfB X.prog X.w X.K X.mg X.base x k ps ks sp) (hr : Room k X.A) (hkw : PK X kws tk) (hg : Gl X x := by rfl) (hall : (backToKw pos (keywordEach kws X.env)).all (·.1.isSome) = true := by rfl) (hks : (backToKw pos (keywordEach kws X.env)).filterMap (·.1) = ks := by rfl)
    (hdb : (x == ("__debug__" : Str)) = false := by decide) (hpl : (backToKw pos (keywordEach kws X.env)).any (·.1.isNone) = false := by rfl) : PE X (.Call (.Name x p) [] kws pos) (tCallN 0 ks.length sp (fun _ zs => zs.reverse) E0 tNil tk) := by
  obtain ⟨f, fd, hm, hk, _, kb, F⟩ := D.ex
  exact pe_callK0 F hr hg hm hk kb pass0 hkw hall hks hdb hpl
end
end HSP
namespace HSP
open PySem PySem.Spec PyProof.Rows L2
/-! ### rows of nodes, new ones -/
def RwsAt (H0 H : Hp) (R : Addr) (rws : List (List Nat)) : Prop := H0 R = none ∧ ∃ rs : List Addr, H R = some (.lst (rs.map V.ref)) ∧ Paired (fun r (ns : List Nat) => H r = some (.lst (ns.map natV))) rs rws ∧ rs.Nodup ∧ ∀ r, r ∈ rs → r ≠ R ∧ H0 r = none
theorem RwsAt.same {H0 H H' : Hp} {R : Addr} {rws : List (List Nat)} (h : RwsAt H0 H R rws) (s : Same H H') : RwsAt H0 H' R rws := by
  obtain ⟨n, rs, e, p, nd, o⟩ := h
  exact ⟨n, rs, s _ _ e, Paired.mapP p fun _ _ h => s _ _ h, nd, o⟩
theorem rows_push {H : Hp} {x : Nat} : ∀ {rs : List Addr} {rws : List (List Nat)}, Paired (fun r (ns : List Nat) => H r = some (.lst (ns.map natV))) rs rws → rs.Nodup → ∀ {k : Nat} {r : Addr} {row : List Nat}, rs[k]? = some r → rws[k]? = some row →
    Paired (fun b (ns : List Nat) => (upd H r (.lst ((row ++ [x]).map natV))) b = some (.lst (ns.map natV))) rs (rws.set k (row ++ [x]))
  | _, _, .nil, _, _, _, _, h, _ => by cases h
  | r0 :: rs, row0 :: rws, .cons h t, nd, 0, r, row, h1, h2 => by
    cases (show some r0 = some r from h1)
    cases (show some row0 = some row from h2)
    obtain ⟨n1, n2⟩ := List.nodup_cons.mp nd
    refine .cons upd_same ?_
    have key : ∀ {rs : List Addr} {rws : List (List Nat)}, Paired (fun r (ns : List Nat) => H r = some (.lst (ns.map natV))) rs rws → r0 ∉ rs → Paired (fun b (ns : List Nat) => (upd H r0 (.lst ((row0 ++ [x]).map natV))) b = some (.lst (ns.map natV))) rs rws := fun p => by
      induction p with
      | nil => intro _; exact .nil
      | cons h _ ih =>
        intro ni
        refine .cons ?_ (ih fun z => ni (List.mem_cons_of_mem _ z))
        rw [upd_ne fun z => ni (by rw [z]; exact List.mem_cons_self)]
        exact h
    exact key t n1
  | r0 :: rs, row0 :: rws, .cons h t, nd, k + 1, r, row, h1, h2 => by
    obtain ⟨n1, n2⟩ := List.nodup_cons.mp nd
    refine .cons ?_ (rows_push t n2 h1 h2)
    rw [upd_ne fun z => n1 (by rw [z]; exact List.mem_of_getElem? h1)]
    exact h
theorem rows_small {g : Nat → Int} {rws : List (List Nat)} {n : Nat} (ok : RowsOk g rws n) {row : List Nat} (h : row ∈ rws) : row.length ≤ n := by
  have h1 := ok.part.length_eq
  rw [List.length_range] at h1
  have : row.length ≤ rws.flatten.length := (List.sublist_flatten_of_mem h).length_le
  omega
section
variable {P : Program} {w : World} {K : PySem.W.Frag} {mg : Str → Option Value} {base : Heap}
/-! ### rows_of -/
theorem sc_rows_of : FnScope n_rows_of ["values"] (defScope s_rows_of) := ⟨rfl, rfl, rfl, by decide +kernel, rfl, by decide +kernel, by decide +kernel⟩
def spRowsOf : Sp := fun vs H Q _ => ∃ (a : Addr) (ns : List Int), vs = [.ref a] ∧ H a = some (.lst (ns.map V.int)) ∧ ns.length ≤ 900 ∧ ∀ (H' : Hp) (R : Addr), Same H H' → RwsAt H H' R (rowsOf (valAt ns) ns.length) → Q (.ref R) H'
theorem ok_rowsOf (B : Bl mg) (a : At K mg "rows_of" s_rows_of) : Df P w K mg base "rows_of" 1 ["values"] spRowsOf := by
  refine Df.mk' a sc_rows_of (fun vs H Q E h => ?_) (fun _ _ _ _ _ _ us hl => match us, hl with | [_], _ => rfl) (fun f cdv A outer s H vs Q E hr h => ?_)
  · obtain ⟨a, ns, rfl, _⟩ := h
    rfl
  obtain ⟨a, ns, rfl, ha, h900, q⟩ := h
  have zero : 0 ≤ sizeLine := by show 0 ≤ sizeLine; decide
  refine ⟨_, (pss_cons (ps_set (i := 1) sc_rows_of.nd rfl (.inl rfl) (pe_lst pa_nil))
 (pss_cons (ps_for PassesOwn.never rfl (pi_enum (by rfl) B.enumerate (pa_cons (pv 0) pa_nil)) (pg_tup rfl (pgs_cons (pg_name (i := 2) sc_rows_of.nd rfl (.inl rfl)) (pgs_cons (pg_name (i := 3) sc_rows_of.nd rfl (.inl rfl)) pgs_nil))) (pss_cons (ps_set (i := 4) sc_rows_of.nd rfl (.inl rfl) pe_int)
 (pss_cons (ps_while PassesOwn.never (PW.pt (pw_and (pt_cmpR op_lt (pv 4) (pe_callB call_len_seq (by rfl) B.len PySem.boot_len (pa_cons (pv 1) pa_nil)) (nomark _)) (pw_and1 (pt_cmpR op_lt (pe_ix ix_list (pv 0) (pe_ix ix_list (pe_ix ix_list (pv 1) (pv 4) (fun _ _ => rfl)) (pe_un un_neg pe_int) (fun _ _ => rfl)) (fun _ _ => rfl)) (pv 3) (nomark _))))) (pss_one (ps_aug (i := 4) sc_rows_of.nd rfl (.inl rfl) pe_int ip_add)))
 (pss_cons (ps_if (pt_cmpR op_eq (pv 4) (pe_callB call_len_seq (by rfl) B.len PySem.boot_len (pa_cons (pv 1) pa_nil)) (nomark _)) (pss_one (ps_expr (pe_bm PySem.F.plainAttrs_list PySem.F.slot_list_append PySem.F.type_list_append mt_append (pv 1) (pa_cons (pe_lst pa_nil) pa_nil)))) pss_nil)
 (pss_one (ps_expr (pe_bm PySem.F.plainAttrs_list PySem.F.slot_list_append PySem.F.type_list_append mt_append (pe_ix ix_list (pv 1) (pv 4) (fun _ _ => rfl)) (pa_cons (pv 2) pa_nil))))))))
 (pss_one (ps_ret (pv 1))))), ?_⟩
  refine ⟨zero, fun R hR => ?_⟩
  refine ⟨_, rfl, a, ns.map V.int, rfl, .of (Same.new hR _ _ ha), ?_⟩
  refine for_it (walk_enum (K := K) (a := a) (xs := ns.map V.int)) (fun i σ H' => Same H H' ∧ RwsAt H H' R (rowsOf (valAt ns) i) ∧ ∃ y2 y3 y4 : Option V, σ = [some (.ref a), some (.ref R), y2, y3, y4])
    ⟨Same.new hR, ⟨hR, [], upd_same, .nil, List.nodup_nil, fun r h => (by cases h)⟩, none, none, none, rfl⟩ (fun i σ H' _ h' => .of (h'.1 _ _ ha)) (fun i x σ H3 H4 hi h3 hy => ?_) (fun σ H3 h3 => ?_)
  · obtain ⟨s3, rw3, y2, y3, y4, rfl⟩ := h3
    obtain ⟨T, x1, x2, rfl, nT, rfl, ex1, ex2⟩ := hy
    rw [List.length_map] at hi
    cases (valAt_get hi).symm.trans ex2
    cases (show some (V.int ((i : Nat) : Int)) = some x1 from ex1)
    have sT := Same.new (o := .tup [V.int ((i : Nat) : Int), V.int (valAt ns i)]) nT
    refine ⟨T, _, rfl, .of upd_same, rfl, _, _, rfl, _, [], rfl, rfl, ?_⟩
    obtain ⟨_, rs, eR, pR, nd, fr⟩ := rw3.same sT
    have s4 := s3.trans sT
    have ha4 := s4 _ _ ha
    generalize upd H3 T (.tup [V.int ((i : Nat) : Int), V.int (valAt ns i)]) = H5 at eR pR s4 ha4 ⊢
    have ok := rows_ok (valAt ns) i
    have few := rows_le (valAt ns) i
    have up : rowsOf (valAt ns) (i + 1) = stepR (valAt ns) (rowsOf (valAt ns) i) i := rfl
    rw [up]
    generalize rowsOf (valAt ns) i = rws at pR ok few ⊢
    have lr := Paired.length pR
    -- the new one at its place
    have push : ∀ (H6 : Hp) (rs6 : List Addr) (rws6 : List (List Nat)) (k : Nat) (r : Addr) (row : List Nat), Same H H6 → H6 R = some (.lst (rs6.map V.ref)) → Paired (fun r (ns : List Nat) => H6 r = some (.lst (ns.map natV))) rs6 rws6 → rs6.Nodup → (∀ r, r ∈ rs6 → r ≠ R ∧ H r = none) → rs6[k]? = some r → rws6[k]? = some row →
        rws6.set k (row ++ [i]) = stepR (valAt ns) rws i → Same H (upd H6 r (.lst (row.map natV ++ [natV i]))) ∧ RwsAt H (upd H6 r (.lst (row.map natV ++ [natV i]))) R (stepR (valAt ns) rws i) := fun H6 rs6 rws6 k r row s6 e6 p6 nd6 fr6 hr hrow es => by
      have el : row.map natV ++ [natV i] = (row ++ [i]).map natV := by rw [List.map_append]; rfl
      have mem := List.mem_of_getElem? hr
      obtain ⟨n1, n2⟩ := fr6 r mem
      rw [el]
      refine ⟨fun b o e => ?_, hR, rs6, ?_, ?_, nd6, fr6⟩
      · rw [upd_ne (ne_of_none e n2)]
        exact s6 _ _ e
      · rw [upd_ne n1.symm]
        exact e6
      · rw [← es]
        exact rows_push p6 nd6 hr hrow
    refine ⟨fun m σ H6 => ∃ k : Nat, σ = [some (.ref a), some (.ref R), some (natV i), some (.int (valAt ns i)), some (natV k)] ∧ H6 = H5 ∧ k ≤ rws.length ∧ (∀ (j : Nat) (r : List Nat), j < k → rws[j]? = some r → valAt ns (lastN r) < valAt ns i) ∧ m = rws.length - k,
      ⟨rws.length, 0, rfl, rfl, Nat.zero_le _, fun j r hj => absurd hj (Nat.not_lt_zero j), rfl⟩, fun m σ H6 hW => ?_⟩
    obtain ⟨k, rfl, rfl, hk, lo, rfl⟩ := hW
    by_cases c : k < rws.length
    · refine ⟨_, rfl, _, rfl, R, _, rfl, .inl (.of eR), _, _, rfl, rfl, _, rfl, ite_yes (by rw [List.length_map]; omega) ?_⟩
      obtain ⟨row, hrow⟩ : ∃ row, rws[k]? = some row := ⟨_, List.getElem?_eq_getElem c⟩
      obtain ⟨r, hr2⟩ : ∃ r, rs[k]? = some r := ⟨_, List.getElem?_eq_getElem (by omega)⟩
      have er : H6 r = some (.lst (row.map natV)) := by
        obtain ⟨row2, h2, h3⟩ := Paired.getL pR hr2
        cases hrow.symm.trans h2
        exact h3
      have hmem := List.mem_of_getElem? hrow
      have ne := ok.ne row hmem
      have sm := rows_small ok hmem
      have lastlt := ok.lt hmem (lastN_mem ne)
      have hrV : (rs.map V.ref)[k]? = some (.ref r) := by
        rw [List.getElem?_map, hr2]
        rfl
      have atk := at_of (z := ((k : Nat) : Int)) (j := k) rfl hrV
      have atl : atI (row.map natV) (-1) = some (natV (lastN row)) := by
        rcases List.eq_nil_or_concat row with e | ⟨s0, z, e⟩
        · exact absurd e ne
        · rw [e, List.concat_eq_append, List.map_append, lastN_snoc]
          exact atI_last _ _
      refine ⟨_, rfl, _, rfl, _, rfl, R, _, _, _, rfl, rfl, .of eR, atk, _, rfl, r, _, _, _, rfl, rfl, .of er, atl, a, _, _, _, rfl, rfl, .of ha4, at_of (z := ((lastN row : Nat) : Int)) (j := lastN row) rfl (valAt_get (by omega)), _, rfl, _, _, rfl, rfl, _, rfl, ite2 (fun d => ?_) (fun d => ?_)⟩
      · have d1 : valAt ns (lastN row) < valAt ns i := of_decide_eq_true d
        refine ⟨fun σ' H' => ∃ m', m' < rws.length - k ∧ ∃ k : Nat, σ' = [some (.ref a), some (.ref R), some (natV i), some (.int (valAt ns i)), some (natV k)] ∧ H' = H6 ∧ k ≤ rws.length ∧ (∀ (j : Nat) (r : List Nat), j < k → rws[j]? = some r → valAt ns (lastN r) < valAt ns i) ∧ m' = rws.length - k, fun σ' H' hN => hN, ?_⟩
        refine ⟨_, rfl, _, _, rfl, rfl, rws.length - (k + 1), by omega, k + 1, ?_, rfl, by omega, fun j r' hj e => ?_, rfl⟩
        · exact congrArg (fun q => [some (V.ref a), some (V.ref R), some (natV i), some (V.int (valAt ns i)), some (V.int q)]) (by omega : ((k : Nat) : Int) + 1 = ((k + 1 : Nat) : Int))
        · by_cases cj : j = k
          · rw [cj, hrow] at e
            cases e
            exact d1
          · exact lo j r' (by omega) e
      · have d1 : ¬ valAt ns (lastN row) < valAt ns i := fun z => d (decide_eq_true z)
        refine ⟨_, rfl, _, rfl, R, _, rfl, .inl (.of eR), rfl, _, rfl, ite_no (fun z => by have := V.int.inj z; rw [List.length_map] at this; omega) ?_⟩
        refine ⟨_, rfl, _, rfl, R, _, _, _, rfl, rfl, .of eR, atk, .inl ⟨rfl, _, .of er⟩, _, rfl, r, _, _, rfl, rfl, er, ?_, ?_⟩
        · rw [List.length_map]
          exact small1000 (by omega)
        · obtain ⟨g1, g2⟩ := push H6 rs rws k r row s4 eR pR nd fr hr2 hrow (stepR_at lo hrow d1).symm
          exact ⟨g1, g2, _, _, _, rfl⟩
    · have ek : k = rws.length := by omega
      refine ⟨_, rfl, _, rfl, R, _, rfl, .inl (.of eR), _, _, rfl, rfl, _, rfl, ite_no (by rw [List.length_map]; omega) ?_⟩
      refine ⟨_, rfl, _, rfl, R, _, rfl, .inl (.of eR), rfl, _, rfl, ite_yes (congrArg V.int (by rw [List.length_map]; omega)) ?_⟩
      refine ⟨_, rfl, .inl ⟨rfl, _, .of eR⟩, zero, fun Z hZ => ?_⟩
      have sZ := Same.new (o := .lst []) hZ
      have nRZ : R ≠ Z := ne_of_none eR hZ
      have nrZ : Z ∉ rs := fun z => by
        obtain ⟨k0, hk0⟩ := List.mem_iff_getElem?.mp z
        obtain ⟨_, _, h3⟩ := Paired.getL pR hk0
        rw [hZ] at h3
        cases h3
      refine ⟨R, _, _, rfl, rfl, sZ _ _ eR, ?_, ?_⟩
      · rw [List.length_map]
        exact small1000 (by omega)
      have el : rs.map V.ref ++ [V.ref Z] = (rs ++ [Z]).map V.ref := by rw [List.map_append]; rfl
      have eR7 : (upd (upd H6 Z (.lst [])) R (.lst (rs.map V.ref ++ [V.ref Z]))) R = some (.lst ((rs ++ [Z]).map V.ref)) := by rw [upd_same, el]
      have eZ7 : (upd (upd H6 Z (.lst [])) R (.lst (rs.map V.ref ++ [V.ref Z]))) Z = some (.lst (([] : List Nat).map natV)) := by
        rw [upd_ne nRZ.symm, upd_same]
        rfl
      have p7 : Paired (fun r (ns : List Nat) => (upd (upd H6 Z (.lst [])) R (.lst (rs.map V.ref ++ [V.ref Z]))) r = some (.lst (ns.map natV))) (rs ++ [Z]) (rws ++ [[]]) := by
        refine Paired.app ?_ (.cons eZ7 .nil)
        have key : ∀ {rs2 : List Addr} {rws2 : List (List Nat)}, Paired (fun r (ns : List Nat) => H6 r = some (.lst (ns.map natV))) rs2 rws2 → (∀ r, r ∈ rs2 → r ≠ R) → Paired (fun r (ns : List Nat) => (upd (upd H6 Z (.lst [])) R (.lst (rs.map V.ref ++ [V.ref Z]))) r = some (.lst (ns.map natV))) rs2 rws2 := fun p => by
          induction p with
          | nil => intro _; exact .nil
          | cons h _ ih =>
            intro hn
            refine .cons ?_ (ih fun r hr => hn r (List.mem_cons_of_mem _ hr))
            rw [upd_ne (hn _ List.mem_cons_self)]
            exact sZ _ _ h
        exact key pR fun r hr => (fr r hr).1
      have s7 : Same H (upd (upd H6 Z (.lst [])) R (.lst (rs.map V.ref ++ [V.ref Z]))) := fun b o e => by
        rw [upd_ne (ne_of_none e hR)]
        exact sZ _ _ (s4 _ _ e)
      generalize upd (upd H6 Z (.lst [])) R (.lst (rs.map V.ref ++ [V.ref Z])) = H7 at eR7 eZ7 p7 s7 ⊢
      have nd7 : (rs ++ [Z]).Nodup := List.nodup_append.mpr ⟨nd, List.nodup_cons.mpr ⟨List.not_mem_nil, List.nodup_nil⟩, fun x hx y hy z => nrZ (by rw [← List.mem_singleton.mp hy, ← z]; exact hx)⟩
      have fr7 : ∀ r, r ∈ rs ++ [Z] → r ≠ R ∧ H r = none := fun r hr => by
        rcases List.mem_append.mp hr with q | q
        · exact fr r q
        · rw [List.mem_singleton.mp q]
          exact ⟨nRZ.symm, s4.free hZ⟩
      have hZk : (rs ++ [Z])[k]? = some Z := by
        rw [List.getElem?_append_right (by omega), show k - rs.length = 0 by omega]
        rfl
      have hEk : (rws ++ [([] : List Nat)])[k]? = some [] := by
        rw [List.getElem?_append_right (by omega), show k - rws.length = 0 by omega]
        rfl
      have hZV : ((rs ++ [Z]).map V.ref)[k]? = some (.ref Z) := by
        rw [List.getElem?_map, hZk]
        rfl
      refine ⟨_, rfl, _, rfl, R, _, _, _, rfl, rfl, .of eR7, at_of (z := ((k : Nat) : Int)) (j := k) rfl hZV, .inl ⟨rfl, _, .of eZ7⟩, _, rfl, Z, _, _, rfl, rfl, eZ7, (by show 0 < sizeLine; decide), ?_⟩
      have es : (rws ++ [([] : List Nat)]).set k ([] ++ [i]) = stepR (valAt ns) rws i := by
        rw [stepR_end (fun j r e => lo j r (by have := (List.getElem?_eq_some_iff.mp e).1; omega) e), ek, List.set_append_right _ _ (Nat.le_refl _), Nat.sub_self]
        rfl
      obtain ⟨g1, g2⟩ := push H7 (rs ++ [Z]) (rws ++ [[]]) k Z [] s7 eR7 p7 nd7 fr7 hZk hEk es
      exact ⟨g1, g2, _, _, _, rfl⟩
  · obtain ⟨s3, rw3, y2, y3, y4, rfl⟩ := h3
    rw [List.length_map] at rw3
    exact ⟨_, rfl, q H3 R s3 rw3⟩
end
end HSP
namespace HSP
open PySem PySem.Spec PyProof.Rows L2
theorem isEmpty_dec {α : Type} (l : List α) : decide (V.int ((l.length : Nat) : Int) = V.int 0) = l.isEmpty := by
  cases l with
  | nil => rfl
  | cons x r => exact decide_eq_false fun z => by have := V.int.inj z; rw [List.length_cons] at this; omega
theorem lastN_at {r : List Nat} (h : r ≠ []) : atI (r.map natV) (-1) = some (natV (lastN r)) := by
  rcases List.eq_nil_or_concat r with e | ⟨s0, z, e⟩
  · exact absurd e h
  · rw [e, List.concat_eq_append, List.map_append, lastN_snoc]
    exact atI_last _ _
/-- -1, the row, n: with what lies between each two -/
def edgesL : Nat → List Nat → Nat → List Int
  | s, [], n => [(s : Int) - 1, (n : Int)]
  | s, x :: r, n => ((s : Int) - 1) :: edgesL (x + 1) r n
theorem edges_len : ∀ (s : Nat) (c : List Nat) (n : Nat), (edgesL s c n).length = c.length + 2
  | _, [], _ => rfl
  | s, x :: r, n => by
    show (edgesL (x + 1) r n).length + 1 = _
    rw [edges_len (x + 1) r n]
    rfl
theorem edges_is : ∀ (s : Nat) (c : List Nat) (n : Nat), (edgesL s c n).map V.int = V.int ((s : Int) - 1) :: c.map natV ++ [natV n]
  | s, [], n => rfl
  | s, x :: r, n => by
    have ih := edges_is (x + 1) r n
    show V.int ((s : Int) - 1) :: (edgesL (x + 1) r n).map V.int = _
    rw [ih, show (((x + 1 : Nat) : Int) - 1) = (x : Int) by omega]
    rfl
theorem edges_gap : ∀ (s : Nat) (c : List Nat) (n i : Nat) (x y : Int), s ≤ n → (c.Pairwise (· < ·)) → (∀ z, z ∈ c → s ≤ z ∧ z < n) → (edgesL s c n)[i]? = some x → (edgesL s c n)[i + 1]? = some y → ∃ m, (gaps s c n)[i]? = some m ∧ y - x - 1 = ((m : Nat) : Int)
  | s, [], n, 0, x, y, hs, _, _, h1, h2 => by
    cases (show some ((s : Int) - 1) = some x from h1)
    cases (show some (n : Int) = some y from h2)
    exact ⟨n - s, rfl, by omega⟩
  | s, [], n, i + 1, x, y, _, _, _, h1, h2 => by
    have := (List.getElem?_eq_some_iff.mp h2).1
    have e : (edgesL s [] n).length = 2 := rfl
    omega
  | s, z :: r, n, 0, x, y, hs, hp, hz, h1, h2 => by
    cases (show some ((s : Int) - 1) = some x from h1)
    obtain ⟨z1, z2⟩ := hz z List.mem_cons_self
    refine ⟨z - s, rfl, ?_⟩
    have e : (edgesL (z + 1) r n)[0]? = some (((z + 1 : Nat) : Int) - 1) := by cases r <;> rfl
    have h2' : (edgesL (z + 1) r n)[0]? = some y := h2
    cases e.symm.trans h2'
    omega
  | s, z :: r, n, i + 1, x, y, hs, hp, hz, h1, h2 => by
    obtain ⟨z1, z2⟩ := hz z List.mem_cons_self
    obtain ⟨p1, p2⟩ := List.pairwise_cons.mp hp
    exact edges_gap (z + 1) r n i x y (by omega) p2 (fun u hu => ⟨p1 u hu, (hz u (List.mem_cons_of_mem _ hu)).2⟩) h1 h2
section
variable {P : Program} {w : World} {K : PySem.W.Frag} {mg : Str → Option Value} {base : Heap}
/-! ### rising_row -/
theorem sc_rising_row : FnScope n_rising_row ["rows"] (defScope s_rising_row) := ⟨rfl, rfl, rfl, by decide +kernel, rfl, by decide +kernel, by decide +kernel⟩
def spRisingRow : Sp := fun vs H Q _ => ∃ (R : Addr) (rs : List Addr) (rws : List (List Nat)) (g : Nat → Int) (n : Nat), vs = [.ref R] ∧ H R = some (.lst (rs.map V.ref)) ∧ Paired (fun r (ns : List Nat) => H r = some (.lst (ns.map natV))) rs rws ∧ RowsOk g rws n ∧ rws.length ≤ n ∧ n ≤ 900 ∧
  ∀ (H' : Hp) (q : Addr), Same H H' → H q = none → H' q = some (.lst ((risingOf rws).map natV)) → Q (.ref q) H'
theorem ok_risingRow (B : Bl mg) (a : At K mg "rising_row" s_rising_row) : Df P w K mg base "rising_row" 1 ["rows"] spRisingRow := by
  refine Df.mk' a sc_rising_row (fun vs H Q E h => ?_) (fun _ _ _ _ _ _ us hl => match us, hl with | [_], _ => rfl) (fun f cdv A outer s H vs Q E hr h => ?_)
  · obtain ⟨_, _, _, _, _, rfl, _⟩ := h
    rfl
  obtain ⟨R, rs, rws, g, n, rfl, eR, pR, ok, few, h900, q⟩ := h
  have zero : 0 ≤ sizeLine := by show 0 ≤ sizeLine; decide
  have lr := Paired.length pR
  refine ⟨_, (pss_cons (ps_set (i := 1) sc_rising_row.nd rfl (.inr rfl) (pe_lst pa_nil))
 (pss_cons (ps_for PassesOwn.never rfl (pi_list (pe_revL (pv 0))) (pg_name (i := 2) sc_rising_row.nd rfl (.inl rfl)) (pss_cons (ps_setLc (i := 3) (own := [("node", 4)]) (g := (gName 4)) (by rfl) sc_rising_row.nd rfl rfl (sw_true rfl rfl rfl (by decide +kernel)) (pi_list (pv 2)) (blkOk_by (N := n_rising_row) (sc := defScope s_rising_row) (by decide +kernel)) (fun _ _ _ _ _ => (pg_name (i := 4) sc_rising_row.nd rfl (.inl rfl))) (fun _ _ _ _ _ => (pts_one (PW.pt (pw_or (pt_cmpR op_eq (pe_callB (show CallR _ (Value.builtin "len") (rLenK K) from call_len_seq) (by rfl) B.len PySem.boot_len (pa_cons (pv 1) pa_nil)) pe_int (nomark _)) (pw_or1 (pt_cmpR op_lt (pv 4) (pe_ix (show IxR _ (rIxL K) from ix_list) (pv 1) (pe_un un_neg pe_int) (fun _ _ => rfl)) (nomark _))))))) (fun _ _ _ _ _ => (pv 4)))
 (pss_one (ps_expr (pe_bm PySem.F.plainAttrs_list PySem.F.slot_list_append PySem.F.type_list_append mt_append (pv 1) (pa_cons (pe_ix ix_list (pv 3) (pe_un un_neg pe_int) (fun _ _ => rfl)) pa_nil))))))
 (pss_one (ps_ret (pe_revL (pv 1)))))), ?_⟩
  refine ⟨zero, fun T hT => ?_⟩
  have sT := Same.new (o := .lst []) hT
  refine ⟨_, rfl, R, _, rfl, .of (sT _ _ eR), fun V1 hV1 => ?_⟩
  have sV := Same.new (o := .lst (rs.map V.ref).reverse) hV1
  have nTV : T ≠ V1 := ne_of_none upd_same hV1
  have eV : (upd (upd H T (.lst [])) V1 (.lst (rs.map V.ref).reverse)) V1 = some (.lst ((rs.map V.ref).reverse)) := upd_same
  have eT : (upd (upd H T (.lst [])) V1 (.lst (rs.map V.ref).reverse)) T = some (.lst []) := sV _ _ upd_same
  have sTV := sT.trans sV
  generalize upd (upd H T (.lst [])) V1 (.lst (rs.map V.ref).reverse) = H1 at eV eT sTV ⊢
  refine ⟨V1, rfl, ⟨_, .of eV⟩, for_list (xs := (rs.map V.ref).reverse) (fun j σ H' => ∃ y2 y3 : Option V, σ = [some (.ref R), some (.ref T), y2, y3, none] ∧ Same H H' ∧ H' V1 = some (.lst ((rs.map V.ref).reverse)) ∧ H' T = some (.lst ((takenOf rws j).map natV))) ⟨none, none, rfl, sTV, eV, eT⟩ (fun j σ H' _ h' => ?_) (fun j x σ H2 hx h2 => ?_) (fun σ H2 h2 => ?_)⟩
  · obtain ⟨_, _, _, _, e, _⟩ := h'
    exact .of e
  · obtain ⟨y2, y3, rfl, s2, eV2, eT2⟩ := h2
    obtain ⟨hj, hx2⟩ := rev_get hx
    rw [List.length_map] at hj hx2
    rw [List.getElem?_map] at hx2
    obtain ⟨r, hr2, rfl⟩ := Option.map_eq_some_iff.mp hx2
    obtain ⟨row, hrow, er⟩ := Paired.getL pR hr2
    have hrev : rws.reverse[j]? = some row := by
      rw [List.getElem?_reverse (by omega)]
      rw [← lr]
      exact hrow
    have tk := taken_ok ok j (by omega)
    obtain ⟨ne, tk2⟩ := taken_pick ok tk hrev
    have tsu := taken_succ rws j hrev
    have sm := rows_small ok (List.mem_of_getElem? hrow)
    have er2 := s2 _ _ er
    unfold takeS at tsu
    refine ⟨_, rfl, r, rfl, ⟨_, .of er2⟩, fun D hD => ?_⟩
    have sD := Same.new (o := .lst []) hD
    have nTD : T ≠ D := ne_of_none eT2 hD
    have lt := tk.len
    generalize takenOf rws j = tks at eT2 ne tsu lt ⊢
    refine lc_list (xs := row.map natV) (fun c H' => Same H2 H' ∧ H' D = some (.lst (((row.take c).filter fun x => tks.isEmpty || decide (x < lastN tks)).map natV))) ⟨sD, upd_same⟩ (fun c H' _ h' => .of (h'.1 _ _ er2)) (fun c x H' hx' h' => ?_) (fun H3 h3 => ?_)
    · obtain ⟨s', e'⟩ := h'
      rw [List.getElem?_map] at hx'
      obtain ⟨z, hz, rfl⟩ := Option.map_eq_some_iff.mp hx'
      have hc := (List.getElem?_eq_some_iff.mp hz).1
      have eT' := s' _ _ eT2
      refine ⟨rfl, ?_⟩
      rw [List.take_add_one, hz, List.filter_append]
      have ef : (some z).toList.filter (fun x => tks.isEmpty || decide (x < lastN tks)) = if (tks.isEmpty || decide (z < lastN tks)) = true then [z] else [] := by
        show (z :: []).filter _ = _
        rw [List.filter_cons]
        rfl
      rw [ef]
      have lf := List.length_filter_le (fun x => tks.isEmpty || decide (x < lastN tks)) (row.take c)
      rw [List.length_take] at lf
      have keep : (tks.isEmpty || decide (z < lastN tks)) = true → ∃ acc, H' D = some (.lst acc) ∧ acc.length < sizeLine ∧ (Same H2 (upd H' D (.lst (acc ++ [natV z]))) ∧ (upd H' D (.lst (acc ++ [natV z]))) D = some (.lst ((((row.take c).filter fun x => tks.isEmpty || decide (x < lastN tks)) ++ if (tks.isEmpty || decide (z < lastN tks)) = true then [z] else []).map natV))) := fun k => by
        refine ⟨_, e', ?_, fun b o eb => ?_, ?_⟩
        · rw [List.length_map]
          exact small1000 (by omega)
        · rw [upd_ne (ne_of_none eb hD)]
          exact s' _ _ eb
        · rw [upd_same, if_pos k, List.map_append]
          rfl
      refine ⟨_, rfl, T, _, rfl, .inl (.of eT'), rfl, _, rfl, ?_⟩
      rw [List.length_map, isEmpty_dec]
      cases em : tks.isEmpty with
      | true =>
        obtain ⟨acc, k1, k2, k3⟩ := keep (by rw [em]; rfl)
        rw [em] at k3
        exact iteT ⟨_, rfl, acc, k1, k2, k3⟩
      | false =>
        have nemp : tks ≠ [] := fun z => by rw [z] at em; cases em
        refine iteF ⟨_, rfl, _, rfl, _, rfl, T, _, _, _, rfl, rfl, .of eT', lastN_at nemp, _, _, rfl, rfl, _, rfl, ?_⟩
        by_cases d : z < lastN tks
        · obtain ⟨acc, k1, k2, k3⟩ := keep (by rw [em, decide_eq_true d]; rfl)
          rw [em] at k3
          exact ite_yes (by omega) ⟨_, rfl, acc, k1, k2, k3⟩
        · refine ite_no (by omega) ⟨s', ?_⟩
          rw [decide_eq_false d, if_neg (by decide), List.append_nil]
          rw [em] at e'
          exact e'
    obtain ⟨s3, e3⟩ := h3
    rw [List.length_map, List.take_length] at e3
    have eT3 := s3 _ _ eT2
    refine ⟨_, rfl, .inl ⟨rfl, _, .of eT3⟩, _, rfl, _, rfl, D, _, _, _, rfl, rfl, .of e3, lastN_at ne, T, _, _, rfl, rfl, eT3, ?_, ?_⟩
    · rw [List.length_map]
      exact small1000 (by omega)
    refine ⟨_, _, rfl, fun b o eb => ?_, ?_, ?_⟩
    · rw [upd_ne (ne_of_none eb hT)]
      exact s3 _ _ (s2 _ _ eb)
    · rw [upd_ne nTV.symm]
      exact s3 _ _ eV2
    · rw [upd_same, tsu, List.map_append]
      rfl
  · obtain ⟨y2, y3, rfl, s2, eV2, eT2⟩ := h2
    rw [List.length_reverse, List.length_map, lr] at eT2
    refine ⟨_, rfl, T, _, rfl, .of eT2, fun q2 hq2 => q _ q2 (s2.trans (Same.new hq2)) (s2.free hq2) ?_⟩
    rw [upd_same]
    unfold risingOf
    rw [List.map_reverse]
/-! ### most_found -/
theorem sc_most_found : FnScope n_most_found ["values"] (defScope s_most_found) := ⟨rfl, rfl, rfl, by decide +kernel, rfl, by decide +kernel, by decide +kernel⟩
def spMostFound : Sp := fun vs H Q _ => ∃ (a : Addr) (ns : List Int), vs = [.ref a] ∧ H a = some (.lst (ns.map V.int)) ∧ ns.length ≤ 64 ∧ ∀ (H' : Hp) (p R : Addr) (v : V), Same H H' → H' p = some (.tup [v, .ref R]) → TrAt H' v (mostT (valAt ns) ns.length) → RwsAt H H' R (rowsOf (valAt ns) ns.length) → Q (.ref p) H'
theorem ok_mostFound (B : Bl mg) (Cr : Df P w K mg base "check_row" 2 ["row"] spChkR) (Ro : Df P w K mg base "rows_of" 1 ["values"] spRowsOf) (Ri : Df P w K mg base "rising_row" 1 ["rows"] spRisingRow) (Hv : Df P w K mg base "halved" 9 ["length", "rule"] (spHalved 8)) (Jo : Df P w K mg base "joined" 9 ["parts"] (spJoined 8)) (a : At K mg "most_found" s_most_found) :
    DfB P w K mg base "most_found" 10 ["values"] ["values"] spMostFound := by
  refine DfB.mk' a sc_most_found (fun vs H Q E h => ?_) (fun _ _ _ _ _ _ us hl => match us, hl with | [_], _ => rfl) (fun _ _ _ _ _ _ us hl => match us, hl with | [_], _ => rfl) (fun f cdv A outer s H vs Q E hr h => ?_)
  · obtain ⟨a, ns, rfl, _⟩ := h
    rfl
  obtain ⟨a, ns, rfl, ha, h64, q⟩ := h
  have one : 1 ≤ sizeLine := by show 1 ≤ sizeLine; decide
  have two : 2 ≤ sizeLine := by show 2 ≤ sizeLine; decide
  refine ⟨_, (pss_cons (ps_expr (pe_df Cr (hr.mono (by decide)) (pa_cons (pv 0) pa_nil)))
 (pss_cons (ps_set (i := 1) sc_most_found.nd rfl (.inl rfl) (pe_df Ro (hr.mono (by decide)) (pa_cons (pv 0) pa_nil)))
 (pss_cons (ps_set (i := 2) sc_most_found.nd rfl (.inl rfl) (pe_op op_cat (pe_op op_cat (pe_lst (pa_cons (pe_un un_neg pe_int) pa_nil)) (pe_df Ri (hr.mono (by decide)) (pa_cons (pv 1) pa_nil))) (pe_lst (pa_cons (pe_callB call_len_seq (by rfl) B.len PySem.boot_len (pa_cons (pv 0) pa_nil)) pa_nil))))
 (pss_cons (ps_setLc (i := 3) (own := [("before", 4), ("behind", 5)]) (g := (gTup K 2 (gCons (gName 4) (gCons (gName 5) gNil)))) (tt := tYes) (by rfl) sc_most_found.nd rfl rfl (sw_true rfl rfl rfl (by decide +kernel)) (pi_zip (by rfl) B.zip (pa_cons (pv 2) (pa_cons (pe_slice sl_list (pv 2) (po_some pe_int) po_none) pa_nil))) (blkOk_by (N := n_most_found) (sc := defScope s_most_found) (by decide +kernel)) (fun _ _ _ _ _ => (pg_tup rfl (pgs_cons (pg_name (i := 4) sc_most_found.nd rfl (.inl rfl)) (pgs_cons (pg_name (i := 5) sc_most_found.nd rfl (.inl rfl)) pgs_nil)))) (fun _ _ _ _ _ => pts_nil) (fun _ _ _ _ _ => (pe_df Hv hr (pa_cons (pe_op op_sub (pe_op op_sub (pv 5) (pv 4)) pe_int) (pa_cons pe_str pa_nil)))))
 (pss_one (ps_ret (pe_tup (pa_cons (pe_df Jo hr (pa_cons (pv 3) pa_nil)) (pa_cons (pv 1) pa_nil))))))))), ?_⟩
  refine ⟨_, rfl, a, ns, rfl, ha, fun H1 s1 => ?_⟩
  refine ⟨_, rfl, a, ns, rfl, s1 _ _ ha, by omega, fun H2 R s2 rw2 => ?_⟩
  have ok := rows_ok (valAt ns) ns.length
  have few := rows_le (valAt ns) ns.length
  obtain ⟨⟨up, inn⟩, len⟩ := rising_ok ok
  obtain ⟨nR, rs, eR, pR, nd, fr⟩ := rw2
  have s12 := s1.trans s2
  have ha2 := s12 _ _ ha
  -- the edges
  refine ⟨_, rfl, one, fun p1 hp1 => ?_⟩
  have s3 := Same.new (o := .lst [V.int (-1)]) hp1
  refine ⟨_, rfl, R, rs, _, valAt ns, ns.length, rfl, s3 _ _ eR, Paired.mapP pR fun _ _ h => s3 _ _ h, ok, few, by omega, fun H3 p2 s4 n2 e2 => ?_⟩
  have e1 := s4 _ _ (upd_same (H := H2) (a := p1) (o := .lst [V.int (-1)]))
  refine ⟨p1, p2, _, _, rfl, rfl, e1, e2, ?_, fun p3 hp3 => ?_⟩
  · rw [List.length_map]
    exact Nat.le_of_lt (small1000 (by show 1 + _ ≤ 1000; omega))
  have s5 := Same.new (o := .lst ([V.int (-1)] ++ (risingOf (rowsOf (valAt ns) ns.length)).map natV)) hp3
  have s25 := s3.trans (s4.trans s5)
  refine ⟨_, rfl, a, _, rfl, .inl (.of (s25 _ _ ha2)), one, fun p4 hp4 => ?_⟩
  have s6 := Same.new (o := .lst [V.int (((ns.map V.int).length : Nat) : Int)]) hp4
  refine ⟨p3, p4, _, _, rfl, rfl, s6 _ _ upd_same, upd_same, ?_, fun E hE => ?_⟩
  · rw [List.length_append, List.length_map]
    exact Nat.le_of_lt (small1000 (by show 1 + _ + 1 ≤ 1000; omega))
  have ee : [V.int (-1)] ++ (risingOf (rowsOf (valAt ns) ns.length)).map natV ++ [V.int (((ns.map V.int).length : Nat) : Int)] = (edgesL 0 (risingOf (rowsOf (valAt ns) ns.length)) ns.length).map V.int := by
    rw [edges_is, List.length_map]
    rfl
  rw [ee]
  have s7 := Same.new (o := .lst ((edgesL 0 (risingOf (rowsOf (valAt ns) ns.length)) ns.length).map V.int)) hE
  have s27 := s25.trans (s6.trans s7)
  have elen := edges_len 0 (risingOf (rowsOf (valAt ns) ns.length)) ns.length
  have glen := gaps_len 0 (risingOf (rowsOf (valAt ns) ns.length)) ns.length
  have eE : (upd (upd (upd H3 p3 (.lst ([V.int (-1)] ++ (risingOf (rowsOf (valAt ns) ns.length)).map natV))) p4 (.lst [V.int (((ns.map V.int).length : Nat) : Int)])) E (.lst ((edgesL 0 (risingOf (rowsOf (valAt ns) ns.length)) ns.length).map V.int))) E = some (.lst ((edgesL 0 (risingOf (rowsOf (valAt ns) ns.length)) ns.length).map V.int)) := upd_same
  generalize upd (upd (upd H3 p3 (.lst ([V.int (-1)] ++ (risingOf (rowsOf (valAt ns) ns.length)).map natV))) p4 (.lst [V.int (((ns.map V.int).length : Nat) : Int)])) E (.lst ((edgesL 0 (risingOf (rowsOf (valAt ns) ns.length)) ns.length).map V.int)) = H4 at s27 eE ⊢
  have egap : ∀ (i : Nat) (x y : Int), _ → _ → _ := fun i x y h1 h2 => edges_gap 0 (risingOf (rowsOf (valAt ns) ns.length)) ns.length i x y (Nat.zero_le _) (up.imp fun h => h.1) (fun z hz => ⟨Nat.zero_le _, inn z hz⟩) h1 h2
  have gsm := gaps_small 0 (risingOf (rowsOf (valAt ns) ns.length)) ns.length inn
  have mostIs : mostT (valAt ns) ns.length = joinT 8 ((gaps 0 (risingOf (rowsOf (valAt ns) ns.length)) ns.length).map (halv 8)) := rfl
  have gne := gaps_ne 0 (risingOf (rowsOf (valAt ns) ns.length)) ns.length
  rw [len] at elen glen
  generalize edgesL 0 (risingOf (rowsOf (valAt ns) ns.length)) ns.length = es at eE elen egap ⊢
  generalize gaps 0 (risingOf (rowsOf (valAt ns) ns.length)) ns.length = gs at glen egap gsm mostIs gne
  -- the parts
  refine ⟨_, rfl, _, rfl, _, rfl, E, es.map V.int, rfl, .of eE, fun p5 hp5 => ?_⟩
  have s8 := Same.new (o := .lst (cutV (es.map V.int) (some 1) none)) hp5
  have e5 : (upd H4 p5 (.lst (cutV (es.map V.int) (some 1) none))) p5 = some (.lst ((es.drop 1).map V.int)) := by
    rw [upd_same, show (some (1 : Int)) = some ((1 : Nat) : Int) from rfl, cut_from, List.map_drop]
  have eE5 := s8 _ _ eE
  have s28 := s27.trans s8
  generalize upd H4 p5 (.lst (cutV (es.map V.int) (some 1) none)) = H5 at e5 eE5 s28 ⊢
  refine ⟨E, p5, _, _, rfl, .of eE5, .of e5, fun D hD => ?_⟩
  have many : gs.length = min (es.map V.int).length ((es.drop 1).map V.int).length := by
    rw [List.length_map, List.length_map, List.length_drop]
    omega
  refine lc_it (walk_zip (K := K) (a := E) (b := p5) (xs := es.map V.int) (ys := (es.drop 1).map V.int) many) (fun i H' => Same H5 H' ∧ ∃ zs : List V, H' D = some (.lst zs) ∧ zs.length = i ∧ Paired (fun v t => TrAt H' v t) zs ((gs.take i).map (halv 8))) ⟨Same.new hD, [], upd_same, rfl, .nil⟩ (fun i H3 _ h3 => ⟨.of (h3.1 _ _ eE5), .of (h3.1 _ _ e5)⟩) (fun i x H6 H7 hi h6 hy => ?_) (fun H6 h6 => ?_)
  · obtain ⟨s9, zs, ez, lz, pz⟩ := h6
    obtain ⟨T, x1, x2, rfl, nT, rfl, g1, g2⟩ := hy
    have g1 : (es.map V.int)[i]? = some x1 := g1
    have g2 : ((es.drop 1).map V.int)[i]? = some x2 := g2
    rw [List.getElem?_map] at g1 g2
    obtain ⟨u1, h1, rfl⟩ := Option.map_eq_some_iff.mp g1
    obtain ⟨u2, h2, rfl⟩ := Option.map_eq_some_iff.mp g2
    rw [List.getElem?_drop, Nat.add_comm] at h2
    obtain ⟨m, hm, em⟩ := egap i u1 u2 h1 h2
    have m64 := gsm m (List.mem_of_getElem? hm)
    have sT := Same.new (o := .tup [V.int u1, V.int u2]) nT
    refine ⟨T, _, rfl, .of upd_same, rfl, _, _, rfl, _, [], rfl, rfl, rfl, ?_⟩
    refine ⟨_, rfl, _, rfl, _, _, rfl, rfl, _, _, rfl, rfl, m, 7, rfl, congrArg (fun z => [V.int z, V.str "upper"]) em, by show m < 128; omega, fun H8 v s10 tv => ?_⟩
    have sT8 := sT.trans s10
    have ez8 := sT8 _ _ ez
    refine ⟨zs, ez8, ?_, fun b o eb => ?_, zs ++ [v], upd_same, by rw [List.length_append, List.length_singleton, lz], ?_⟩
    · exact small1000 (by omega)
    · rw [upd_ne (ne_of_none eb hD)]
      exact sT8 _ _ (s9 _ _ eb)
    · rw [List.take_add_one, hm, List.map_append]
      exact Paired.app (Paired.mapP pz fun v t h => (h.same sT8).put ez8) (.cons (tv.put ez8) .nil)
  obtain ⟨s9, zs, ez, lz, pz⟩ := h6
  rw [List.take_length] at pz
  have gl : (gs.map (halv 8)).length = gs.length := List.length_map _
  refine ⟨_, rfl, D, zs, gs.map (halv 8), 7, rfl, rfl, ez, pz, fun z => gne (List.map_eq_nil_iff.mp z), by show _ ≤ 128; omega, by omega, fun H7 v s10 tv => ?_⟩
  rw [← mostIs] at tv
  have s2A := s28.trans (s9.trans s10)
  refine ⟨_, rfl, two, fun T hT => ?_⟩
  have s11 := Same.new (o := .tup [v, V.ref R]) hT
  have sF := s2A.trans s11
  refine q _ T R v (s12.trans sF) upd_same (tv.same s11) ⟨s1.free nR, rs, sF _ _ eR, Paired.mapP pR fun _ _ h => sF _ _ h, nd, fun r hr => ⟨(fr r hr).1, s1.free (fr r hr).2⟩⟩
end
end HSP
namespace HSP
open PySem PySem.Spec PyProof.Rows L2
/-! ## comprehensions with two for -/
section
variable {J J1 : It} {n n1 : Nat} {G G1 : Hp → Prop} {Y Y1 : Nat → Hp → V → Hp → Prop}
theorem lc2_it (w : Walk J n G Y) {g : TG} {tt : TT} {wi1 : TI} {g1 : TG} {tt1 : TT} {te : TE} {vs vs1 : List Nat} {σ : L2.St} {H1 : Hp} {D : Addr} {Qd : Hp → Prop} (Pv : Nat → Hp → Prop) (h0 : Pv 0 (upd H1 D (.lst []))) (hG : ∀ i H, i ≤ n → Pv i H → G H)
    (hs : ∀ i x H H', i < n → Pv i H → Y i H x H' → g x (wipe σ vs) H' fun σ2 H2 => wipe σ2 vs = wipe σ vs ∧ tt σ2 H2 fun b H3 =>
      if b = true then wi1 σ2 H3 fun J1 H4 => ∃ W1 : Nat → Nat → Hp → Prop, (∃ m, W1 0 m H4) ∧ ∀ j k H, W1 j k H →
        (J1.stop j H ∧ Pv (i + 1) H) ∨ (J1.go j H ∧ ∃ Nx1 : Hp → Prop, (∀ H', Nx1 H' → ∃ k', k' < k ∧ W1 (j + 1) k' H') ∧ ∀ x H', J1.yld j H x H' → g1 x (wipe σ2 vs1) H' fun σ3 H5 => wipe σ3 vs1 = wipe σ2 vs1 ∧ tt1 σ3 H5 fun b H6 =>
          if b = true then te σ3 H6 fun y H7 => ∃ acc, H7 D = some (.lst acc) ∧ acc.length < sizeLine ∧ Nx1 (upd H7 D (.lst (acc ++ [y]))) else Nx1 H6)
      else Pv (i + 1) H3) (hd : ∀ H, Pv n H → Qd H) :
    ∃ W : Nat → Nat → Hp → Prop, (∃ m, W 0 m (upd H1 D (.lst []))) ∧ ∀ i m H, W i m H →
      (J.stop i H ∧ Qd H) ∨ (J.go i H ∧ ∃ Nx : Hp → Prop, (∀ H', Nx H' → ∃ m', m' < m ∧ W (i + 1) m' H') ∧ ∀ x H', J.yld i H x H' → g x (wipe σ vs) H' fun σ2 H2 => wipe σ2 vs = wipe σ vs ∧ tt σ2 H2 fun b H3 =>
        if b = true then wi1 σ2 H3 fun J1 H4 => ∃ W1 : Nat → Nat → Hp → Prop, (∃ m, W1 0 m H4) ∧ ∀ j k H, W1 j k H →
          (J1.stop j H ∧ Nx H) ∨ (J1.go j H ∧ ∃ Nx1 : Hp → Prop, (∀ H', Nx1 H' → ∃ k', k' < k ∧ W1 (j + 1) k' H') ∧ ∀ x H', J1.yld j H x H' → g1 x (wipe σ2 vs1) H' fun σ3 H5 => wipe σ3 vs1 = wipe σ2 vs1 ∧ tt1 σ3 H5 fun b H6 =>
            if b = true then te σ3 H6 fun y H7 => ∃ acc, H7 D = some (.lst acc) ∧ acc.length < sizeLine ∧ Nx1 (upd H7 D (.lst (acc ++ [y]))) else Nx1 H6)
        else Nx H3) := by
  refine ⟨fun i m H => m = n - i ∧ i ≤ n ∧ Pv i H, ⟨n, by simp, Nat.zero_le _, h0⟩, ?_⟩
  rintro i m H ⟨rfl, hi, p⟩
  have q := hG i H hi p
  by_cases hlt : i < n
  · exact .inr ⟨w.goes i H hlt q, Pv (i + 1), fun H' p' => ⟨n - (i + 1), by omega, rfl, hlt, p'⟩, fun x H' y => hs i x H H' hlt p (w.yields i H x H' hlt q y)⟩
  · have e : i = n := by omega
    subst e
    exact .inl ⟨w.stops H q, hd H p⟩
/-- the inner for -/
theorem in_it (w : Walk J1 n1 G1 Y1) {g1 : TG} {tt1 : TT} {te : TE} {vs1 : List Nat} {σ2 : L2.St} {H4 : Hp} {D : Addr} {Nx : Hp → Prop} (Pv : Nat → Hp → Prop) (h0 : Pv 0 H4) (hG : ∀ i H, i ≤ n1 → Pv i H → G1 H)
    (hs : ∀ j x H H', j < n1 → Pv j H → Y1 j H x H' → g1 x (wipe σ2 vs1) H' fun σ3 H5 => wipe σ3 vs1 = wipe σ2 vs1 ∧ tt1 σ3 H5 fun b H6 =>
      if b = true then te σ3 H6 fun y H7 => ∃ acc, H7 D = some (.lst acc) ∧ acc.length < sizeLine ∧ Pv (j + 1) (upd H7 D (.lst (acc ++ [y]))) else Pv (j + 1) H6) (hd : ∀ H, Pv n1 H → Nx H) :
    ∃ W1 : Nat → Nat → Hp → Prop, (∃ m, W1 0 m H4) ∧ ∀ j k H, W1 j k H →
      (J1.stop j H ∧ Nx H) ∨ (J1.go j H ∧ ∃ Nx1 : Hp → Prop, (∀ H', Nx1 H' → ∃ k', k' < k ∧ W1 (j + 1) k' H') ∧ ∀ x H', J1.yld j H x H' → g1 x (wipe σ2 vs1) H' fun σ3 H5 => wipe σ3 vs1 = wipe σ2 vs1 ∧ tt1 σ3 H5 fun b H6 =>
        if b = true then te σ3 H6 fun y H7 => ∃ acc, H7 D = some (.lst acc) ∧ acc.length < sizeLine ∧ Nx1 (upd H7 D (.lst (acc ++ [y]))) else Nx1 H6) := by
  refine ⟨fun i m H => m = n1 - i ∧ i ≤ n1 ∧ Pv i H, ⟨n1, by simp, Nat.zero_le _, h0⟩, ?_⟩
  rintro i m H ⟨rfl, hi, p⟩
  have q := hG i H hi p
  by_cases hlt : i < n1
  · exact .inr ⟨w.goes i H hlt q, Pv (i + 1), fun H' p' => ⟨n1 - (i + 1), by omega, rfl, hlt, p'⟩, fun x H' y => hs i x H H' hlt p (w.yields i H x H' hlt q y)⟩
  · have e : i = n1 := by omega
    subst e
    exact .inl ⟨w.stops H q, hd H p⟩
end
end HSP
namespace HSP
open PySem PySem.Spec PyProof.Rows L2
/-! ## zip of two lists whose pairs go to one name: the pair that was given out may be alive or gone -/
section
variable {prog : Program} {w : World} {A : Around} {E : Value → Shared → Prop} {s : Shared}
/-- the zip object, whatever it keeps -/
def ZipB (h : Heap) (z TI TO : Addr) (own : Value) (f : Bool) : Prop :=
  h.get? z = some { cls := .type "zip", dict := none, data := .fields #[own, .bool f, .bool false, .ref TI, .ref TO], slots := #[] }
/-- its own pair may be used again -/
def Spare (h : Heap) (own : Value) : Prop := own = .none ∨ ∃ T : Nat, own = rawInt T ∧ h.get? T = none
theorem gone {a : Addr} {Q : Option Obj → Shared → Prop} (no : s.heap.get? a = none) (k : Q none s) : wpAny (model prog w) A (loadIfAlive a) Q E s := by
  have k2 : Q (s.heap.get? a) s := by rw [no]; exact k
  exact fun _ _ _ => k2
theorem spare_free {z TI TO : Addr} {own : Value} {f : Bool} {Q : Bool → Shared → Prop} (ez : ZipB s.heap z TI TO own f) (sp : Spare s.heap own) (k : Q true s) : wpAny (model prog w) A (Builtin.SmallTypes.ownedTupleIsFree (.ref z)) Q E s := by
  unfold Builtin.SmallTypes.ownedTupleIsFree
  rcases sp with rfl | ⟨T, rfl, no⟩
  · exact wpAny_bind (wpAny_field ez rfl (x := .none) rfl (wpAny_pure k))
  · refine wpAny_bind (wpAny_field ez rfl (x := rawInt T) rfl ?_)
    show wpAny _ _ (loadIfAlive ((T : Int).toNat) >>= _) _ _ _
    rw [Int.toNat_natCast]
    refine wpAny_bind (gone no ?_)
    rw [if_pos (show (none : Option Obj).isNone = true from rfl)]
    exact wpAny_pure k
/-- the next pair, its own one being free -/
theorem spare_item {z TI TO j1 j2 m1 m2 : Addr} {n1 n2 : Nat} {us vs : Array Value} {u v p q own : Value} {f : Bool} {Q : Value → Shared → Prop} (D : ZipApart z TI TO j1 j2 m1 m2)
    (ez : ZipB s.heap z TI TO own f) (sp : Spare s.heap own) (eTI : IsPair s.heap TI (.ref j1) (.ref j2)) (eTO : IsPair s.heap TO p q) (g1 : s.heap.IsListIter j1 m1 n1) (g2 : s.heap.IsListIter j2 m2 n2)
    (e1 : s.heap.IsList m1 us) (e2 : s.heap.IsList m2 vs) (hu : us[n1]? = some u) (hv : vs[n2]? = some v)
    (k : ∀ h', ZipB h' z TI TO (rawInt s.heap.objs.size) false → IsPair h' TO u v → h'.IsListIter j1 m1 (n1 + 1) → h'.IsListIter j2 m2 (n2 + 1) → IsPair h' s.heap.objs.size u v → h'.objs.size = s.heap.objs.size + 1 →
      (∀ c o, c ∉ [z, TO, j1, j2] → s.heap.get? c = some o → h'.get? c = some o) → Q (.ref s.heap.objs.size) { s with heap := h' }) :
    wpAny (model prog w) A (Builtin.«zip.__next__» ⟨[.ref z], []⟩) (fun fin s' => ∃ r, fin = .done (.ret r) ∧ Q r s') E s := by
  show wpAny _ _ (field (.ref z) 2 >>= _) _ _ _; refine wpAny_bind (wpAny_field ez rfl (x := .bool false) rfl ?_)
  show wpAny _ _ (field (.ref z) 3 >>= _) _ _ _; refine wpAny_bind (wpAny_field ez rfl (x := .ref TI) rfl (wpAny_bind (wpAny_seqItems eTI rfl ?_)))
  show wpAny _ _ (Builtin.SmallTypes.ownedTupleIsFree (.ref z) >>= _) _ _ _; refine wpAny_bind (spare_free ez sp ?_)
  simp only [if_true]; refine wpAny_bind (wpAny_rule (wpAny_bind (wpAny_field ez rfl (x := .ref TO) rfl (wpAny_bind (wpAny_setField_rec ez (by simp) fun k1 z1 s1 => ?_)))))
  have z1 : ZipB k1 z TI TO .ellipsis f := z1
  refine wpAny_bind ?_; simp only [List.zipIdx_cons, List.zipIdx_nil, List.forIn_cons, List.forIn_nil]; refine wpAny_bind (wpAny_bind (wpAny_onRaise ?_))
  show wpAny _ _ (Builtin.SmallTypes.nextOf (.ref j1) >>= _) _ _ _; refine wpAny_bind (wpAny_nextOf_list_item (g1.extBut s1.extBut D.i1z) (e1.extBut s1.extBut D.l1z) hu fun k2 i2 s2 => wpAny_pure ?_)
  have o2 : IsPair k2 TO p q := s2.extBut _ _ D.TOi1 (s1.extBut _ _ D.TOz eTO)
  refine wpAny_bind (wpAny_seqItems o2 rfl (wpAny_bind (wpAny_updateSeq_pair o2 fun k3 o3 s3 => ?_)))
  have o3 : IsPair k3 TO u q := o3
  refine wpAny_bind (wpAny_letGo (wpAny_pure ?_)); refine wpAny_bind (wpAny_bind (wpAny_onRaise ?_))
  show wpAny _ _ (Builtin.SmallTypes.nextOf (.ref j2) >>= _) _ _ _
  refine wpAny_bind (wpAny_nextOf_list_item (((g2.extBut s1.extBut D.i2z).extBut s2.extBut D.i12.symm).extBut s3.extBut D.TOi2.symm) (((e2.extBut s1.extBut D.l2z).extBut s2.extBut D.l2i1).extBut s3.extBut D.l2TO) hv fun k4 i4 s4 => wpAny_pure ?_)
  have o4 : IsPair k4 TO u q := s4.extBut _ _ D.TOi2 o3
  refine wpAny_bind (wpAny_seqItems o4 rfl (wpAny_bind (wpAny_updateSeq_pair o4 fun k5 o5 s5 => ?_)))
  have o5 : IsPair k5 TO u v := o5
  refine wpAny_bind (wpAny_letGo (wpAny_pure (wpAny_pure ?_))); refine wpAny_bind (wpAny_seqItems o5 rfl (wpAny_bind (wpAny_newTuple ?_)))
  have many : k5.objs.size = s.heap.objs.size := by rw [s5.1, s4.1, s3.1, s2.1, s1.1]
  have z5 : ZipB k5 z TI TO .ellipsis f := s5.extBut _ _ D.TOz.symm (s4.extBut _ _ D.i2z.symm (s3.extBut _ _ D.TOz.symm (s2.extBut _ _ D.i1z.symm z1)))
  have st : ∀ c o, c ∉ [z, TO, j1, j2] → s.heap.get? c = some o → k5.get? c = some o := fun c o no e => by
    have n1 : c ≠ z := fun y => no (by simp [y])
    have n2 : c ≠ TO := fun y => no (by simp [y])
    have n3 : c ≠ j1 := fun y => no (by simp [y])
    have n4 : c ≠ j2 := fun y => no (by simp [y])
    exact s5.extBut _ _ n2 (s4.extBut _ _ n4 (s3.extBut _ _ n2 (s2.extBut _ _ n3 (s1.extBut _ _ n1 e))))
  have j15 : k5.IsListIter j1 m1 (n1 + 1) := ((i2.extBut s3.extBut D.TOi1.symm).extBut s4.extBut D.i12).extBut s5.extBut D.TOi1.symm
  have j25 : k5.IsListIter j2 m2 (n2 + 1) := i4.extBut s5.extBut D.TOi2.symm
  have zlt : z < k5.objs.size := Heap.lt_size z5
  show wpAny _ _ (Builtin.SmallTypes.ownedTupleHandOut (.ref z) (.ref k5.objs.size) >>= _) _ _ _; refine wpAny_bind ?_
  unfold Builtin.SmallTypes.ownedTupleHandOut
  have z6 : ZipB (k5.push { cls := .type "tuple", data := .seq #[u, v] }) z TI TO .ellipsis f := Heap.get?_push_of_some _ z5
  refine wpAny_bind (wpAny_setField_rec z6 (by simp) fun k7 z7 s7 => ?_)
  have z7 : ZipB k7 z TI TO (rawInt k5.objs.size) f := z7
  refine wpAny_setField_rec z7 (by simp) fun k8 z8 s8 => ?_
  have z8 : ZipB k8 z TI TO (rawInt k5.objs.size) false := z8
  have up : ∀ c o, c ≠ z → k5.get? c = some o → k8.get? c = some o := fun c o no e => s8.extBut _ _ no (s7.extBut _ _ no (Heap.get?_push_of_some _ e))
  have new : IsPair k8 k5.objs.size u v := s8.extBut _ _ (Nat.ne_of_gt zlt) (s7.extBut _ _ (Nat.ne_of_gt zlt) (Heap.get?_push_size _ rfl))
  have more : k8.objs.size = k5.objs.size + 1 := by rw [s8.1, s7.1, Heap.size_push]
  rw [many] at z8 new more
  refine wpAny_pure ⟨_, rfl, ?_⟩
  show Q (.ref k5.objs.size) _
  rw [many]
  exact k k8 z8 (up _ _ D.TOz o5) (j15.at fun o e => up _ o D.i1z e) (j25.at fun o e => up _ o D.i2z e) new more fun c o no e => up c o (fun y => no (by simp [y])) (st c o no e)
/-- there is none any more, its own pair being free -/
theorem spare_end {z TI TO j1 j2 m1 m2 : Addr} {n1 n2 : Nat} {us vs : Array Value} {p q own : Value} {f : Bool} {Q : Fin → Shared → Prop} (calm : A.handled = none) (D : ZipApart z TI TO j1 j2 m1 m2)
    (ez : ZipB s.heap z TI TO own f) (sp : Spare s.heap own) (eTI : IsPair s.heap TI (.ref j1) (.ref j2)) (eTO : IsPair s.heap TO p q) (g1 : s.heap.IsListIter j1 m1 n1) (g2 : s.heap.IsListIter j2 m2 n2)
    (e1 : s.heap.IsList m1 us) (e2 : s.heap.IsList m2 vs) (out : us[n1]? = none ∨ vs[n2]? = none)
    (k : ∀ h' e, (∀ c o, c ∉ [z, TO, j1, j2] → s.heap.get? c = some o → h'.get? c = some o) → (∃ o, h'.get? e = some o ∧ o.cls = .type "StopIteration") → E (.ref e) { s with heap := h' }) :
    wpAny (model prog w) A (Builtin.«zip.__next__» ⟨[.ref z], []⟩) Q E s := by
  show wpAny _ _ (field (.ref z) 2 >>= _) _ _ _; refine wpAny_bind (wpAny_field ez rfl (x := .bool false) rfl ?_)
  show wpAny _ _ (field (.ref z) 3 >>= _) _ _ _; refine wpAny_bind (wpAny_field ez rfl (x := .ref TI) rfl (wpAny_bind (wpAny_seqItems eTI rfl ?_)))
  show wpAny _ _ (Builtin.SmallTypes.ownedTupleIsFree (.ref z) >>= _) _ _ _; refine wpAny_bind (spare_free ez sp ?_)
  simp only [if_true]; refine wpAny_bind (wpAny_rule (wpAny_bind (wpAny_field ez rfl (x := .ref TO) rfl (wpAny_bind (wpAny_setField_rec ez (by simp) fun k1 z1 s1 => ?_)))))
  have z1 : ZipB k1 z TI TO .ellipsis f := z1
  have apart : ∀ c, c ∉ [z, TO, j1, j2] → c ≠ z ∧ c ≠ TO ∧ c ≠ j1 ∧ c ≠ j2 := fun c no => ⟨fun y => no (by simp [y]), fun y => no (by simp [y]), fun y => no (by simp [y]), fun y => no (by simp [y])⟩
  refine wpAny_bind ?_; simp only [List.zipIdx_cons, List.zipIdx_nil, List.forIn_cons, List.forIn_nil]; refine wpAny_bind (wpAny_bind (wpAny_onRaise ?_))
  show wpAny _ _ (Builtin.SmallTypes.nextOf (.ref j1) >>= _) _ _ _
  cases hu : us[n1]? with
  | none =>
    refine wpAny_bind (wpAny_nextOf_list_end calm (g1.extBut s1.extBut D.i1z) (e1.extBut s1.extBut D.l1z) hu fun k2 e s2 he => ?_)
    obtain ⟨oe, e3, e4⟩ := he
    have z2 : ZipB k2 z TI TO .ellipsis f := s2 _ _ D.i1z.symm z1
    have ne : e ≠ z := fun y => by subst y; rw [z2] at e3; cases e3; simp at e4
    exact wpAny_setField_rec z2 (by simp) fun k3 _ s3 => k k3 e (fun c o no y => s3.extBut _ _ (apart c no).1 (s2 _ _ (apart c no).2.2.1 (s1.extBut _ _ (apart c no).1 y))) ⟨oe, s3.extBut _ _ ne e3, e4⟩
  | some u =>
    have hv : vs[n2]? = none := by
      rcases out with y | y
      · rw [hu] at y
        cases y
      · exact y
    refine wpAny_bind (wpAny_nextOf_list_item (g1.extBut s1.extBut D.i1z) (e1.extBut s1.extBut D.l1z) hu fun k2 i2 s2 => wpAny_pure ?_)
    have o2 : IsPair k2 TO p q := s2.extBut _ _ D.TOi1 (s1.extBut _ _ D.TOz eTO)
    refine wpAny_bind (wpAny_seqItems o2 rfl (wpAny_bind (wpAny_updateSeq_pair o2 fun k3 o3 s3 => ?_)))
    refine wpAny_bind (wpAny_letGo (wpAny_pure ?_)); refine wpAny_bind (wpAny_bind (wpAny_onRaise ?_))
    show wpAny _ _ (Builtin.SmallTypes.nextOf (.ref j2) >>= _) _ _ _
    refine wpAny_bind (wpAny_nextOf_list_end calm (((g2.extBut s1.extBut D.i2z).extBut s2.extBut D.i12.symm).extBut s3.extBut D.TOi2.symm) (((e2.extBut s1.extBut D.l2z).extBut s2.extBut D.l2i1).extBut s3.extBut D.l2TO) hv fun k4 e s4 he => ?_)
    obtain ⟨oe, e3, e4⟩ := he
    have z4 : ZipB k4 z TI TO .ellipsis f := s4 _ _ D.i2z.symm (s3.extBut _ _ D.TOz.symm (s2.extBut _ _ D.i1z.symm z1))
    have ne : e ≠ z := fun y => by subst y; rw [z4] at e3; cases e3; simp at e4
    exact wpAny_setField_rec z4 (by simp) fun k5 _ s5 => k k5 e (fun c o no y => s5.extBut _ _ (apart c no).1 (s4 _ _ (apart c no).2.2.2 (s3.extBut _ _ (apart c no).2.1 (s2.extBut _ _ (apart c no).2.2.1 (s1.extBut _ _ (apart c no).1 y))))) ⟨oe, s5.extBut _ _ ne e3, e4⟩
/-- what a zip keeps: nothing, or a pair that it gave out -/
def ZipAny (h : Heap) (z TI TO : Addr) : Prop := ∃ own f, ZipB h z TI TO own f ∧ (own = .none ∨ ∃ T : Nat, own = rawInt T)
theorem any_item {z TI TO j1 j2 m1 m2 : Addr} {n1 n2 : Nat} {us vs : Array Value} {u v p q : Value} {Q : Option Value → Shared → Prop} (D : ZipApart z TI TO j1 j2 m1 m2)
    (ez : ZipAny s.heap z TI TO) (eTI : IsPair s.heap TI (.ref j1) (.ref j2)) (eTO : IsPair s.heap TO p q) (g1 : s.heap.IsListIter j1 m1 n1) (g2 : s.heap.IsListIter j2 m2 n2)
    (e1 : s.heap.IsList m1 us) (e2 : s.heap.IsList m2 vs) (hu : us[n1]? = some u) (hv : vs[n2]? = some v)
    (k : ∀ h', ZipAny h' z TI TO → (∃ x y, IsPair h' TO x y) → h'.IsListIter j1 m1 (n1 + 1) → h'.IsListIter j2 m2 (n2 + 1) → IsPair h' s.heap.objs.size u v →
      (∀ c o, c ∉ [z, TO, j1, j2] → s.heap.get? c = some o → h'.get? c = some o) → Q (some (.ref s.heap.objs.size)) { s with heap := h' }) :
    wpAny (model prog w) A (pyNext (.ref z)) Q E s := by
  obtain ⟨own, f, ez, ow⟩ := ez
  have ty : s.TypeIs (.ref z) "zip" := ⟨_, ez, rfl⟩
  have free : Spare s.heap own → wpAny (model prog w) A (pyNext (.ref z)) Q E s := fun sp => by
    unfold pyNext
    exact wpAny_bind (wpAny_attempt (wpAny_callSpecial?_slot (name := Str.ofString "__next__") ty F.slot_zip_next (wpAny_call_entry F.slot_zip_next ty F.entry_zip_next
      (spare_item D ez sp eTI eTO g1 g2 e1 e2 hu hv fun h' a1 a2 a3 a4 a5 _ a7 => wpAny_pure (k h' ⟨_, _, a1, .inr ⟨_, rfl⟩⟩ ⟨_, _, a2⟩ a3 a4 a5 a7)) (F.args_zip_next_1 _))))
  rcases ow with rfl | ⟨T, rfl⟩
  · exact free (.inl rfl)
  cases eT : s.heap.get? T with
  | none => exact free (.inr ⟨T, rfl, eT⟩)
  | some oT =>
    refine wpAny_pyNext_zip_item_held D ez eT eTI g1 g2 e1 e2 hu hv fun h' a1 a2 a3 a4 _ a6 => ?_
    have a6' : ∀ c o, c ∉ [z, j1, j2] → s.heap.get? c = some o → h'.get? c = some o := fun c o no => a6 c o (fun y => no (by simp [y])) (fun y => no (by simp [y])) fun y => no (by simp [y])
    exact k h' ⟨_, _, a1, .inr ⟨T, rfl⟩⟩ ⟨p, q, a6 _ _ D.TOz D.TOi1 D.TOi2 eTO⟩ a2 a3 a4 fun c o no e => a6' c o (fun y => no (by simp at y ⊢; rcases y with y | y | y <;> simp [y])) e
theorem any_end {z TI TO j1 j2 m1 m2 : Addr} {n1 n2 : Nat} {us vs : Array Value} {p q : Value} {Q : Option Value → Shared → Prop} (calm : A.handled = none) (D : ZipApart z TI TO j1 j2 m1 m2)
    (ez : ZipAny s.heap z TI TO) (eTI : IsPair s.heap TI (.ref j1) (.ref j2)) (eTO : IsPair s.heap TO p q) (g1 : s.heap.IsListIter j1 m1 n1) (g2 : s.heap.IsListIter j2 m2 n2)
    (e1 : s.heap.IsList m1 us) (e2 : s.heap.IsList m2 vs) (out : us[n1]? = none ∨ vs[n2]? = none)
    (k : ∀ h', (∀ c o, c ∉ [z, TO, j1, j2] → s.heap.get? c = some o → h'.get? c = some o) → Q none { s with heap := h' }) : wpAny (model prog w) A (pyNext (.ref z)) Q E s := by
  obtain ⟨own, f, ez, ow⟩ := ez
  have ty : s.TypeIs (.ref z) "zip" := ⟨_, ez, rfl⟩
  have free : Spare s.heap own → wpAny (model prog w) A (pyNext (.ref z)) Q E s := fun sp => by
    unfold pyNext
    refine wpAny_bind (wpAny_attempt (wpAny_callSpecial?_slot (name := Str.ofString "__next__") ty F.slot_zip_next (wpAny_call_entry F.slot_zip_next ty F.entry_zip_next
      (spare_end calm D ez sp eTI eTO g1 g2 e1 e2 out fun h' e hk he => ?_) (F.args_zip_next_1 _))))
    obtain ⟨o, ho, hc⟩ := he
    exact wpAny_bind (wpAny_isInstance (T := "StopIteration") (b := true) ⟨o, ho, hc⟩ isSubtype_stop (wpAny_pure (k _ hk)))
  rcases ow with rfl | ⟨T, rfl⟩
  · exact free (.inl rfl)
  cases eT : s.heap.get? T with
  | none => exact free (.inr ⟨T, rfl, eT⟩)
  | some oT =>
    exact wpAny_pyNext_zip_end_held calm D ez eT eTI g1 g2 e1 e2 out fun h' a => k h' fun c o no => a c o (fun y => no (by simp [y])) (fun y => no (by simp [y])) fun y => no (by simp [y])
end
theorem turn_zipN {P : Program} {w : World} {K : PySem.W.Frag} {x : Str} {tpos : Pos} {a b z TI TO i1 i2 : Addr} (D : ZipApart z TI TO i1 i2 a b) :
    Turn P w K (.Name x tpos) (Itz K a b) [z, TI, TO, i1, i2] z (fun i h => ZipAny h z TI TO ∧ IsPair h TI (.ref i1) (.ref i2) ∧ (∃ x y, IsPair h TO x y) ∧ h.IsListIter i1 a i ∧ h.IsListIter i2 b i) where
  mem := by simp
  obj := fun i h st c hc => by
    obtain ⟨⟨own, f, hz, _⟩, hTI, ⟨x, y, hTO⟩, ⟨o1, e1, _, d1⟩, ⟨o2, e2, _, d2⟩⟩ := st
    have cs : c = z ∨ c = TI ∨ c = TO ∨ c = i1 ∨ c = i2 := by simpa using hc
    rcases cs with rfl | rfl | rfl | rfl | rfl
    · exact ⟨_, hz, fun v q => nomatch q⟩
    · exact ⟨_, hTI, fun v q => nomatch q⟩
    · exact ⟨_, hTO, fun v q => nomatch q⟩
    · exact ⟨o1, e1, fun v q => by rw [d1] at q; cases q⟩
    · exact ⟨o2, e2, fun v q => by rw [d2] at q; cases q⟩
  keep := fun i h h' st k => by
    obtain ⟨⟨own, f, hz, ow⟩, hTI, ⟨x, y, hTO⟩, h1, h2⟩ := st
    exact ⟨⟨own, f, k z (by simp) _ hz, ow⟩, k TI (by simp) _ hTI, ⟨x, y, k TO (by simp) _ hTO⟩, h1.at fun o q => k i1 (by simp) o q, h2.at fun o q => k i2 (by simp) o q⟩
  item := by
    intro X hP hw hK hc i pins s σ H E I hf st hg
    subst hP hw hK
    obtain ⟨hz, hTI, ⟨x0, y0, hTO⟩, h1, h2⟩ := st
    obtain ⟨xs, ys, x, y, hqx, hqy, hx, hy⟩ := hg
    obtain ⟨us, rv, p, _⟩ := I.list hqx
    obtain ⟨us2, rv2, p2, _⟩ := I.list hqy
    obtain ⟨u, hu, ru⟩ := rv.get hx
    obtain ⟨u2, hu2, ru2⟩ := rv2.get hy
    have small : ∀ c, c ∈ [z, TI, TO, i1, i2] → c < s.heap.objs.size := fun c hcm => by
      have cs : c = z ∨ c = TI ∨ c = TO ∨ c = i1 ∨ c = i2 := by simpa using hcm
      rcases cs with rfl | rfl | rfl | rfl | rfl
      · obtain ⟨_, _, e, _⟩ := hz; exact Heap.lt_size e
      · exact Heap.lt_size hTI
      · exact Heap.lt_size hTO
      · obtain ⟨_, e, _⟩ := h1; exact Heap.lt_size e
      · obtain ⟨_, e, _⟩ := h2; exact Heap.lt_size e
    refine any_item D hz hTI hTO h1 h2 p.isList p2.isList (u := u) (v := u2) (by simpa using hu) (by simpa using hu2) fun h' z' TO' h1' h2' hT hk => ?_
    have new : ObjOk X.prog X.w (upd H s.heap.objs.size (.tup [x, y])) h' s.heap.objs.size (.tup [x, y]) :=
      ⟨by show 2 ≤ sizeLine; decide, [u, u2], .cons ru (.cons ru2 .nil), ⟨_, hT, rfl, _, rfl⟩⟩
    have I1 : Inv X pins σ (upd H s.heap.objs.size (.tup [x, y])) { s with heap := h' } :=
      I.turnedNew (t' := s.toks) (ch := [z, TI, TO, i1, i2]) (fun c o hb q => hk c o (fun y => hb (by simp at y ⊢; rcases y with y | y | y | y <;> simp [y])) q) hf (Nat.le_refl _) new
    refine ⟨_, rfl, wpAny_pure ⟨.ref s.heap.objs.size, _, I1, rfl, ⟨_, x, y, rfl, I.hok.fresh (Nat.le_refl _), rfl, fun l hl => by rw [I.list_inj hl hqx]; exact hx, fun l hl => by rw [I.list_inj hl hqy]; exact hy⟩, ⟨z', ?_, TO', h1', h2'⟩, fun c hcm => ?_⟩⟩
    · exact hk _ _ (by simp [D.TIz, D.TITO, D.TIi1, D.TIi2]) hTI
    · rw [upd_ne (Nat.ne_of_lt (small c hcm))]
      exact (hf c hcm).1
  done := by
    intro X hP hw hK hc i pins s σ H E I hf st hg
    subst hP hw hK
    obtain ⟨hz, hTI, ⟨x0, y0, hTO⟩, h1, h2⟩ := st
    obtain ⟨xs, ys, hqx, hqy, over⟩ := hg
    obtain ⟨us, rv, p, _⟩ := I.list hqx
    obtain ⟨us2, rv2, p2, _⟩ := I.list hqy
    have l1 := rv.length
    have l2 := rv2.length
    have he : us.toArray[i]? = none ∨ us2.toArray[i]? = none := by
      rcases over with q | q
      · exact .inl (by simp; omega)
      · exact .inr (by simp; omega)
    exact any_end (I.ok.hd hc) D hz hTI hTO h1 h2 p.isList p2.isList he fun h' hk => ⟨rfl, I.turnedL (t' := s.toks) (ch := [z, TI, TO, i1, i2]) (fun c o hb q => hk c o (fun y => hb (by simp at y ⊢; rcases y with y | y | y | y <;> simp [y])) q) hf⟩
  self := fun A i s Q E st h => by
    obtain ⟨⟨own, f, hz, _⟩, _⟩ := st
    have ty : s.TypeIs (.ref z) "zip" := ⟨_, hz, rfl⟩
    refine wpAny_pyIter_slot ty F.slot_zip_iter (wpAny_call_entry F.slot_zip_iter ty F.entry_zip_iter ?_ (F.args_zip_iter_1 _))
    show wpAny _ _ (ret (.ref z)) _ _ s
    exact wpAny_pure ⟨_, rfl, "zip", _, ty, F.slot_zip_next.lookup, h⟩
theorem fresh_five {X : Cx} {pins : List (Addr × Obj)} {σ : L2.St} {H : Hp} {s : Shared} (I : Inv X pins σ H s) (n : Nat) (hn : n = s.heap.objs.size) (c : Addr) (h : c ∈ [n + 4, n + 2, n + 3, n, n + 1]) : FpOk X pins H c := by
  have ge : s.heap.objs.size ≤ c := by
    have cs : c = n + 4 ∨ c = n + 2 ∨ c = n + 3 ∨ c = n ∨ c = n + 1 := by simpa using h
    rcases cs with z | z | z | z | z <;> rw [z, hn] <;> first | exact Nat.le_add_right _ _ | exact Nat.le_refl _
  exact I.fpOk ge (I.hok.fresh ge)
theorem pi_zipN {X : Cx} {e e2 : Expr} {ta : TA} {x : Str} {p pos tpos : Pos} (hg : Gl X "zip") (hm : X.mg "zip" = none) (ha : PA X [e, e2] ta)
    (hs : starEach [e, e2] X.env = (false, eval e X.env) :: starEach [e2] X.env := by rfl) (hpl : (backTo pos (starEach [e2] X.env)).any (·.1) = false := by rfl) :
    PI X (.Name x tpos) (.Call (.Name "zip" p) [e, e2] [] pos) (iZip X.K ta) := by
  refine ⟨fun pins s σ H R I h => Call_ (ld_blt I hg hm PyProof.Rows.boot_zip (PyProof.Rows.callWith_type1 (thn (ha.run pos pins s σ H _ I h) fun us s1 ⟨vs, H1, I1, r1, q1⟩ => ?_) hs hpl))⟩
  obtain ⟨a, b, xs, ys, rfl, hqx, hqy, q⟩ := q1
  rcases r1 with _ | ⟨r, _ | ⟨r', _ | _⟩⟩
  cases r
  cases r'
  obtain ⟨us1, rv, p1, _⟩ := I1.list hqx
  obtain ⟨us2, rv2, p2, _⟩ := I1.list hqy
  refine call_zip_2 p1.isList p2.isList fun h' hz hTI hTO h1 h2 hsz hk => wpAny_pyIter_zip hz ?_
  have I2 : Inv X pins σ H1 { s1 with heap := h' } := I1.kept (t' := s1.toks) hk
  exact ⟨_, _, _, _, H1, rfl, I2, turn_zipN (PySem.W.ktu_apart s1.heap.objs.size a b p1.lt p2.lt), ⟨⟨.none, false, hz, .inl rfl⟩, hTI, ⟨_, _, hTO⟩, h1, h2⟩, fresh_five I1 _ rfl, q⟩
end HSP
namespace HSP
open PySem PySem.Spec PyProof.Rows L2
/-- neighbours in a row -/
def consec (row : List Nat) : List (Nat × Nat) := row.zip (row.drop 1)
theorem consec_ok {R : Nat → Nat → Prop} {row : List Nat} (h : row.Pairwise R) {p : Nat × Nat} (hp : p ∈ consec row) : R p.1 p.2 := by
  obtain ⟨i, hi, e⟩ := List.mem_iff_getElem.mp hp
  unfold consec at e hi
  rw [List.length_zip, List.length_drop] at hi
  have h1 : i < row.length := by omega
  have h2 : i < (row.drop 1).length := by rw [List.length_drop]; omega
  rw [List.getElem_zip] at e
  rw [← e]
  show R (row[i]'h1) ((row.drop 1)[i]'h2)
  rw [List.getElem_drop]
  exact List.pairwise_iff_getElem.mp h i (1 + i) (by omega) (by omega) (by omega)
theorem consec_len (row : List Nat) : (consec row).length ≤ row.length := by
  unfold consec
  rw [List.length_zip]
  omega
theorem nats_same {l : List Nat} {n : Nat} {ns' : List Int} (h : l.Perm (List.range n)) (p : ns'.Perm (l.map Int.ofNat)) (s : ns'.Pairwise (· ≤ ·)) : ns' = (List.range n).map Int.ofNat :=
  sorted_same (p.trans (h.map _)) s (range_up n)
section
variable {P : Program} {w : World} {K : PySem.W.Frag} {mg : Str → Option Value} {base : Heap}
/-! ### is_split, where it is one -/
theorem sc_is_split : FnScope n_is_split ["thing", "nodes"] (defScope s_is_split) := ⟨rfl, rfl, rfl, by decide +kernel, rfl, by decide +kernel, by decide +kernel⟩
def spSplit : Sp := fun vs H Q _ => ∃ (R N : Addr) (rs : List Addr) (rws : List (List Nat)) (n : Nat), vs = [.ref R, .ref N] ∧ H R = some (.lst (rs.map V.ref)) ∧ Paired (fun r (ns : List Nat) => H r = some (.lst (ns.map natV))) rs rws ∧ (∀ r, r ∈ rws → r ≠ []) ∧ rws.flatten.Perm (List.range n) ∧ n ≤ 900 ∧
  H N = some (.lst ((List.range n).map natV)) ∧ ∀ H', Same H H' → Q (.bl true) H'
theorem ok_split (B : Bl mg) (Wh : Df P w K mg base "is_whole" 1 ["thing"] spWhole) (a : At K mg "is_split" s_is_split) : Df P w K mg base "is_split" 2 ["thing", "nodes"] spSplit := by
  refine Df.mk' a sc_is_split (fun vs H Q E h => ?_) (fun _ _ _ _ _ _ us hl => match us, hl with | [_, _], _ => rfl) (fun f cdv A outer s H vs Q E hr h => ?_)
  · obtain ⟨_, _, _, _, _, rfl, _⟩ := h
    rfl
  obtain ⟨R, N, rs, rws, n, rfl, eR, pR, ne, part, h900, eN, q⟩ := h
  have zero : 0 ≤ sizeLine := by show 0 ≤ sizeLine; decide
  have lr := Paired.length pR
  have total : rws.flatten.length = n := by rw [part.length_eq, List.length_range]
  refine ⟨_, (pss_cons (ps_if (pt_not (pt_val (pe_callB call_isi (by rfl) B.isinstance (by decide +kernel) (pa_cons (pv 0) (pa_cons (pe_bltn (v := .ty "list") (by rfl) B.list (by decide +kernel) rfl) pa_nil))))) (pss_one (ps_ret pe_bl)) pss_nil)
 (pss_cons (ps_set (i := 2) sc_is_split.nd rfl (.inl rfl) (pe_lst pa_nil))
 (pss_cons (ps_for PassesOwn.never rfl (pi_list (pv 0)) (pg_name (i := 3) sc_is_split.nd rfl (.inl rfl)) (pss_cons (ps_if (PW.pt (pw_or (pt_not (pt_val (pe_callB call_isi (by rfl) B.isinstance (by decide +kernel) (pa_cons (pv 3) (pa_cons (pe_bltn (v := .ty "list") (by rfl) B.list (by decide +kernel) rfl) pa_nil))))) (pw_or1 (pt_cmpR op_eq (pe_callB call_len_seq (by rfl) B.len PySem.boot_len (pa_cons (pv 3) pa_nil)) pe_int (nomark _))))) (pss_one (ps_ret pe_bl)) pss_nil)
 (pss_one (ps_for PassesOwn.never rfl (pi_list (pv 3)) (pg_name (i := 4) sc_is_split.nd rfl (.inl rfl)) (pss_cons (ps_if (pt_not (pt_val (pe_df Wh hr (pa_cons (pv 4) pa_nil)))) (pss_one (ps_ret pe_bl)) pss_nil)
 (pss_one (ps_expr (pe_bm PySem.F.plainAttrs_list PySem.F.slot_list_append PySem.F.type_list_append mt_append (pv 2) (pa_cons (pv 4) pa_nil)))))))))
 (pss_one (ps_ret (pe_cmpR (op_eqD hr.units) (pe_callB cr_sortedI (by rfl) B.sorted (by decide +kernel) (pa_cons (pv 2) pa_nil)) (pv 1) (nomark _))))))), ?_⟩
  refine ⟨_, rfl, _, _, _, _, true, rfl, .ty "list", .base (.lst eR), rfl, true, rfl, iteF ?_⟩
  refine ⟨zero, fun D hD => ?_⟩
  have sD := Same.new (o := .lst []) hD
  refine ⟨_, rfl, R, rfl, ⟨_, .of (sD _ _ eR)⟩, for_list (xs := rs.map V.ref) (fun i σ H' => ∃ y3 y4 : Option V, σ = [some (.ref R), some (.ref N), some (.ref D), y3, y4] ∧ Same H H' ∧ H' D = some (.lst ((rws.take i).flatten.map natV))) ⟨none, none, rfl, sD, upd_same⟩ (fun i σ H' _ h' => ?_) (fun i x σ H2 hx h2 => ?_) (fun σ H2 h2 => ?_)⟩
  · obtain ⟨_, _, _, s', _⟩ := h'
    exact .of (s' _ _ eR)
  · obtain ⟨y3, y4, rfl, s2, e2⟩ := h2
    rw [List.getElem?_map] at hx
    obtain ⟨r, hr2, rfl⟩ := Option.map_eq_some_iff.mp hx
    obtain ⟨row, hrow, er⟩ := Paired.getL pR hr2
    have er2 := s2 _ _ er
    have rne := ne row (List.mem_of_getElem? hrow)
    have lpos : 0 < row.length := List.length_pos_iff.mpr rne
    have et : rws.take (i + 1) = rws.take i ++ [row] := by
      rw [List.take_add_one, hrow]
      rfl
    have sub : (rws.take i).flatten.length + row.length ≤ n := by
      have h1 : rws.flatten = (rws.take (i + 1)).flatten ++ (rws.drop (i + 1)).flatten := by rw [← List.flatten_append, List.take_append_drop]
      have h2 := congrArg List.length h1
      rw [List.length_append, total, et, List.flatten_append, List.length_append] at h2
      have h3 : [row].flatten.length = row.length := by simp
      omega
    refine ⟨_, rfl, _, _, _, _, true, rfl, .ty "list", .base (.lst er2), rfl, true, rfl, iteF ?_⟩
    refine ⟨_, rfl, r, _, rfl, .inl (.of er2), rfl, _, rfl, ite_no (fun z => by have := V.int.inj z; rw [List.length_map] at this; omega) ?_⟩
    refine ⟨_, rfl, r, rfl, ⟨_, .of er2⟩, for_list (xs := row.map natV) (fun j σ H' => ∃ y4 : Option V, σ = [some (.ref R), some (.ref N), some (.ref D), some (.ref r), y4] ∧ Same H H' ∧ H' D = some (.lst (((rws.take i).flatten ++ row.take j).map natV))) ⟨y4, rfl, s2, by rw [List.take_zero, List.append_nil]; exact e2⟩ (fun j σ H' _ h' => ?_) (fun j x σ H3 hx3 h3 => ?_) (fun σ H3 h3 => ?_)⟩
    · obtain ⟨_, _, s', _⟩ := h'
      exact .of (s' _ _ er)
    · obtain ⟨y5, rfl, s3, e3⟩ := h3
      rw [List.getElem?_map] at hx3
      obtain ⟨z, hz, rfl⟩ := Option.map_eq_some_iff.mp hx3
      have hj := (List.getElem?_eq_some_iff.mp hz).1
      refine ⟨_, rfl, _, rfl, true, rfl, iteF ?_⟩
      refine ⟨_, rfl, .inl ⟨rfl, _, .of e3⟩, _, rfl, D, _, _, rfl, rfl, e3, ?_, ?_⟩
      · rw [List.length_map, List.length_append, List.length_take]
        exact small1000 (by omega)
      refine ⟨_, rfl, fun b o eb => ?_, ?_⟩
      · rw [upd_ne (ne_of_none eb hD)]
        exact s3 _ _ eb
      · rw [upd_same, List.take_add_one, hz, ← List.append_assoc]
        exact congrArg (fun z => some (HO.lst z)) (List.map_append (l₂ := [z])).symm
    · obtain ⟨y5, rfl, s3, e3⟩ := h3
      rw [List.length_map, List.take_length] at e3
      refine ⟨_, _, rfl, s3, ?_⟩
      rw [et, List.flatten_append]
      rw [show [row].flatten = row by simp]
      exact e3
  · obtain ⟨y3, y4, rfl, s2, e2⟩ := h2
    rw [List.length_map, lr, List.take_length, nats_ints] at e2
    refine ⟨_, rfl, D, _, rfl, .of e2, fun ns' p perm srt np => ?_⟩
    have en := nats_same part perm srt
    have sp := Same.new (o := .lst (ns'.map V.int)) np
    have eN2 := sp _ _ (s2 _ _ eN)
    have ep : (upd H2 p (.lst (ns'.map V.int))) p = some (.lst (((List.range n).map Int.ofNat).map V.int)) := by rw [upd_same, en]
    rw [nats_ints] at eN2
    refine ⟨_, rfl, intsD ((List.range n).map Int.ofNat), intsD ((List.range n).map Int.ofNat), .lst (.of ep) (ints_dpAll _), .lst (.of eN2) (ints_dpAll _), ints_shaped _, ints_shaped _, ?_⟩
    rw [SeqAt.eqv_refl _ (ints_can0 _)]
    exact q _ (s2.trans sp)
/-! ### are_rows, where they are -/
theorem sc_are_rows : FnScope n_are_rows ["values", "thing"] (defScope s_are_rows) := ⟨rfl, rfl, rfl, by decide +kernel, rfl, by decide +kernel, by decide +kernel⟩
def spAreRows : Sp := fun vs H Q _ => ∃ (a R : Addr) (ns : List Int) (rs : List Addr) (rws : List (List Nat)), vs = [.ref a, .ref R] ∧ H a = some (.lst (ns.map V.int)) ∧ ns.length ≤ 900 ∧ H R = some (.lst (rs.map V.ref)) ∧ Paired (fun r (ns : List Nat) => H r = some (.lst (ns.map natV))) rs rws ∧ RowsOk (valAt ns) rws ns.length ∧
  ∀ H', Same H H' → Q (.bl true) H'
theorem pairs_le {g : Nat → Int} {rws : List (List Nat)} {n : Nat} (ok : RowsOk g rws n) (i : Nat) : ((rws.take i).map consec).flatten.length ≤ n := by
  have h1 := ok.part.length_eq
  rw [List.length_range] at h1
  have key : ∀ l : List (List Nat), (l.map consec).flatten.length ≤ l.flatten.length := fun l => by
    induction l with
    | nil => exact Nat.le_refl _
    | cons r t ih =>
      have := consec_len r
      rw [List.map_cons, List.flatten_cons, List.flatten_cons, List.length_append, List.length_append]
      omega
  have h2 := key (rws.take i)
  have h3 : (rws.take i).flatten.length ≤ rws.flatten.length := by
    have e : rws.flatten = (rws.take i).flatten ++ (rws.drop i).flatten := by rw [← List.flatten_append, List.take_append_drop]
    rw [e, List.length_append]
    omega
  omega
theorem yes_lc {σ : L2.St} {H : Hp} {A C : Hp → Prop} (h : A H) : tYes σ H fun b H3 => if b = true then A H3 else C H3 := by
  show if true = true then A H else C H
  exact iteT h
theorem ok_areRows (B : Bl mg) (Al : mg "all" = none) (Cr : Df P w K mg base "check_row" 2 ["row"] spChkR) (Sp0 : Df P w K mg base "is_split" 2 ["thing", "nodes"] spSplit) (a : At K mg "are_rows" s_are_rows) : Df P w K mg base "are_rows" 3 ["values", "thing"] spAreRows := by
  refine Df.mk' a sc_are_rows (fun vs H Q E h => ?_) (fun _ _ _ _ _ _ us hl => match us, hl with | [_, _], _ => rfl) (fun f cdv A outer s H vs Q E hr h => ?_)
  · obtain ⟨_, _, _, _, _, rfl, _⟩ := h
    rfl
  obtain ⟨a, R, ns, rs, rws, rfl, ha, h900, eR, pR, ok, q⟩ := h
  have lr := Paired.length pR
  refine ⟨_, (pss_cons (ps_expr (pe_df Cr hr (pa_cons (pv 0) pa_nil)))
 (pss_cons (ps_if (pt_not (pt_val (pe_df Sp0 hr (pa_cons (pv 1) (pa_cons (pe_listRg rfl (by rfl) B.list (prg_1 (by rfl) B.range (pe_callB call_len_seq (by rfl) B.len PySem.boot_len (pa_cons (pv 0) pa_nil)))) pa_nil))))) (pss_one (ps_ret pe_bl)) pss_nil)
 (pss_cons (ps_setLc2 (i := 2) (own := [("row", 3), ("pair", 4)]) (vs1 := [4]) (g := (gName 3)) (g1 := (gName 4)) (tt := tYes) (tt1 := tYes) (by rfl) sc_are_rows.nd rfl rfl (sw_true rfl rfl rfl (by decide +kernel)) (pi_list (pv 1)) (blkOk_by (N := n_are_rows) (sc := defScope s_are_rows) (by decide +kernel)) (by decide) (fun _ _ _ _ _ => (pg_name (i := 3) sc_are_rows.nd rfl (.inl rfl))) (fun _ _ _ _ _ => pts_nil) (fun _ _ _ _ _ => by exact (show PI _ _ _ (iZip K _) from pi_zipN (by rfl) B.zip (pa_cons (pv 3) (pa_cons (pe_slice (show SlR _ (rSlL K) from sl_list) (pv 3) (po_some pe_int) po_none) pa_nil)))) (fun _ _ _ _ _ => (pg_name (i := 4) sc_are_rows.nd rfl (.inl rfl))) (fun _ _ _ _ _ => pts_nil) (fun _ _ _ _ _ => (pv 4)))
 (pss_one (ps_ret (pe_callB (cr_all rfl) (by rfl) Al (by decide +kernel) (pa_cons (pe_lc (own := [("one", 5), ("other", 6)]) (g := (gTup K 2 (gCons (gName 5) (gCons (gName 6) gNil)))) (tt := tYes) (by rfl) sc_are_rows.nd (pi_list (pv 2)) (blkOk_by (N := n_are_rows) (sc := defScope s_are_rows) (by decide +kernel)) (fun _ _ _ _ _ => (pg_tup rfl (pgs_cons (pg_name (i := 5) sc_are_rows.nd rfl (.inl rfl)) (pgs_cons (pg_name (i := 6) sc_are_rows.nd rfl (.inl rfl)) pgs_nil)))) (fun _ _ _ _ _ => pts_nil) (fun _ _ _ _ _ => (pe_and (pe_cmpR op_lt (pv 5) (pv 6) (nomark _)) (pe_one (pe_cmpR op_ge (pe_ix (show IxR _ (rIxL K) from ix_list) (pv 0) (pv 5) (fun _ _ => rfl)) (pe_ix (show IxR _ (rIxL K) from ix_list) (pv 0) (pv 6) (fun _ _ => rfl)) (nomark _)))))) pa_nil))))))), ?_⟩
  refine ⟨_, rfl, a, ns, rfl, ha, fun H1 s1 => ?_⟩
  have ha1 := s1 _ _ ha
  refine ⟨_, rfl, _, rfl, a, _, rfl, .inl (.of ha1), ?_⟩
  rw [List.length_map]
  refine ⟨_, rfl, RgOk.of_le (by omega) (by omega) (by omega) (by omega), fun q0 hq0 => ?_⟩
  have e0 : rgV 0 ((ns.length : Nat) : Int) = (List.range ns.length).map natV := by
    unfold rgV
    rw [show (((ns.length : Nat) : Int) - 0).toNat = ns.length by omega]
    exact List.map_congr_left fun i _ => congrArg V.int (by omega)
  rw [e0]
  have s0 := Same.new (o := .lst ((List.range ns.length).map natV)) hq0
  have s01 := s1.trans s0
  refine ⟨R, q0, rs, rws, ns.length, rfl, s01 _ _ eR, Paired.mapP pR fun _ _ h => s01 _ _ h, ok.ne, ok.part, h900, upd_same, fun H2 s2 => ?_⟩
  refine ⟨true, rfl, iteF ?_⟩
  have s12 := s01.trans s2
  have eR2 := s12 _ _ eR
  have pR2 := Paired.mapP pR fun _ _ h => s12 _ _ h
  have ha2 := s12 _ _ ha
  -- pairs
  refine ⟨_, rfl, R, rfl, ⟨_, .of eR2⟩, fun D hD => ?_⟩
  have sD := Same.new (o := .lst []) hD
  refine lc2_it (walk_list (K := K) (a := R) (xs := rs.map V.ref)) (fun i H' => Same H2 H' ∧ ∃ ps : List Addr, H' D = some (.lst (ps.map V.ref)) ∧ Paired (fun T (x : Nat × Nat) => H' T = some (.tup [natV x.1, natV x.2])) ps ((rws.take i).map consec).flatten) ⟨sD, [], upd_same, .nil⟩ (fun i H' _ h' => .of (h'.1 _ _ eR2)) (fun i x H3 H4 hi h3 hy => ?_) (fun H3 h3 => ?_)
  · obtain ⟨s3, ps, e3, p3⟩ := h3
    obtain ⟨rfl, hx⟩ := hy
    rw [List.getElem?_map] at hx
    obtain ⟨r, hr2, rfl⟩ := Option.map_eq_some_iff.mp hx
    obtain ⟨row, hrow, er⟩ := Paired.getL pR2 hr2
    have er3 := s3 _ _ er
    have sm := rows_small ok (List.mem_of_getElem? hrow)
    have pl := pairs_le ok i
    have et : ((rws.take (i + 1)).map consec).flatten = ((rws.take i).map consec).flatten ++ consec row := by
      rw [List.take_add_one, hrow, List.map_append, List.flatten_append]
      show _ ++ [consec row].flatten = _
      simp
    refine ⟨rfl, ?_⟩
    refine yes_lc ?_
    refine ⟨_, rfl, _, rfl, _, rfl, r, row.map natV, rfl, .of er3, fun p5 hp5 => ?_⟩
    have s5 := Same.new (o := .lst (cutV (row.map natV) (some 1) none)) hp5
    have e5 : (upd H4 p5 (.lst (cutV (row.map natV) (some 1) none))) p5 = some (.lst ((row.drop 1).map natV)) := by
      rw [upd_same, show (some (1 : Int)) = some ((1 : Nat) : Int) from rfl, cut_from, List.map_drop]
    have er5 := s5 _ _ er3
    have e35 := s5 _ _ e3
    have p35 := Paired.mapP p3 fun T x h => s5 _ _ h
    have s25 := s3.trans s5
    generalize upd H4 p5 (.lst (cutV (row.map natV) (some 1) none)) = H5 at e5 er5 e35 p35 s25 ⊢
    refine ⟨r, p5, _, _, rfl, .of er5, .of e5, ?_⟩
    have many : (consec row).length = min (row.map natV).length ((row.drop 1).map natV).length := by
      unfold consec
      rw [List.length_zip, List.length_map, List.length_map]
    have cl := consec_len row
    refine in_it (walk_zip (K := K) (a := r) (b := p5) (xs := row.map natV) (ys := (row.drop 1).map natV) many) (fun j H' => Same H2 H' ∧ H' r = some (.lst (row.map natV)) ∧ H' p5 = some (.lst ((row.drop 1).map natV)) ∧ ∃ ps : List Addr, H' D = some (.lst (ps.map V.ref)) ∧ Paired (fun T (x : Nat × Nat) => H' T = some (.tup [natV x.1, natV x.2])) ps (((rws.take i).map consec).flatten ++ (consec row).take j))
      ⟨s25, er5, e5, ps, e35, by rw [List.take_zero, List.append_nil]; exact p35⟩ (fun j H' _ h' => ⟨.of h'.2.1, .of h'.2.2.1⟩) (fun j x H6 H7 hj h6 hy => ?_) (fun H6 h6 => ?_)
    · obtain ⟨s6, er6, e56, ps6, e6, p6⟩ := h6
      obtain ⟨T, x1, x2, rfl, nT, rfl, g1, g2⟩ := hy
      have g1 : (row.map natV)[j]? = some x1 := g1
      have g2 : ((row.drop 1).map natV)[j]? = some x2 := g2
      rw [List.getElem?_map] at g1 g2
      obtain ⟨u1, h1, rfl⟩ := Option.map_eq_some_iff.mp g1
      obtain ⟨u2, h2, rfl⟩ := Option.map_eq_some_iff.mp g2
      have hc : (consec row)[j]? = some (u1, u2) := by
        unfold consec
        rw [List.getElem?_zip_eq_some]
        exact ⟨h1, h2⟩
      have sT := Same.new (o := .tup [natV u1, natV u2]) nT
      have eT := sT _ _ e6
      have nTD : T ≠ D := (ne_of_none e6 nT).symm
      have lp := Paired.length p6
      rw [List.length_append, List.length_take] at lp
      have nrD : r ≠ D := ne_of_none er hD
      have npD : p5 ≠ D := fun z => by
        rw [z] at e56
        rw [e6] at e56
        have := HO.lst.inj (Option.some.inj e56)
        rw [z] at hp5
        rw [e3] at hp5
        cases hp5
      refine ⟨rfl, yes_lc ⟨_, rfl, _, eT, ?_, fun b o eb => ?_, ?_, ?_, ps6 ++ [T], ?_, ?_⟩⟩
      · rw [List.length_map]
        show ps6.length < 16777216
        omega
      · rw [upd_ne (ne_of_none eb hD)]
        exact sT _ _ (s6 _ _ eb)
      · rw [upd_ne nrD]
        exact sT _ _ er6
      · rw [upd_ne npD]
        exact sT _ _ e56
      · rw [upd_same, List.map_append]
        rfl
      · rw [List.take_add_one, hc, ← List.append_assoc]
        refine Paired.app (Paired.mapP p6 fun b x h => ?_) (.cons ?_ .nil)
        · rw [upd_ne (tup_ne h e6)]
          exact sT _ _ h
        · rw [upd_ne nTD, upd_same]
    · obtain ⟨s6, _, _, ps6, e6, p6⟩ := h6
      rw [List.take_length] at p6
      exact ⟨s6, ps6, e6, by rw [et]; exact p6⟩
  obtain ⟨s3, ps, e3, p3⟩ := h3
  rw [List.length_map, lr, List.take_length] at p3
  have pl := pairs_le ok rws.length
  rw [List.take_length] at pl
  have good : ∀ x, x ∈ (rws.map consec).flatten → x.1 < x.2 ∧ valAt ns x.2 ≤ valAt ns x.1 ∧ x.2 < ns.length := fun x hx => by
    obtain ⟨c, hc, hx2⟩ := List.mem_flatten.mp hx
    obtain ⟨row, hrow, rfl⟩ := List.mem_map.mp hc
    have h1 := consec_ok (ok.down row hrow) hx2
    have h2 : x.2 ∈ row := by
      have := List.of_mem_zip (show (x.1, x.2) ∈ row.zip (row.drop 1) from hx2)
      exact List.mem_of_mem_drop this.2
    exact ⟨h1.1, h1.2, ok.lt hrow h2⟩
  generalize (rws.map consec).flatten = prs at p3 pl good
  have lp := Paired.length p3
  have ha3 := s3 _ _ ha2
  refine ⟨_, rfl, D, rfl, ⟨_, .of e3⟩, fun C hC => ?_⟩
  have sC := Same.new (o := .lst []) hC
  refine lc_list (xs := ps.map V.ref) (fun k H' => Same H3 H' ∧ H' C = some (.lst ((List.replicate k true).map V.bl))) ⟨sC, upd_same⟩ (fun k H' _ h' => .of (h'.1 _ _ e3)) (fun k x H' hx h' => ?_) (fun H4 h4 => ?_)
  · obtain ⟨s', e'⟩ := h'
    rw [List.getElem?_map] at hx
    obtain ⟨T, hT, rfl⟩ := Option.map_eq_some_iff.mp hx
    obtain ⟨z, hz, eT⟩ := Paired.getL p3 hT
    have hk := (List.getElem?_eq_some_iff.mp hz).1
    obtain ⟨z1, z2, z3⟩ := good z (List.mem_of_getElem? hz)
    have ha' := s' _ _ ha3
    refine ⟨T, _, rfl, .of (s' _ _ eT), rfl, _, _, rfl, _, [], rfl, rfl, rfl, ?_⟩
    refine ⟨_, rfl, _, rfl, _, _, rfl, rfl, _, rfl, ite_yes (by omega) ?_⟩
    refine ⟨_, rfl, _, rfl, a, _, _, _, rfl, rfl, .of ha', at_of (z := ((z.1 : Nat) : Int)) (j := z.1) rfl (valAt_get (by omega)), _, rfl, _, rfl, a, _, _, _, rfl, rfl, .of ha', at_of (z := ((z.2 : Nat) : Int)) (j := z.2) rfl (valAt_get z3), _, _, rfl, rfl, _, e', ?_, fun b o eb => ?_, ?_⟩
    · rw [List.length_map, List.length_replicate]
      exact small1000 (by omega)
    · rw [upd_ne (ne_of_none eb hC)]
      exact s' _ _ eb
    · rw [upd_same, List.replicate_succ', List.map_append]
      exact congrArg (fun z => some (HO.lst (_ ++ [V.bl z]))) (decide_eq_true (show valAt ns z.1 ≥ valAt ns z.2 from z2))
  · obtain ⟨s4, e4⟩ := h4
    refine ⟨C, _, rfl, .of e4, ?_⟩
    have eb : (List.replicate (ps.map V.ref).length true).all id = true := by
      rw [List.all_replicate]
      simp
    rw [eb]
    exact q _ (s12.trans (s3.trans s4))
end
end HSP
namespace HSP
open PySem PySem.Spec PyProof.Rows L2
def consecI (r : List Int) : List (Int × Int) := r.zip (r.drop 1)
theorem consecI_len (r : List Int) : (consecI r).length ≤ r.length := by
  unfold consecI
  rw [List.length_zip]
  omega
def pairOk (ns : List Int) (p : Int × Int) : Bool := decide (p.1 < p.2) && decide (valAt ns p.1.toNat ≥ valAt ns p.2.toNat)
def GoodR (ns : List Int) (th : Option (List (Option (List (Option Int))))) : Prop := ∃ rws : List (List Int), th = asRows rws ∧ (∀ r, r ∈ rws → r ≠ []) ∧ rws.flatten.Perm ((List.range ns.length).map Int.ofNat) ∧ ∀ r, r ∈ rws → (consecI r).all (pairOk ns) = true
theorem flat_part {rws : List (List Int)} {n : Nat} (p : rws.flatten.Perm ((List.range n).map Int.ofNat)) {r : List Int} (hr : r ∈ rws) : r.length ≤ n ∧ ∀ i, i ∈ r → 0 ≤ i ∧ i < n := by
  have l := p.length_eq
  rw [List.length_map, List.length_range] at l
  refine ⟨?_, fun i hi => ?_⟩
  · have key : ∀ (l : List (List Int)), r ∈ l → r.length ≤ l.flatten.length := fun l => by
      induction l with
      | nil => intro h; cases h
      | cons x t ih =>
        intro h
        rw [List.flatten_cons, List.length_append]
        rcases List.mem_cons.mp h with z | z
        · rw [z]; omega
        · have := ih z; omega
    have := key rws hr
    omega
  · have := p.mem_iff.mp (List.mem_flatten.mpr ⟨r, hr, hi⟩)
    obtain ⟨m, hm, rfl⟩ := List.mem_map.mp this
    have := List.mem_range.mp hm
    exact ⟨Int.natCast_nonneg m, by show ((m : Nat) : Int) < _; omega⟩
theorem rows_le2 {rws : List (List Int)} {n : Nat} (ne : ∀ r, r ∈ rws → r ≠ []) (p : rws.flatten.Perm ((List.range n).map Int.ofNat)) : rws.length ≤ n := by
  have l := p.length_eq
  rw [List.length_map, List.length_range] at l
  have key : ∀ l : List (List Int), (∀ r, r ∈ l → r ≠ []) → l.length ≤ l.flatten.length := fun l => by
    induction l with
    | nil => intro _; exact Nat.le_refl _
    | cons r t ih =>
      intro hn
      have h1 := ih fun x hx => hn x (List.mem_cons_of_mem _ hx)
      have h2 := List.length_pos_iff.mpr (hn r List.mem_cons_self)
      rw [List.flatten_cons, List.length_append, List.length_cons]
      omega
  have := key _ ne
  omega
theorem pairsI_le : ∀ l : List (List Int), (l.map consecI).flatten.length ≤ l.flatten.length
  | [] => Nat.le_refl _
  | r :: t => by
    have ih := pairsI_le t
    have := consecI_len r
    rw [List.map_cons, List.flatten_cons, List.flatten_cons, List.length_append, List.length_append]
    omega
theorem flat_take {α : Type} (l : List (List α)) (i : Nat) : (l.take i).flatten.length ≤ l.flatten.length := by
  have e : l.flatten = (l.take i).flatten ++ (l.drop i).flatten := by rw [← List.flatten_append, List.take_append_drop]
  rw [e, List.length_append]
  omega
section
variable {P : Program} {w : World} {K : PySem.W.Frag} {mg : Str → Option Value} {base : Heap}
theorem items_ints {H : Hp} : ∀ {xs : List V} {is : List Int}, Paired (ItemAt K H) xs (is.map some) → xs = is.map V.int
  | [], [], _ => rfl
  | _ :: _, [], h => by cases h
  | [], _ :: _, h => by cases h
  | x :: xs, i :: is, h => by
    cases h with
    | cons a b => rw [show x = V.int i from a, items_ints b]; rfl
theorem rows_refs {H : Hp} : ∀ {xs : List V} {rws : List (List Int)}, Paired (RowAt K H) xs (rws.map fun r => some (r.map some)) → ∃ rs : List Addr, xs = rs.map V.ref ∧ Paired (fun r (is : List Int) => H r = some (.lst (is.map V.int))) rs rws
  | [], [], _ => ⟨[], rfl, .nil⟩
  | _ :: _, [], h => by cases h
  | [], _ :: _, h => by cases h
  | x :: xs, r :: rws, h => by
    cases h with
    | cons a b =>
      obtain ⟨rs, e, p⟩ := rows_refs b
      obtain ⟨q, ys, e2, hq, pi⟩ := a
      rw [items_ints pi] at hq
      exact ⟨q :: rs, by rw [e2, e]; rfl, .cons hq p⟩
theorem sc_areRowsX : FnScope n_are_rows ["values", "thing"] (defScope s_are_rows) := ⟨rfl, rfl, rfl, by decide +kernel, rfl, by decide +kernel, by decide +kernel⟩
def spAreRowsX (K : PySem.W.Frag) : Sp := fun vs H Q _ => ∃ (a : Addr) (y : V) (ns : List Int) (th : Option (List (Option (List (Option Int))))), vs = [.ref a, y] ∧ H a = some (.lst (ns.map V.int)) ∧ ns.length ≤ 100 ∧ ThingAt K H y th ∧ ThSmall th ∧ ∀ (H' : Hp) (b : Bool), Same H H' → (b = true ↔ GoodR ns th) → Q (.bl b) H'
theorem okB_areRowsX (B : Bl mg) (Al : mg "all" = none) (Cr : Df P w K mg base "check_row" 2 ["row"] spChkR) (Sp0 : Df P w K mg base "is_split" 2 ["thing", "nodes"] (spSplitX K)) (a : At K mg "are_rows" s_are_rows) : DfB P w K mg base "are_rows" 3 ["values", "thing"] ["thing", "values"] (spAreRowsX K) := by
  refine DfB.mk' a sc_areRowsX (fun vs H Q E h => ?_) (fun _ _ _ _ _ _ us hl => match us, hl with | [_, _], _ => rfl) (fun _ _ _ _ _ _ us hl => match us, hl with | [_, _], _ => rfl) (fun f cdv A outer s H vs Q E hr h => ?_)
  · obtain ⟨_, _, _, _, rfl, _⟩ := h
    rfl
  obtain ⟨a, y, ns, th, rfl, ha, h100, hth, sm, q⟩ := h
  refine ⟨_, (pss_cons (ps_expr (pe_df Cr hr (pa_cons (pv 0) pa_nil)))
 (pss_cons (ps_if (pt_not (pt_val (pe_df Sp0 hr (pa_cons (pv 1) (pa_cons (pe_listRg rfl (by rfl) B.list (prg_1 (by rfl) B.range (pe_callB call_len_seq (by rfl) B.len PySem.boot_len (pa_cons (pv 0) pa_nil)))) pa_nil))))) (pss_one (ps_ret pe_bl)) pss_nil)
 (pss_cons (ps_setLc2 (i := 2) (own := [("row", 3), ("pair", 4)]) (vs1 := [4]) (g := (gName 3)) (g1 := (gName 4)) (tt := tYes) (tt1 := tYes) (by rfl) sc_areRowsX.nd rfl rfl (sw_true rfl rfl rfl (by decide +kernel)) (pi_list (pv 1)) (blkOk_by (N := n_are_rows) (sc := defScope s_are_rows) (by decide +kernel)) (by decide) (fun _ _ _ _ _ => (pg_name (i := 3) sc_areRowsX.nd rfl (.inl rfl))) (fun _ _ _ _ _ => pts_nil) (fun _ _ _ _ _ => by exact (show PI _ _ _ (iZip K _) from pi_zipN (by rfl) B.zip (pa_cons (pv 3) (pa_cons (pe_slice (show SlR _ (rSlL K) from sl_list) (pv 3) (po_some pe_int) po_none) pa_nil)))) (fun _ _ _ _ _ => (pg_name (i := 4) sc_areRowsX.nd rfl (.inl rfl))) (fun _ _ _ _ _ => pts_nil) (fun _ _ _ _ _ => (pv 4)))
 (pss_one (ps_ret (pe_callB (cr_all rfl) (by rfl) Al (by decide +kernel) (pa_cons (pe_lc (own := [("one", 5), ("other", 6)]) (g := (gTup K 2 (gCons (gName 5) (gCons (gName 6) gNil)))) (tt := tYes) (by rfl) sc_areRowsX.nd (pi_list (pv 2)) (blkOk_by (N := n_are_rows) (sc := defScope s_are_rows) (by decide +kernel)) (fun _ _ _ _ _ => (pg_tup rfl (pgs_cons (pg_name (i := 5) sc_areRowsX.nd rfl (.inl rfl)) (pgs_cons (pg_name (i := 6) sc_areRowsX.nd rfl (.inl rfl)) pgs_nil)))) (fun _ _ _ _ _ => pts_nil) (fun _ _ _ _ _ => (pe_and (pe_cmpR op_lt (pv 5) (pv 6) (nomark _)) (pe_one (pe_cmpR op_ge (pe_ix (show IxR _ (rIxL K) from ix_list) (pv 0) (pv 5) (fun _ _ => rfl)) (pe_ix (show IxR _ (rIxL K) from ix_list) (pv 0) (pv 6) (fun _ _ => rfl)) (nomark _)))))) pa_nil))))))), ?_⟩
  refine ⟨_, rfl, a, ns, rfl, ha, fun H1 s1 => ?_⟩
  have ha1 := s1 _ _ ha
  refine ⟨_, rfl, _, rfl, a, _, rfl, .inl (.of ha1), ?_⟩
  rw [List.length_map]
  refine ⟨_, rfl, RgOk.of_le (by omega) (by omega) (by omega) (by omega), fun q0 hq0 => ?_⟩
  have e0 : rgV 0 ((ns.length : Nat) : Int) = (List.range ns.length).map natV := by
    unfold rgV
    rw [show (((ns.length : Nat) : Int) - 0).toNat = ns.length by omega]
    exact List.map_congr_left fun i _ => congrArg V.int (by omega)
  rw [e0]
  have s0 := Same.new (o := .lst ((List.range ns.length).map natV)) hq0
  have s01 := s1.trans s0
  refine ⟨y, q0, th, ns.length, rfl, hth.same s01, sm, upd_same, by omega, fun H2 b s2 ib => ?_⟩
  have s12 := s01.trans s2
  cases b with
  | false =>
    refine ⟨false, rfl, iteT ?_⟩
    refine q H2 false s12 ⟨fun z => (by cases z), fun ⟨rws, g1, g2, g3, _⟩ => ?_⟩
    exact absurd (ib.mpr ⟨rws, g1, g2, g3⟩) (by decide)
  | true =>
  obtain ⟨rws, et, ne, part⟩ := ib.mp rfl
  subst et
  have same : ∀ rw2 : List (List Int), asRows rws = asRows rw2 → rws = rw2 := fun rw2 h => by
    have h := Option.some.inj h
    have key : ∀ (a b : List (List Int)), (a.map fun r => (some (r.map some) : Option (List (Option Int)))) = b.map (fun r => some (r.map some)) → a = b := fun a => by
      induction a with
      | nil => intro b hb; cases b with
        | nil => rfl
        | cons _ _ => cases hb
      | cons x r ih => intro b hb; cases b with
        | nil => cases hb
        | cons y t =>
          rw [List.map_cons, List.map_cons] at hb
          obtain ⟨h1, h2⟩ := List.cons.inj hb
          rw [some_inj (Option.some.inj h1), ih t h2]
    exact key _ _ h
  have hth2 := hth.same s12
  obtain ⟨R, ys, rfl, eR2, pR⟩ := hth2
  obtain ⟨rs, rfl, pR2⟩ := rows_refs pR
  have lr := Paired.length pR2
  have few := rows_le2 ne part
  have fl := part.length_eq
  rw [List.length_map, List.length_range] at fl
  refine ⟨true, rfl, iteF ?_⟩
  have ha2 := s12 _ _ ha
  -- pairs
  refine ⟨_, rfl, R, rfl, ⟨_, .of eR2⟩, fun D hD => ?_⟩
  have sD := Same.new (o := .lst []) hD
  refine lc2_it (walk_list (K := K) (a := R) (xs := rs.map V.ref)) (fun i H' => Same H2 H' ∧ ∃ ps : List Addr, H' D = some (.lst (ps.map V.ref)) ∧ Paired (fun T (x : Int × Int) => H' T = some (.tup [.int x.1, .int x.2])) ps ((rws.take i).map consecI).flatten) ⟨sD, [], upd_same, .nil⟩ (fun i H' _ h' => .of (h'.1 _ _ eR2)) (fun i x H3 H4 hi h3 hy => ?_) (fun H3 h3 => ?_)
  · obtain ⟨s3, ps, e3, p3⟩ := h3
    obtain ⟨rfl, hx⟩ := hy
    rw [List.getElem?_map] at hx
    obtain ⟨r, hr2, rfl⟩ := Option.map_eq_some_iff.mp hx
    obtain ⟨row, hrow, er⟩ := Paired.getL pR2 hr2
    have er3 := s3 _ _ er
    have sm2 := (flat_part part (List.mem_of_getElem? hrow)).1
    have pl : ((rws.take i).map consecI).flatten.length ≤ ns.length := by
      have h1 := pairsI_le (rws.take i)
      have h2 := flat_take rws i
      omega
    have et : ((rws.take (i + 1)).map consecI).flatten = ((rws.take i).map consecI).flatten ++ consecI row := by
      rw [List.take_add_one, hrow, List.map_append, List.flatten_append]
      show _ ++ [consecI row].flatten = _
      simp
    refine ⟨rfl, ?_⟩
    refine yes_lc ?_
    refine ⟨_, rfl, _, rfl, _, rfl, r, row.map V.int, rfl, .of er3, fun p5 hp5 => ?_⟩
    have s5 := Same.new (o := .lst (cutV (row.map V.int) (some 1) none)) hp5
    have e5 : (upd H4 p5 (.lst (cutV (row.map V.int) (some 1) none))) p5 = some (.lst ((row.drop 1).map V.int)) := by
      rw [upd_same, show (some (1 : Int)) = some ((1 : Nat) : Int) from rfl, cut_from, List.map_drop]
    have er5 := s5 _ _ er3
    have e35 := s5 _ _ e3
    have p35 := Paired.mapP p3 fun T x h => s5 _ _ h
    have s25 := s3.trans s5
    generalize upd H4 p5 (.lst (cutV (row.map V.int) (some 1) none)) = H5 at e5 er5 e35 p35 s25 ⊢
    refine ⟨r, p5, _, _, rfl, .of er5, .of e5, ?_⟩
    have many : (consecI row).length = min (row.map V.int).length ((row.drop 1).map V.int).length := by
      unfold consecI
      rw [List.length_zip, List.length_map, List.length_map]
    have cl := consecI_len row
    refine in_it (walk_zip (K := K) (a := r) (b := p5) (xs := row.map V.int) (ys := (row.drop 1).map V.int) many) (fun j H' => Same H2 H' ∧ H' r = some (.lst (row.map V.int)) ∧ H' p5 = some (.lst ((row.drop 1).map V.int)) ∧ ∃ ps : List Addr, H' D = some (.lst (ps.map V.ref)) ∧ Paired (fun T (x : Int × Int) => H' T = some (.tup [.int x.1, .int x.2])) ps (((rws.take i).map consecI).flatten ++ (consecI row).take j))
      ⟨s25, er5, e5, ps, e35, by rw [List.take_zero, List.append_nil]; exact p35⟩ (fun j H' _ h' => ⟨.of h'.2.1, .of h'.2.2.1⟩) (fun j x H6 H7 hj h6 hy => ?_) (fun H6 h6 => ?_)
    · obtain ⟨s6, er6, e56, ps6, e6, p6⟩ := h6
      obtain ⟨T, x1, x2, rfl, nT, rfl, g1, g2⟩ := hy
      have g1 : (row.map V.int)[j]? = some x1 := g1
      have g2 : ((row.drop 1).map V.int)[j]? = some x2 := g2
      rw [List.getElem?_map] at g1 g2
      obtain ⟨u1, h1, rfl⟩ := Option.map_eq_some_iff.mp g1
      obtain ⟨u2, h2, rfl⟩ := Option.map_eq_some_iff.mp g2
      have hc : (consecI row)[j]? = some (u1, u2) := by
        unfold consecI
        rw [List.getElem?_zip_eq_some]
        exact ⟨h1, h2⟩
      have sT := Same.new (o := .tup [V.int u1, V.int u2]) nT
      have eT := sT _ _ e6
      have nTD : T ≠ D := (ne_of_none e6 nT).symm
      have lp := Paired.length p6
      rw [List.length_append, List.length_take] at lp
      have nrD : r ≠ D := ne_of_none er hD
      have npD : p5 ≠ D := fun z => by
        rw [z] at e56
        rw [e6] at e56
        have := HO.lst.inj (Option.some.inj e56)
        rw [z] at hp5
        rw [e3] at hp5
        cases hp5
      refine ⟨rfl, yes_lc ⟨_, rfl, _, eT, ?_, fun b o eb => ?_, ?_, ?_, ps6 ++ [T], ?_, ?_⟩⟩
      · rw [List.length_map]
        show ps6.length < 16777216
        omega
      · rw [upd_ne (ne_of_none eb hD)]
        exact sT _ _ (s6 _ _ eb)
      · rw [upd_ne nrD]
        exact sT _ _ er6
      · rw [upd_ne npD]
        exact sT _ _ e56
      · rw [upd_same, List.map_append]
        rfl
      · rw [List.take_add_one, hc, ← List.append_assoc]
        refine Paired.app (Paired.mapP p6 fun b x h => ?_) (.cons ?_ .nil)
        · rw [upd_ne (tup_ne h e6)]
          exact sT _ _ h
        · rw [upd_ne nTD, upd_same]
    · obtain ⟨s6, _, _, ps6, e6, p6⟩ := h6
      rw [List.take_length] at p6
      exact ⟨s6, ps6, e6, by rw [et]; exact p6⟩
  obtain ⟨s3, ps, e3, p3⟩ := h3
  rw [List.length_map, lr, List.take_length] at p3
  have pl := pairsI_le rws
  have inn : ∀ x, x ∈ (rws.map consecI).flatten → 0 ≤ x.1 ∧ x.1 < ns.length ∧ 0 ≤ x.2 ∧ x.2 < ns.length := fun x hx => by
    obtain ⟨c, hc, hx2⟩ := List.mem_flatten.mp hx
    obtain ⟨row, hrow, rfl⟩ := List.mem_map.mp hc
    have h1 := List.of_mem_zip (show (x.1, x.2) ∈ row.zip (row.drop 1) from hx2)
    have h2 := (flat_part part hrow).2 _ h1.1
    have h3 := (flat_part part hrow).2 _ (List.mem_of_mem_drop h1.2)
    exact ⟨h2.1, h2.2, h3.1, h3.2⟩
  have fin : ∀ H', Same H2 H' → Q (.bl (((rws.map consecI).flatten.map (pairOk ns)).all id)) H' := fun H' s' => by
    refine q H' _ (s12.trans s') ⟨fun h => ⟨rws, rfl, ne, part, fun r hr2 => List.all_eq_true.mpr fun p hp => ?_⟩, fun ⟨rw2, h1, _, _, h4⟩ => ?_⟩
    · exact List.all_eq_true.mp h _ (List.mem_map.mpr ⟨p, List.mem_flatten.mpr ⟨_, List.mem_map.mpr ⟨r, hr2, rfl⟩, hp⟩, rfl⟩)
    · rw [← same rw2 h1] at h4
      refine List.all_eq_true.mpr fun b hb => ?_
      obtain ⟨p, hp, rfl⟩ := List.mem_map.mp hb
      obtain ⟨c, hc, hx2⟩ := List.mem_flatten.mp hp
      obtain ⟨row, hrow, rfl⟩ := List.mem_map.mp hc
      exact List.all_eq_true.mp (h4 row hrow) p hx2
  generalize (rws.map consecI).flatten = prs at p3 pl inn fin
  have lp := Paired.length p3
  have ha3 := s3 _ _ ha2
  refine ⟨_, rfl, D, rfl, ⟨_, .of e3⟩, fun C hC => ?_⟩
  have sC := Same.new (o := .lst []) hC
  refine lc_list (xs := ps.map V.ref) (fun k H' => Same H3 H' ∧ H' C = some (.lst (((prs.take k).map (pairOk ns)).map V.bl))) ⟨sC, upd_same⟩ (fun k H' _ h' => .of (h'.1 _ _ e3)) (fun k x H' hx h' => ?_) (fun H4 h4 => ?_)
  · obtain ⟨s', e'⟩ := h'
    rw [List.getElem?_map] at hx
    obtain ⟨T, hT, rfl⟩ := Option.map_eq_some_iff.mp hx
    obtain ⟨z, hz, eT⟩ := Paired.getL p3 hT
    have hk := (List.getElem?_eq_some_iff.mp hz).1
    obtain ⟨z1, z2, z3, z4⟩ := inn z (List.mem_of_getElem? hz)
    have ha' := s' _ _ ha3
    have put : ∀ b, pairOk ns z = b → ∃ acc, H' C = some (.lst acc) ∧ acc.length < sizeLine ∧ (Same H3 (upd H' C (.lst (acc ++ [V.bl b]))) ∧ (upd H' C (.lst (acc ++ [V.bl b]))) C = some (.lst (((prs.take (k + 1)).map (pairOk ns)).map V.bl))) := fun b eb0 => by
      refine ⟨_, e', ?_, fun b o eb => ?_, ?_⟩
      · rw [List.length_map, List.length_map, List.length_take]
        exact small1000 (by omega)
      · rw [upd_ne (ne_of_none eb hC)]
        exact s' _ _ eb
      · rw [upd_same, List.take_add_one, hz, List.map_append, List.map_append, ← eb0]
        rfl
    refine ⟨T, _, rfl, .of (s' _ _ eT), rfl, _, _, rfl, _, [], rfl, rfl, rfl, ?_⟩
    refine ⟨_, rfl, _, rfl, _, _, rfl, rfl, _, rfl, ite2 (fun c => ?_) (fun c => ?_)⟩
    · have c : z.1 < z.2 := of_decide_eq_true c
      refine ⟨_, rfl, _, rfl, a, _, _, _, rfl, rfl, .of ha', at_of (z := z.1) (j := z.1.toNat) (by omega) (valAt_get (by omega)), _, rfl, _, rfl, a, _, _, _, rfl, rfl, .of ha', at_of (z := z.2) (j := z.2.toNat) (by omega) (valAt_get (by omega)), _, _, rfl, rfl, ?_⟩
      refine put _ ?_
      unfold pairOk
      rw [decide_eq_true c]
      rfl
    · refine put _ ?_
      unfold pairOk
      rw [show decide (z.1 < z.2) = false from Bool.eq_false_iff.mpr c]
      rfl
  · obtain ⟨s4, e4⟩ := h4
    rw [List.length_map, lp, List.take_length] at e4
    exact ⟨C, _, rfl, .of e4, fin _ (s3.trans s4)⟩
end
end HSP
namespace HSP
open PySem PySem.Spec PyProof.Rows L2
section
variable {X : Cx}
/-- str of data -/
theorem cr_strD (hgd : X.A.guards = some []) (hu : X.A.units + 64 < cLine) : CallR X (.type "str") (rReprD X.K) := by
  intro pins s σ H vs us Q I r h
  obtain ⟨a, d, rfl, hd, hs, hn, h60, hz, q⟩ := h
  rw [Vals.ref1 r]
  obtain ⟨as, rd⟩ := Dp.reads I d (.ref a) (.ref a) hd rfl
  exact str_of_reads rd hs (fun z => by rw [hn] at z; cases z) hgd (by omega) (fun _ _ e => e) (fun h' u tk kp => ⟨.str _, H, I.kept kp, ⟨u, rfl⟩, q⟩) hz
end
/-- lists of booleans as data -/
def boolsD (l : List Bool) : PyData := .list (l.map PyData.bool)
theorem bools_dpAll {K : PySem.W.Frag} {H : Hp} : ∀ l : List Bool, DpAll K H (l.map V.bl) (l.map PyData.bool)
  | [] => .nil
  | b :: r => .cons (.bl b) (bools_dpAll r)
theorem bools2_fine (b c : Bool) : Fine (boolsD [b, c]) := by
  cases b <;> cases c <;> exact ⟨by decide +kernel, by decide +kernel, by decide +kernel, by decide +kernel⟩
theorem bools2_shown {b c d e : Bool} (h : (boolsD [b, c]).shown = (boolsD [d, e]).shown) : b = d ∧ c = e := by
  cases b <;> cases c <;> cases d <;> cases e <;> first | exact ⟨rfl, rfl⟩ | exact absurd h (by decide +kernel)
end HSP
namespace HSP
open PySem PySem.Spec PyProof.Rows L2
def RowOk (ns : List Int) (k : Option (List (Option Int))) : Prop := ∃ r : List Int, k = some (r.map some) ∧ r ≠ [] ∧ (∀ i, i ∈ r → 0 ≤ i ∧ i < ns.length) ∧ (consecI r).all (pairOk ns) = true
theorem good_rows {ns : List Int} {th : Option (List (Option (List (Option Int))))} : GoodR ns th ↔ ∃ rws : List (List Int), th = asRows rws ∧ (∀ r, r ∈ rws → RowOk ns (some (r.map some))) ∧ rws.flatten.Perm ((List.range ns.length).map Int.ofNat) := by
  constructor
  · rintro ⟨rws, e, ne, p, ok⟩
    exact ⟨rws, e, fun r hr => ⟨r, rfl, ne r hr, fun i hi => (flat_part p hr).2 i hi, ok r hr⟩, p⟩
  · rintro ⟨rws, e, h, p⟩
    refine ⟨rws, e, fun r hr => ?_, p, fun r hr => ?_⟩
    · obtain ⟨r2, e2, h2, _⟩ := h r hr
      rw [some_inj (Option.some.inj e2)]
      exact h2
    · obtain ⟨r2, e2, _, _, h2⟩ := h r hr
      rw [some_inj (Option.some.inj e2)]
      exact h2
/-- an item that is a node -/
def itemOk (n : Nat) : Option Int → Bool
  | none => false
  | some i => decide (0 ≤ i) && decide (i < n)
theorem items_ok {n : Nat} : ∀ {is : List (Option Int)}, (∀ o, o ∈ is → itemOk n o = true) → ∃ r : List Int, is = r.map some ∧ ∀ i, i ∈ r → 0 ≤ i ∧ i < (n : Int)
  | [], _ => ⟨[], rfl, fun i h => (by cases h)⟩
  | o :: t, h => by
    obtain ⟨r, e, hr⟩ := items_ok (is := t) fun o ho => h o (List.mem_cons_of_mem _ ho)
    have h1 := h o List.mem_cons_self
    cases o with
    | none => cases h1
    | some i =>
      have h2 : decide (0 ≤ i) = true ∧ decide (i < (n : Int)) = true := Bool.and_eq_true_iff.mp h1
      refine ⟨i :: r, by rw [e]; rfl, fun j hj => ?_⟩
      rcases List.mem_cons.mp hj with z | z
      · rw [z]
        exact ⟨of_decide_eq_true h2.1, of_decide_eq_true h2.2⟩
      · exact hr j z
section
variable {P : Program} {w : World} {K : PySem.W.Frag} {mg : Str → Option Value} {base : Heap}
theorem sc_law_row_right : FnScope n_law_row_right ["a_values", "row"] (defScope s_law_row_right) := ⟨rfl, rfl, rfl, by decide +kernel, rfl, by decide +kernel, by decide +kernel⟩
def spRowRX (K : PySem.W.Frag) : Sp := fun vs H Q _ => ∃ (a : Addr) (y : V) (ns : List Int) (k : Option (List (Option Int))), vs = [.ref a, y] ∧ H a = some (.lst (ns.map V.int)) ∧ ns.length ≤ 100 ∧ RowAt K H y k ∧ rowLen k ≤ 200 ∧ ∀ (H' : Hp) (b : Bool), Same H H' → (b = true ↔ RowOk ns k) → Q (.bl b) H'
theorem ok_rowRX (B : Bl mg) (a : At K mg "_law_row_right" s_law_row_right) : Df P w K mg base "_law_row_right" 1 ["a_values", "row"] (spRowRX K) := by
  refine Df.mk' a sc_law_row_right (fun vs H Q E h => ?_) (fun _ _ _ _ _ _ us hl => match us, hl with | [_, _], _ => rfl) (fun f cdv A outer s H vs Q E hr h => ?_)
  · obtain ⟨_, _, _, _, rfl, _⟩ := h
    rfl
  obtain ⟨a, y, ns, k, rfl, ha, h100, hk, l200, q⟩ := h
  have zero : 0 ≤ sizeLine := by show 0 ≤ sizeLine; decide
  have no : ∀ H', Same H H' → ¬ RowOk ns k → Q (.bl false) H' := fun H' s h => q H' false s ⟨fun z => (by cases z), fun z => absurd z h⟩
  refine ⟨_, (pss_cons (ps_if (PW.pt (pw_or (pt_not (pt_val (pe_callB call_isi (by rfl) B.isinstance (by decide +kernel) (pa_cons (pv 1) (pa_cons (pe_bltn (v := .ty "list") (by rfl) B.list (by decide +kernel) rfl) pa_nil))))) (pw_or1 (pt_cmpR (op_eqN (Nat.lt_of_succ_lt (hu_of hr))) (pv 1) (pe_lst pa_nil) (nomark _))))) (pss_one (ps_ret pe_bl)) pss_nil)
 (pss_cons (ps_if (pt_cmpR (op_neN (Nat.lt_of_succ_lt (hu_of hr))) (pe_lc (own := [("one", 2)]) (g := (gName 2)) (by rfl) sc_law_row_right.nd (pi_list (pv 1)) (blkOk_by (N := n_law_row_right) (sc := defScope s_law_row_right) (by decide +kernel)) (fun _ _ _ _ _ => (pg_name (i := 2) sc_law_row_right.nd rfl (.inl rfl))) (fun _ _ _ _ _ => (pts_one (PW.pt (pw_or (pt_not (pt_val (pe_callB (show CallR _ (Value.builtin "isinstance") (rIsi K) from call_isi) (by rfl) B.isinstance (by decide +kernel) (pa_cons (pv 2) (pa_cons (pe_bltn (v := .ty "int") (by rfl) B.int (by decide +kernel) rfl) pa_nil))))) (pw_or (pt_val (pe_callB (show CallR _ (Value.builtin "isinstance") (rIsi K) from call_isi) (by rfl) B.isinstance (by decide +kernel) (pa_cons (pv 2) (pa_cons (pe_bltn (v := .ty "bool") (by rfl) B.bool (by decide +kernel) rfl) pa_nil)))) (pw_or1 (pt_not (pt_chain op_le op_lt pe_int (pv 2) (pe_callB (show CallR _ (Value.builtin "len") (rLenK K) from call_len_seq) (by rfl) B.len PySem.boot_len (pa_cons (pv 0) pa_nil)))))))))) (fun _ _ _ _ _ => (pv 2))) (pe_lst pa_nil) (nomark _)) (pss_one (ps_ret pe_bl)) pss_nil)
 (pss_cons (ps_for PassesOwn.never rfl (pi_zip (by rfl) B.zip (pa_cons (pv 1) (pa_cons (pe_slice sl_list (pv 1) (po_some pe_int) po_none) pa_nil))) (pg_tup rfl (pgs_cons (pg_name (i := 2) sc_law_row_right.nd rfl (.inl rfl)) (pgs_cons (pg_name (i := 3) sc_law_row_right.nd rfl (.inl rfl)) pgs_nil))) (pss_one (ps_if (PW.pt (pw_or (pt_cmpR op_ge (pv 2) (pv 3) (nomark _)) (pw_or1 (pt_cmpR op_lt (pe_ix ix_list (pv 0) (pv 2) (fun _ _ => rfl)) (pe_ix ix_list (pv 0) (pv 3) (fun _ _ => rfl)) (nomark _))))) (pss_one (ps_ret pe_bl)) pss_nil)))
 (pss_one (ps_ret pe_bl))))), ?_⟩
  cases k with
  | none =>
    obtain ⟨t, ty, kk⟩ := hk
    refine ⟨_, rfl, _, _, _, _, false, rfl, .ty "list", ty, kk, false, rfl, iteT ?_⟩
    exact no H (Same.refl _) fun ⟨_, h, _⟩ => by cases h
  | some is =>
  obtain ⟨r, xs, rfl, er, pi⟩ := hk
  have lx := Paired.length pi
  have l200 : is.length ≤ 200 := l200
  refine ⟨_, rfl, _, _, _, _, true, rfl, .ty "list", .base (.lst er), rfl, true, rfl, iteF ?_⟩
  refine ⟨_, rfl, zero, fun Z hZ => ?_⟩
  have sZ := Same.new (o := .lst []) hZ
  refine ⟨r, Z, xs, rfl, rfl, .of (sZ _ _ er), .of upd_same, _, rfl, ?_⟩
  by_cases z : is = []
  · have ez : xs = [] := List.length_eq_zero_iff.mp (by rw [lx, z]; rfl)
    rw [ez]
    refine iteT ?_
    refine no _ sZ fun ⟨r2, h, h2, _⟩ => ?_
    have h := Option.some.inj h
    rw [z] at h
    exact h2 (List.map_eq_nil_iff.mp h.symm)
  have nz : xs.isEmpty = false := by
    cases xs with
    | nil => exact absurd (List.length_eq_zero_iff.mp (lx.symm.trans rfl)) z
    | cons _ _ => rfl
  rw [nz]
  refine iteF ?_
  have er0 := sZ _ _ er
  have ha0 := sZ _ _ ha
  have pi0 := Paired.mapP pi fun _ _ h => ItemAt.same sZ h
  generalize upd H Z (.lst []) = H0 at sZ er0 ha0 pi0 ⊢
  -- items that are no nodes
  refine ⟨_, rfl, r, rfl, ⟨_, .of er0⟩, fun D hD => ?_⟩
  refine lc_list (xs := xs) (fun j H' => Same H0 H' ∧ ∃ acc : List V, H' D = some (.lst acc) ∧ acc.length ≤ j ∧ (acc.isEmpty = true ↔ ∀ o, o ∈ is.take j → itemOk ns.length o = true)) ⟨Same.new hD, [], upd_same, Nat.le_refl _, ⟨fun _ o h => (by rw [List.take_zero] at h; cases h), fun _ => rfl⟩⟩ (fun j H' _ h' => .of (h'.1 _ _ er0)) (fun j x H1 hx h1 => ?_) (fun H1 h1 => ?_)
  · obtain ⟨s1, acc, e1, l1, i1⟩ := h1
    obtain ⟨o, ho, hox⟩ := Paired.getL pi0 hx
    have hj := (List.getElem?_eq_some_iff.mp ho).1
    have et : ∀ P : Option Int → Prop, (∀ o2, o2 ∈ is.take (j + 1) → P o2) ↔ (∀ o2, o2 ∈ is.take j → P o2) ∧ P o := fun P => by
      rw [List.take_add_one, ho]
      constructor
      · intro h
        exact ⟨fun o2 h2 => h o2 (List.mem_append_left _ h2), h o (List.mem_append_right _ (List.mem_singleton.mpr rfl))⟩
      · rintro ⟨h2, h3⟩ o2 h4
        rcases List.mem_append.mp h4 with g | g
        · exact h2 o2 g
        · rw [List.mem_singleton.mp g]
          exact h3
    have bad : itemOk ns.length o = false → ∃ acc, H1 D = some (.lst acc) ∧ acc.length < sizeLine ∧ (Same H0 (upd H1 D (.lst (acc ++ [x]))) ∧ ∃ ac2 : List V, (upd H1 D (.lst (acc ++ [x]))) D = some (.lst ac2) ∧ ac2.length ≤ j + 1 ∧ (ac2.isEmpty = true ↔ ∀ o2, o2 ∈ is.take (j + 1) → itemOk ns.length o2 = true)) := fun hb => by
      refine ⟨acc, e1, ?_, fun b o2 eb => ?_, acc ++ [x], upd_same, by rw [List.length_append, List.length_singleton]; omega, ?_⟩
      · show _ < 16777216
        omega
      · rw [upd_ne (ne_of_none eb hD)]
        exact s1 _ _ eb
      · rw [et]
        refine ⟨fun h => ?_, fun h => ?_⟩
        · cases acc <;> cases h
        · rw [hb] at h
          cases h.2
    refine ⟨rfl, ?_⟩
    cases o with
    | none =>
      obtain ⟨t, b1, b2, ty, k1, k2, kb⟩ := WholeV.same s1 hox
      refine ⟨_, rfl, _, _, _, _, b1, rfl, .ty "int", ty, k1, b1, rfl, ?_⟩
      cases b1 with
      | false =>
        refine iteT ⟨_, rfl, bad rfl⟩
      | true =>
        have eb2 : b2 = true := by cases b2 <;> first | rfl | cases kb
        subst eb2
        refine iteF ⟨_, rfl, _, _, _, _, true, rfl, .ty "bool", ty, k2, true, rfl, iteT ⟨_, rfl, bad rfl⟩⟩
    | some i =>
      cases (show x = V.int i from hox)
      obtain ⟨t, b1, b2, ty, k1, k2, kb⟩ := whole_int (K := K) (H := H1) (i := i)
      have eb : b1 = true ∧ b2 = false := by cases b1 <;> cases b2 <;> first | exact ⟨rfl, rfl⟩ | cases kb
      obtain ⟨rfl, rfl⟩ := eb
      have ha1 := s1 _ _ ha0
      refine ⟨_, rfl, _, _, _, _, true, rfl, .ty "int", ty, k1, true, rfl, iteF ?_⟩
      refine ⟨_, rfl, _, _, _, _, false, rfl, .ty "bool", ty, k2, false, rfl, iteF ?_⟩
      have il : itemOk ns.length (some i) = (decide (0 ≤ i) && decide (i < (ns.length : Int))) := rfl
      refine ⟨_, rfl, _, _, rfl, rfl, decide (0 ≤ i), rfl, ?_⟩
      by_cases c : 0 ≤ i
      · rw [decide_eq_true c]
        refine iteT ⟨_, rfl, a, _, rfl, .inl (.of ha1), _, _, rfl, rfl, decide (i < (((ns.map V.int).length : Nat) : Int)), rfl, ?_⟩
        by_cases d : i < ns.length
        · rw [decide_eq_true (show i < (((ns.map V.int).length : Nat) : Int) by rw [List.length_map]; exact d)]
          refine iteF ⟨s1, acc, e1, by omega, ?_⟩
          rw [et, i1]
          refine ⟨fun h => ⟨h, ?_⟩, fun h => h.1⟩
          rw [il, decide_eq_true c, decide_eq_true d]
          rfl
        · rw [decide_eq_false (show ¬ i < (((ns.map V.int).length : Nat) : Int) by rw [List.length_map]; exact d)]
          refine iteT ⟨_, rfl, bad ?_⟩
          rw [il, decide_eq_false d, Bool.and_false]
      · rw [decide_eq_false c]
        refine iteF ⟨false, rfl, iteT ⟨_, rfl, bad ?_⟩⟩
        rw [il, decide_eq_false c, Bool.false_and]
  obtain ⟨s1, acc, e1, l1, i1⟩ := h1
  rw [lx, List.take_length] at i1
  refine ⟨zero, fun Z2 hZ2 => ?_⟩
  have sZ2 := Same.new (o := .lst []) hZ2
  refine ⟨D, Z2, acc, rfl, rfl, .of (sZ2 _ _ e1), .of upd_same, _, rfl, ?_⟩
  cases em : acc.isEmpty with
  | false =>
    refine iteT (no _ (sZ.trans (s1.trans sZ2)) fun ⟨r2, h, _, h3, _⟩ => ?_)
    have h := Option.some.inj h
    have : acc.isEmpty = true := i1.mpr fun o ho => by
      rw [h] at ho
      obtain ⟨i, hi, rfl⟩ := List.mem_map.mp ho
      obtain ⟨g1, g2⟩ := h3 i hi
      show (decide (0 ≤ i) && decide (i < (ns.length : Int))) = true
      rw [decide_eq_true g1, decide_eq_true g2]
      rfl
    rw [em] at this
    cases this
  | true =>
  refine iteF ?_
  obtain ⟨row, ei, inn⟩ := items_ok (i1.mp em)
  subst ei
  have ex := items_ints pi
  subst ex
  have s02 := s1.trans sZ2
  have er2 := s02 _ _ er0
  have ha2 := s02 _ _ ha0
  have s2 := sZ.trans s02
  generalize upd H1 Z2 (.lst []) = H2 at er2 ha2 s2 ⊢
  -- the pairs
  refine ⟨_, rfl, _, rfl, _, rfl, r, row.map V.int, rfl, .of er2, fun p5 hp5 => ?_⟩
  have s5 := Same.new (o := .lst (cutV (row.map V.int) (some 1) none)) hp5
  have e5 : (upd H2 p5 (.lst (cutV (row.map V.int) (some 1) none))) p5 = some (.lst ((row.drop 1).map V.int)) := by
    rw [upd_same, show (some (1 : Int)) = some ((1 : Nat) : Int) from rfl, cut_from, List.map_drop]
  have er5 := s5 _ _ er2
  have ha5 := s5 _ _ ha2
  have s05 := s2.trans s5
  generalize upd H2 p5 (.lst (cutV (row.map V.int) (some 1) none)) = H5 at e5 er5 ha5 s05 ⊢
  refine ⟨r, p5, _, _, rfl, .of er5, .of e5, ?_⟩
  have many : (consecI row).length = min (row.map V.int).length ((row.drop 1).map V.int).length := by
    unfold consecI
    rw [List.length_zip, List.length_map, List.length_map]
  have same : ∀ r2 : List Int, (some (row.map some) : Option (List (Option Int))) = some (r2.map some) → row = r2 := fun r2 h => some_inj (Option.some.inj h)
  have nrow : row ≠ [] := fun h => z (by rw [h]; rfl)
  refine for_it (walk_zip (K := K) (a := r) (b := p5) (xs := row.map V.int) (ys := (row.drop 1).map V.int) many) (fun j σ H' => Same H5 H' ∧ (∃ y2 y3 : Option V, σ = [some (.ref a), some (.ref r), y2, y3]) ∧ ((consecI row).take j).all (pairOk ns) = true) ⟨Same.refl _, ⟨none, none, rfl⟩, rfl⟩ (fun j σ H' _ h' => ⟨.of (h'.1 _ _ er5), .of (h'.1 _ _ e5)⟩) (fun j x σ H6 H7 hj h6 hy => ?_) (fun σ H6 h6 => ?_)
  · obtain ⟨s6, ⟨y2, y3, rfl⟩, a6⟩ := h6
    obtain ⟨T, x1, x2, rfl, nT, rfl, g1, g2⟩ := hy
    have g1 : (row.map V.int)[j]? = some x1 := g1
    have g2 : ((row.drop 1).map V.int)[j]? = some x2 := g2
    rw [List.getElem?_map] at g1 g2
    obtain ⟨u1, h1, rfl⟩ := Option.map_eq_some_iff.mp g1
    obtain ⟨u2, h2, rfl⟩ := Option.map_eq_some_iff.mp g2
    have hc : (consecI row)[j]? = some (u1, u2) := by
      unfold consecI
      rw [List.getElem?_zip_eq_some]
      exact ⟨h1, h2⟩
    have m1 := inn u1 (List.mem_of_getElem? h1)
    have m2 := inn u2 (List.mem_of_mem_drop (List.mem_of_getElem? h2))
    have sT := Same.new (o := .tup [V.int u1, V.int u2]) nT
    have a7 := sT _ _ (s6 _ _ ha5)
    have i1 : atI (ns.map V.int) u1 = some (.int (valAt ns u1.toNat)) := at_of (j := u1.toNat) (by omega) (valAt_get (by omega))
    have i2 : atI (ns.map V.int) u2 = some (.int (valAt ns u2.toNat)) := at_of (j := u2.toNat) (by omega) (valAt_get (by omega))
    have fails : pairOk ns (u1, u2) = false → Q (.bl false) (upd H6 T (.tup [V.int u1, V.int u2])) := fun hb => by
      refine no _ (s05.trans (s6.trans sT)) fun ⟨r2, h, _, _, h4⟩ => ?_
      rw [← same r2 h] at h4
      have := List.all_eq_true.mp h4 _ (List.mem_of_getElem? hc)
      rw [hb] at this
      cases this
    refine ⟨T, _, rfl, .of upd_same, rfl, _, _, rfl, _, [], rfl, rfl, ?_⟩
    refine ⟨_, rfl, _, rfl, _, _, rfl, rfl, _, rfl, ite2 (fun c => ?_) (fun c => ?_)⟩
    · refine fails ?_
      have c : u1 ≥ u2 := of_decide_eq_true c
      unfold pairOk
      rw [decide_eq_false (show ¬ (u1, u2).1 < (u1, u2).2 from fun z => by have z : u1 < u2 := z; omega)]
      rfl
    have c : ¬ u1 ≥ u2 := fun z => c (decide_eq_true z)
    refine ⟨_, rfl, _, rfl, a, _, _, _, rfl, rfl, .of a7, i1, _, rfl, _, rfl, a, _, _, _, rfl, rfl, .of a7, i2, _, _, rfl, rfl, _, rfl, ite2 (fun d => ?_) (fun d => ?_)⟩
    · refine fails ?_
      have d : valAt ns u1.toNat < valAt ns u2.toNat := of_decide_eq_true d
      unfold pairOk
      rw [decide_eq_false (show ¬ valAt ns (u1, u2).1.toNat ≥ valAt ns (u1, u2).2.toNat from fun z => by have z : valAt ns u1.toNat ≥ valAt ns u2.toNat := z; omega), Bool.and_false]
    · have d : ¬ valAt ns u1.toNat < valAt ns u2.toNat := fun z => d (decide_eq_true z)
      refine ⟨s6.trans sT, ⟨_, _, rfl⟩, ?_⟩
      rw [List.take_add_one, hc, List.all_append, a6]
      show (true && ([(u1, u2)].all (pairOk ns))) = true
      rw [List.all_cons, List.all_nil]
      unfold pairOk
      rw [decide_eq_true (show (u1, u2).1 < (u1, u2).2 from (by show u1 < u2; omega)), decide_eq_true (show valAt ns (u1, u2).1.toNat ≥ valAt ns (u1, u2).2.toNat from (by show valAt ns u1.toNat ≥ valAt ns u2.toNat; omega))]
      rfl
  · obtain ⟨s6, ⟨y2, y3, rfl⟩, a6⟩ := h6
    rw [List.take_length] at a6
    exact q _ true (s05.trans s6) ⟨fun _ => ⟨row, rfl, nrow, inn, a6⟩, fun _ => rfl⟩
end
end HSP
namespace HSP
open PySem PySem.Spec PyProof.Rows L2
theorem all_asRows {ns : List Int} : ∀ {ks : List (Option (List (Option Int)))}, (∀ k, k ∈ ks → RowOk ns k) → ∃ rws : List (List Int), ks = rws.map (fun r => some (r.map some)) ∧ ∀ r, r ∈ rws → RowOk ns (some (r.map some))
  | [], _ => ⟨[], rfl, fun r h => (by cases h)⟩
  | k :: t, h => by
    obtain ⟨rws, e, hr⟩ := all_asRows (ks := t) fun k hk => h k (List.mem_cons_of_mem _ hk)
    obtain ⟨r, e2, h2⟩ := h k List.mem_cons_self
    refine ⟨r :: rws, by rw [e, e2]; rfl, fun x hx => ?_⟩
    rcases List.mem_cons.mp hx with z | z
    · rw [z]
      exact ⟨r, rfl, h2⟩
    · exact hr x z
section
variable {P : Program} {w : World} {K : PySem.W.Frag} {mg : Str → Option Value} {base : Heap}
theorem sc_law_due : FnScope n_law_due ["a_values", "rows"] (defScope s_law_due) := ⟨rfl, rfl, rfl, by decide +kernel, rfl, by decide +kernel, by decide +kernel⟩
def spDueRX (K : PySem.W.Frag) : Sp := fun vs H Q _ => ∃ (a : Addr) (y : V) (ns : List Int) (th : Option (List (Option (List (Option Int))))), vs = [.ref a, y] ∧ H a = some (.lst (ns.map V.int)) ∧ ns.length ≤ 100 ∧ ThingAt K H y th ∧ ThSmall th ∧ ∀ (H' : Hp) (b : Bool), Same H H' → (b = true ↔ GoodR ns th) → Q (.bl b) H'
theorem ok_dueRX (B : Bl mg) (Rr : Df P w K mg base "_law_row_right" 1 ["a_values", "row"] (spRowRX K)) (a : At K mg "_law_due" s_law_due) : Df P w K mg base "_law_due" 2 ["a_values", "rows"] (spDueRX K) := by
  refine Df.mk' a sc_law_due (fun vs H Q E h => ?_) (fun _ _ _ _ _ _ us hl => match us, hl with | [_, _], _ => rfl) (fun f cdv A outer s H vs Q E hr h => ?_)
  · obtain ⟨_, _, _, _, rfl, _⟩ := h
    rfl
  obtain ⟨a, y, ns, th, rfl, ha, h100, hth, sm, q⟩ := h
  have zero : 0 ≤ sizeLine := by show 0 ≤ sizeLine; decide
  have no : ∀ H', Same H H' → ¬ GoodR ns th → Q (.bl false) H' := fun H' s h => q H' false s ⟨fun z => (by cases z), fun z => absurd z h⟩
  refine ⟨_, (pss_cons (ps_if (PW.pt (pw_or (pt_not (pt_val (pe_callB call_isi (by rfl) B.isinstance (by decide +kernel) (pa_cons (pv 1) (pa_cons (pe_bltn (v := .ty "list") (by rfl) B.list (by decide +kernel) rfl) pa_nil))))) (pw_or1 (pt_cmpR (op_neN (Nat.lt_of_succ_lt (hu_of hr))) (pe_lc (own := [("row", 2)]) (g := (gName 2)) (by rfl) sc_law_due.nd (pi_list (pv 1)) (blkOk_by (N := n_law_due) (sc := defScope s_law_due) (by decide +kernel)) (fun _ _ _ _ _ => (pg_name (i := 2) sc_law_due.nd rfl (.inl rfl))) (fun _ _ _ _ _ => (pts_one (pt_not (pt_val (pe_df Rr hr (pa_cons (pv 0) (pa_cons (pv 2) pa_nil))))))) (fun _ _ _ _ _ => (pv 2))) (pe_lst pa_nil) (nomark _))))) (pss_one (ps_ret pe_bl)) pss_nil)
 (pss_one (ps_ret (pe_cmpR (op_eqD hr.units) (pe_callB cr_sortedI (by rfl) B.sorted (by decide +kernel) (pa_cons (pe_callB (cr_sumL rfl) (by rfl) B.sum (by decide +kernel) (pa_cons (pv 1) (pa_cons (pe_lst pa_nil) pa_nil))) pa_nil)) (pe_listRg rfl (by rfl) B.list (prg_1 (by rfl) B.range (pe_callB call_len_seq (by rfl) B.len PySem.boot_len (pa_cons (pv 0) pa_nil)))) (nomark _))))), ?_⟩
  cases th with
  | none =>
    obtain ⟨t, ty, kk⟩ := hth
    refine ⟨_, rfl, _, _, _, _, false, rfl, .ty "list", ty, kk, false, rfl, iteT ?_⟩
    exact no H (Same.refl _) fun ⟨_, h, _⟩ => by cases h
  | some ks =>
  obtain ⟨R, ys, rfl, eR, pR⟩ := hth
  obtain ⟨sm1, sm2⟩ := sm
  have ly := Paired.length pR
  refine ⟨_, rfl, _, _, _, _, true, rfl, .ty "list", .base (.lst eR), rfl, true, rfl, iteF ?_⟩
  refine ⟨_, rfl, R, rfl, ⟨_, .of eR⟩, fun D hD => ?_⟩
  refine lc_list (xs := ys) (fun j H' => Same H H' ∧ ∃ acc : List V, H' D = some (.lst acc) ∧ acc.length ≤ j ∧ (acc.isEmpty = true ↔ ∀ k, k ∈ ks.take j → RowOk ns k)) ⟨Same.new hD, [], upd_same, Nat.le_refl _, ⟨fun _ o h => (by rw [List.take_zero] at h; cases h), fun _ => rfl⟩⟩ (fun j H' _ h' => .of (h'.1 _ _ eR)) (fun j x H1 hx h1 => ?_) (fun H1 h1 => ?_)
  · obtain ⟨s1, acc, e1, l1, i1⟩ := h1
    obtain ⟨k, hk, hkx⟩ := Paired.getL pR hx
    have hj := (List.getElem?_eq_some_iff.mp hk).1
    have et : (∀ k2, k2 ∈ ks.take (j + 1) → RowOk ns k2) ↔ (∀ k2, k2 ∈ ks.take j → RowOk ns k2) ∧ RowOk ns k := by
      rw [List.take_add_one, hk]
      constructor
      · intro h
        exact ⟨fun o2 h2 => h o2 (List.mem_append_left _ h2), h k (List.mem_append_right _ (List.mem_singleton.mpr rfl))⟩
      · rintro ⟨h2, h3⟩ o2 h4
        rcases List.mem_append.mp h4 with g | g
        · exact h2 o2 g
        · rw [List.mem_singleton.mp g]
          exact h3
    refine ⟨rfl, ?_⟩
    refine ⟨_, rfl, _, rfl, a, x, ns, k, rfl, s1 _ _ ha, h100, hkx.same s1, sm2 k (List.mem_of_getElem? hk), fun H2 b s2 ib => ⟨b, rfl, ?_⟩⟩
    have e2 := s2 _ _ e1
    have s12 := s1.trans s2
    cases b with
    | true =>
      refine iteF ⟨s12, acc, e2, by omega, ?_⟩
      rw [et, i1]
      exact ⟨fun h => ⟨h, ib.mp rfl⟩, fun h => h.1⟩
    | false =>
      refine iteT ⟨_, rfl, acc, e2, ?_, fun b o2 eb => ?_, acc ++ [x], upd_same, by rw [List.length_append, List.length_singleton]; omega, ?_⟩
      · show _ < 16777216
        omega
      · rw [upd_ne (ne_of_none eb hD)]
        exact s12 _ _ eb
      · rw [et]
        refine ⟨fun h => ?_, fun h => ?_⟩
        · cases acc <;> cases h
        · exact absurd (ib.mpr h.2) (by decide)
  obtain ⟨s1, acc, e1, l1, i1⟩ := h1
  rw [ly, List.take_length] at i1
  refine ⟨zero, fun Z hZ => ?_⟩
  have sZ := Same.new (o := .lst []) hZ
  refine ⟨D, Z, acc, rfl, rfl, .of (sZ _ _ e1), .of upd_same, _, rfl, ?_⟩
  have s1Z := s1.trans sZ
  cases em : acc.isEmpty with
  | false =>
    refine iteT (no _ s1Z fun g => ?_)
    obtain ⟨rws, e, h, _⟩ := good_rows.mp g
    have e := Option.some.inj e
    have : acc.isEmpty = true := i1.mpr fun k hk => by
      rw [e] at hk
      obtain ⟨r, hr2, rfl⟩ := List.mem_map.mp hk
      exact h r hr2
    rw [em] at this
    cases this
  | true =>
  refine iteF ?_
  obtain ⟨rws, ek, rok⟩ := all_asRows (i1.mp em)
  subst ek
  obtain ⟨rs, rfl, pR2⟩ := rows_refs pR
  have lr := Paired.length pR2
  rw [List.length_map] at sm1
  have bound : ∀ r, r ∈ rws → r.length ≤ 200 := fun r hr2 => by
    have h2 := sm2 _ (List.mem_map.mpr ⟨r, hr2, rfl⟩)
    have h3 : rowLen (some (r.map some)) = r.length := List.length_map _
    omega
  have fl := flat_le 200 bound
  generalize upd H1 Z (.lst []) = H2 at s1Z ⊢
  have eR2 := s1Z _ _ eR
  have ha2 := s1Z _ _ ha
  refine ⟨_, rfl, zero, fun Y hY => ?_⟩
  have sY := Same.new (o := .lst []) hY
  refine ⟨R, Y, rs, rws, [], rfl, sY _ _ eR2, upd_same, Paired.mapP pR2 fun _ _ h => sY _ _ (s1Z _ _ h), ?_, fun H3 p3 s3 e3 => ?_⟩
  · show 0 + _ ≤ 16777216
    omega
  rw [List.nil_append] at e3
  refine ⟨p3, _, rfl, .of e3, fun ns' p4 perm srt n4 => ?_⟩
  have s4 := Same.new (o := .lst (ns'.map V.int)) n4
  have s24 := sY.trans (s3.trans s4)
  have e4 : (upd H3 p4 (.lst (ns'.map V.int))) p4 = some (.lst (ns'.map V.int)) := upd_same
  generalize upd H3 p4 (.lst (ns'.map V.int)) = H4 at e4 s24 ⊢
  have ha4 := s24 _ _ ha2
  refine ⟨_, rfl, a, _, rfl, .inl (.of ha4), ?_⟩
  rw [List.length_map]
  refine ⟨_, rfl, RgOk.of_le (by omega) (by omega) (by omega) (by omega), fun q0 hq0 => ?_⟩
  have e0 : rgV 0 ((ns.length : Nat) : Int) = (List.range ns.length).map natV := by
    unfold rgV
    rw [show (((ns.length : Nat) : Int) - 0).toNat = ns.length by omega]
    exact List.map_congr_left fun i _ => congrArg V.int (by omega)
  rw [e0]
  have s5 := Same.new (o := .lst ((List.range ns.length).map natV)) hq0
  have e5 : (upd H4 q0 (.lst ((List.range ns.length).map natV))) q0 = some (.lst (((List.range ns.length).map Int.ofNat).map V.int)) := by rw [upd_same, nats_ints]
  refine ⟨intsD ns', intsD ((List.range ns.length).map Int.ofNat), .lst (.of (s5 _ _ e4)) (ints_dpAll _), .lst (.of e5) (ints_dpAll _), ints_shaped _, ints_shaped _, ?_⟩
  rw [ints_eqv]
  refine q _ _ (s1Z.trans (s24.trans s5)) ⟨fun h => ?_, fun g => ?_⟩
  · refine good_rows.mpr ⟨rws, rfl, rok, ?_⟩
    rw [← of_decide_eq_true h]
    exact perm.symm
  · obtain ⟨rw2, e, _, pm⟩ := g
    obtain ⟨_, _, _, pm2⟩ : ∃ z, rws = z ∧ True ∧ rws.flatten.Perm ((List.range ns.length).map Int.ofNat) := by
      refine ⟨rws, rfl, trivial, ?_⟩
      have e := Option.some.inj e
      have key : ∀ (a b : List (List Int)), (a.map fun r => (some (r.map some) : Option (List (Option Int)))) = b.map (fun r => some (r.map some)) → a = b := fun a => by
        induction a with
        | nil => intro b hb; cases b with
          | nil => rfl
          | cons _ _ => cases hb
        | cons x r ih => intro b hb; cases b with
          | nil => cases hb
          | cons y t =>
            rw [List.map_cons, List.map_cons] at hb
            obtain ⟨h1, h2⟩ := List.cons.inj hb
            rw [some_inj (Option.some.inj h1), ih t h2]
      rw [key _ _ e]
      exact pm.1
    exact decide_eq_true (sorted_same (perm.trans pm2) srt (range_up _))
end
end HSP
namespace HSP
open PySem PySem.Spec PyProof.Rows L2
/-! ## list(zip(xs, ys)) -/
theorem zip_len0 : typeLookup (.type "zip") "__len__" = pure none := am_miss_of_fast (by decide +kernel)
theorem zip_hint0 : typeLookup (.type "zip") "__length_hint__" = pure none := am_miss_of_fast (by decide +kernel)
section
variable {prog : Program} {w : World} {A : Around} {E : Value → Shared → Prop} {s : Shared}
theorem zl_hint {r : Addr} {Q : Bool → Shared → Prop} (ht : s.TypeIs (.ref r) "zip") (q : Q true s) : wpAny (model prog w) A (Builtin.List.listLengthHint (.ref r)) Q E s := by
  unfold Builtin.List.listLengthHint
  refine wpAny_bind (wpAny_specialOf ht zip_len0 ?_)
  refine wpAny_ite_split (fun hab => absurd hab (by decide)) (fun _ => ?_)
  refine wpAny_ite_split (fun hab => absurd hab (by decide)) (fun _ => ?_)
  refine wpAny_bind (wpAny_specialOf ht zip_hint0 ?_)
  exact wpAny_pure q
/-- how far a zip of two lists has come; the pair that it gave last is still there -/
def ZSt (h : Heap) (z TI TO i1 i2 l1 l2 S : Addr) (i : Nat) : Prop :=
  IsPair h TI (.ref i1) (.ref i2) ∧ h.IsListIter i1 l1 i ∧ h.IsListIter i2 l2 i ∧ ((IsZip h z TI TO .none ∧ ∃ a b, IsPair h TO a b) ∨ ∃ T f oT, IsZipHeld h z TI TO T f ∧ h.get? T = some oT ∧ T ∉ [S, z, TO, i1, i2])
theorem ZSt.put {h h' : Heap} {z TI TO i1 i2 l1 l2 S : Addr} {i : Nat} (st : ZSt h z TI TO i1 i2 l1 l2 S i) (n : S ∉ [z, TI, TO, i1, i2]) (k : ∀ b o, b ≠ S → h.get? b = some o → h'.get? b = some o) : ZSt h' z TI TO i1 i2 l1 l2 S i := by
  simp only [List.mem_cons, List.not_mem_nil, or_false, not_or] at n
  obtain ⟨n1, n2, n3, n4, n5⟩ := n
  obtain ⟨a, b, c, d⟩ := st
  refine ⟨k _ _ (Ne.symm n2) a, b.at fun o e => k _ _ (Ne.symm n4) e, c.at fun o e => k _ _ (Ne.symm n5) e, ?_⟩
  rcases d with ⟨d, x, y, e⟩ | ⟨T, f, oT, d, e, ne⟩
  · exact .inl ⟨k _ _ (Ne.symm n1) d, x, y, k _ _ (Ne.symm n3) e⟩
  · exact .inr ⟨T, f, oT, k _ _ (Ne.symm n1) d, k _ _ (fun q => ne (by rw [q]; exact List.mem_cons_self)) e, ne⟩
theorem zl_item {z TI TO i1 i2 l1 l2 S : Addr} {i : Nat} {xs ys : Array Value} {x y : Value} {Q : Option Value → Shared → Prop} (D : ZipApart z TI TO i1 i2 l1 l2) (st : ZSt s.heap z TI TO i1 i2 l1 l2 S i) (hl1 : s.heap.IsList l1 xs) (hl2 : s.heap.IsList l2 ys)
    (hx : xs[i]? = some x) (hy : ys[i]? = some y) (hS : S < s.heap.objs.size)
    (q : ∀ h', ZSt h' z TI TO i1 i2 l1 l2 S (i + 1) → IsPair h' s.heap.objs.size x y → (∀ c o, c ∉ [z, TO, i1, i2] → s.heap.get? c = some o → h'.get? c = some o) → Q (some (.ref s.heap.objs.size)) { s with heap := h' }) :
    wpAny (model prog w) A (pyNext (.ref z)) Q E s := by
  obtain ⟨a, b, c, d⟩ := st
  have hz : z < s.heap.objs.size := by
    rcases d with ⟨d, _⟩ | ⟨T, f, oT, d, _⟩
    · exact Heap.lt_size d
    · exact Heap.lt_size d
  have h1 : i1 < s.heap.objs.size := by
    obtain ⟨_, e, _⟩ := b
    exact Heap.lt_size e
  have h2 : i2 < s.heap.objs.size := by
    obtain ⟨_, e, _⟩ := c
    exact Heap.lt_size e
  rcases d with ⟨d, u, v, e⟩ | ⟨T, f, oT, d, e, ne⟩
  · have h3 : TO < s.heap.objs.size := Heap.lt_size e
    refine wpAny_pyNext_zip_item D d a e b c hl1 hl2 hx hy fun h' z' TO' b' c' T' _ k => ?_
    have k' : ∀ c o, c ∉ [z, TO, i1, i2] → s.heap.get? c = some o → h'.get? c = some o := fun c o n q => by
      simp only [List.mem_cons, List.not_mem_nil, or_false, not_or] at n
      exact k c o n.1 n.2.1 n.2.2.1 n.2.2.2 q
    refine q h' ⟨k _ _ D.TIz D.TITO D.TIi1 D.TIi2 a, b', c', .inr ⟨_, false, _, z', T', fun q => ?_⟩⟩ T' k'
    simp only [List.mem_cons, List.not_mem_nil, or_false] at q
    rcases q with q | q | q | q | q
    · exact Nat.ne_of_gt hS q
    · exact Nat.ne_of_gt hz q
    · exact Nat.ne_of_gt h3 q
    · exact Nat.ne_of_gt h1 q
    · exact Nat.ne_of_gt h2 q
  · refine wpAny_pyNext_zip_item_held D d e a b c hl1 hl2 hx hy fun h' z' b' c' T' _ k => ?_
    have k' : ∀ c o, c ∉ [z, TO, i1, i2] → s.heap.get? c = some o → h'.get? c = some o := fun c o n q => by
      simp only [List.mem_cons, List.not_mem_nil, or_false, not_or] at n
      exact k c o n.1 n.2.2.1 n.2.2.2 q
    exact q h' ⟨k _ _ D.TIz D.TIi1 D.TIi2 a, b', c', .inr ⟨T, true, oT, z', k' _ _ (fun q => ne (List.mem_cons_of_mem _ q)) e, ne⟩⟩ T' k'
theorem zl_done {z TI TO i1 i2 l1 l2 S : Addr} {i : Nat} {xs ys : Array Value} {Q : Option Value → Shared → Prop} (hh : A.handled = none) (D : ZipApart z TI TO i1 i2 l1 l2) (st : ZSt s.heap z TI TO i1 i2 l1 l2 S i) (hl1 : s.heap.IsList l1 xs) (hl2 : s.heap.IsList l2 ys)
    (hend : xs[i]? = none ∨ ys[i]? = none) (q : ∀ h', (∀ c o, c ∉ [z, TO, i1, i2] → s.heap.get? c = some o → h'.get? c = some o) → Q none { s with heap := h' }) : wpAny (model prog w) A (pyNext (.ref z)) Q E s := by
  obtain ⟨a, b, c, d⟩ := st
  rcases d with ⟨d, u, v, e⟩ | ⟨T, f, oT, d, e, ne⟩
  · refine wpAny_pyNext_zip_end hh D d a e b c hl1 hl2 hend fun h' k => q h' fun c o n r => ?_
    simp only [List.mem_cons, List.not_mem_nil, or_false, not_or] at n
    exact k c o n.1 n.2.1 n.2.2.1 n.2.2.2 r
  · refine wpAny_pyNext_zip_end_held hh D d e a b c hl1 hl2 hend fun h' k => q h' fun c o n r => ?_
    simp only [List.mem_cons, List.not_mem_nil, or_false, not_or] at n
    exact k c o n.1 n.2.2.1 n.2.2.2 r
end
/-- a list object with these items -/
def LZ (its : List Value) (n : Nat) : Obj := { cls := .type "list", data := .seq its.toArray n }
/-- the pairs given so far -/
def ZPs (h : Heap) (xs ys : Array Value) (as : List Addr) : Prop := ∀ (j : Nat) (p : Addr), as[j]? = some p → ∃ x y, xs[j]? = some x ∧ ys[j]? = some y ∧ IsPair h p x y
section
variable {prog : Program} {w : World} {A : Around} {R : Result → Shared → Prop} {z TI TO i1 i2 l1 l2 S : Addr} {xs ys : Array Value} {n : Nat}
theorem zl_loop (hh : A.handled = none) (D : ZipApart z TI TO i1 i2 l1 l2) (hS : S ∉ [z, TI, TO, i1, i2, l1, l2]) (res : Value) (hn : n = min xs.size ys.size) (hz : n ≤ sizeLine) :
    ∀ (k i : Nat) (s : Shared) (c : Nat) (as : List Addr), n - i = k → i ≤ n → ZSt s.heap z TI TO i1 i2 l1 l2 S i → s.heap.IsList l1 xs → s.heap.IsList l2 ys → s.heap.get? S = some (LZ (as.map Value.ref) c) → as.length = i → (∀ p, p ∈ as → p ∉ [S, z, TO, i1, i2]) → ZPs s.heap xs ys as → TO < s.heap.objs.size →
      (∀ (s' : Shared) (c' : Nat) (as' : List Addr), (∀ b o, b ∉ [S, z, TO, i1, i2] → s.heap.get? b = some o → s'.heap.get? b = some o) → s'.gens = s.gens → s'.os = s.os → s'.heap.get? S = some (LZ ((as ++ as').map Value.ref) c') → (as ++ as').length = n → (∀ p, p ∈ as' → s.heap.objs.size ≤ p) → as'.Pairwise (fun a b : Nat => a < b) → ZPs s'.heap xs ys (as ++ as') → R (.ok (.ret res)) s') →
      codeAny (model prog w) A (.builtin "list.extend.loop" ⟨[.ref S, .ref z, res], []⟩) R s := by
  intro k
  induction k with
  | zero =>
    intro i s c as hk hi st hl1 hl2 eS la nas ps hTO hR
    refine codeAny_builtin PySem.F.entry_extend_loop ?_
    rw [Around.under_plainId PySem.F.plain_extend_loop _]
    show wpAny _ A.in1 (pyNext (.ref z) >>= _) _ _ s
    refine wpAny_bind (zl_done (A := A.in1) hh D st hl1 hl2 ?_ fun h' kp => wpAny_pure (hR { s with heap := h' } c [] (fun b o q e => kp b o (fun z => q (List.mem_cons_of_mem _ z)) e) rfl rfl ?_ (by rw [List.append_nil]; omega) (fun p h => by cases h) .nil ?_))
    · by_cases c : xs.size ≤ i
      · exact .inl (Array.getElem?_eq_none c)
      · exact .inr (Array.getElem?_eq_none (by omega))
    · rw [List.append_nil]
      refine kp S _ (fun q => hS ?_) eS
      simp only [List.mem_cons, List.not_mem_nil, or_false] at q ⊢
      rcases q with q | q | q | q
      · exact .inl q
      · exact .inr (.inr (.inl q))
      · exact .inr (.inr (.inr (.inl q)))
      · exact .inr (.inr (.inr (.inr (.inl q))))
    · rw [List.append_nil]
      intro j p hj
      obtain ⟨x, y, h1, h2, h3⟩ := ps j p hj
      exact ⟨x, y, h1, h2, kp p _ (fun q => nas p (List.mem_of_getElem? hj) (List.mem_cons_of_mem _ q)) h3⟩
  | succ k ih =>
    intro i s c as hk hi st hl1 hl2 eS la nas ps hTO hR
    have i1' : i < xs.size := by omega
    have i2' : i < ys.size := by omega
    have hSl : S < s.heap.objs.size := Heap.lt_size eS
    simp only [List.mem_cons, List.not_mem_nil, or_false, not_or] at hS
    obtain ⟨n1, n2, n3, n4, n5, n6, n7⟩ := hS
    refine codeAny_builtin PySem.F.entry_extend_loop ?_
    rw [Around.under_plainId PySem.F.plain_extend_loop _]
    show wpAny _ A.in1 (pyNext (.ref z) >>= _) _ _ s
    refine wpAny_bind (zl_item (A := A.in1) D st hl1 hl2 (Array.getElem?_eq_getElem i1') (Array.getElem?_eq_getElem i2') hSl fun h' st' T' kp => ?_)
    have nS4 : S ∉ [z, TO, i1, i2] := by
      simp only [List.mem_cons, List.not_mem_nil, or_false, not_or]
      exact ⟨n1, n3, n4, n5⟩
    have eS' := kp S _ nS4 eS
    have nT : s.heap.objs.size ≠ S := Nat.ne_of_gt hSl
    show wpAny _ A.in1 (updateSeq S (·.push (Value.ref s.heap.objs.size)) >>= _) _ _ _
    have far : ∀ b o, b ≠ S → h'.get? b = some o → (h'.update S (Obj.mapSeq (·.push (Value.ref s.heap.objs.size)))).get? b = some o := fun b o q e => (Heap.get?_update_other _ _ (Ne.symm q)).trans e
    have eS2 := Heap.get?_update_self (Obj.mapSeq (·.push (Value.ref s.heap.objs.size))) eS' rfl
    have hsz : (as.map Value.ref).toArray.size ≤ sizeLine := by
      rw [List.size_toArray, List.length_map]
      omega
    have hsz2 : ((as.map Value.ref).toArray.push (Value.ref s.heap.objs.size)).size ≤ sizeLine + 1 := by
      rw [Array.size_push, List.size_toArray, List.length_map]
      omega
    have keepL : ∀ {l : Addr} {us : Array Value}, l ≠ S → l ∉ [z, TO, i1, i2] → s.heap.IsList l us → (h'.update S (Obj.mapSeq (·.push (Value.ref s.heap.objs.size)))).IsList l us := fun q1 q2 h => h.at fun o e => far _ _ q1 (kp _ _ q2 e)
    have keepP : ∀ (b : Addr) (o : Obj), b ∉ [S, z, TO, i1, i2] → s.heap.get? b = some o → (h'.update S (Obj.mapSeq (·.push (Value.ref s.heap.objs.size)))).get? b = some o := fun b o q e =>
      far b o (fun q' => q (by rw [q']; exact List.mem_cons_self)) (kp b o (fun q' => q (List.mem_cons_of_mem _ q')) e)
    have nl1 : l1 ∉ [z, TO, i1, i2] := by
      simp only [List.mem_cons, List.not_mem_nil, or_false, not_or]
      exact ⟨D.l1z, D.l1TO, D.l1i1, D.l1i2⟩
    have nl2 : l2 ∉ [z, TO, i1, i2] := by
      simp only [List.mem_cons, List.not_mem_nil, or_false, not_or]
      exact ⟨D.l2z, D.l2TO, D.l2i1, D.l2i2⟩
    have nS5 : S ∉ [z, TI, TO, i1, i2] := by
      simp only [List.mem_cons, List.not_mem_nil, or_false, not_or]
      exact ⟨n1, n2, n3, n4, n5⟩
    have hz' : z < s.heap.objs.size := by
      rcases st.2.2.2 with ⟨d, _⟩ | ⟨T, f, oT, d, _⟩
      · exact Heap.lt_size d
      · exact Heap.lt_size d
    have h1' : i1 < s.heap.objs.size := by
      obtain ⟨_, e, _⟩ := st.2.1
      exact Heap.lt_size e
    have h2' : i2 < s.heap.objs.size := by
      obtain ⟨_, e, _⟩ := st.2.2.1
      exact Heap.lt_size e
    have eP : ZPs (h'.update S (Obj.mapSeq (·.push (Value.ref s.heap.objs.size)))) xs ys (as ++ [s.heap.objs.size]) := fun j p hj => by
      by_cases q : j < as.length
      · rw [List.getElem?_append_left q] at hj
        obtain ⟨x, y, e1, e2, e3⟩ := ps j p hj
        exact ⟨x, y, e1, e2, keepP p _ (nas p (List.mem_of_getElem? hj)) e3⟩
      · have hj2 := (List.getElem?_eq_some_iff.mp hj).1
        rw [List.length_append, List.length_singleton] at hj2
        rw [List.getElem?_append_right (by omega), show j - as.length = 0 by omega] at hj
        cases (show some s.heap.objs.size = some p from hj)
        have ej : j = i := by omega
        rw [ej]
        exact ⟨_, _, Array.getElem?_eq_getElem i1', Array.getElem?_eq_getElem i2', far _ _ nT T'⟩
    obtain ⟨c2, eS3⟩ : ∃ c2, (h'.update S (Obj.mapSeq (·.push (Value.ref s.heap.objs.size)))).get? S = some (LZ ((as ++ [s.heap.objs.size]).map Value.ref) c2) := by
      have key : ∀ (us : List Value) (v : Value), ∃ c2, Obj.mapSeq (·.push v) (LZ us c) = LZ (us ++ [v]) c2 := fun us v => by
        unfold LZ
        rw [← List.push_toArray]
        exact ⟨_, rfl⟩
      obtain ⟨c2, e⟩ := key (as.map Value.ref) (.ref s.heap.objs.size)
      exact ⟨c2, eS2.trans (congrArg some (by rw [e, List.map_append]; rfl))⟩
    have big : s.heap.objs.size < (h'.update S (Obj.mapSeq (·.push (Value.ref s.heap.objs.size)))).objs.size := Heap.lt_size (far _ _ nT T')
    refine wpAny_bind (wpAny_updateSeq eS' rfl (wpAny_pure ⟨plainId_quiet PySem.F.plain_extend_loop _, ih (i + 1) _ c2 (as ++ [s.heap.objs.size]) (by omega) (by omega) (st'.put nS5 far) (keepL (Ne.symm n6) nl1 hl1) (keepL (Ne.symm n7) nl2 hl2) eS3 ?_ ?_ eP (Nat.lt_trans hTO big) ?_⟩) hsz hsz2)
    · rw [List.length_append, List.length_singleton, la]
    · intro p hp
      rcases List.mem_append.mp hp with q | q
      · exact nas p q
      · rw [List.mem_singleton.mp q]
        simp only [List.mem_cons, List.not_mem_nil, or_false, not_or]
        exact ⟨nT, Nat.ne_of_gt hz', Nat.ne_of_gt hTO, Nat.ne_of_gt h1', Nat.ne_of_gt h2'⟩
    · intro s' c' as' k2 g2 o2 e2 l2' n2' w2 p2
      rw [List.append_assoc] at e2 l2' p2
      refine hR s' c' ([s.heap.objs.size] ++ as') (fun b o q e => k2 b o q (keepP b o q e)) g2 o2 e2 l2' (fun p hp => ?_) (List.pairwise_cons.mpr ⟨fun p hp => Nat.lt_of_lt_of_le big (n2' p hp), w2⟩) p2
      rcases List.mem_append.mp hp with q | q
      · rw [List.mem_singleton.mp q]
        exact Nat.le_refl _
      · exact Nat.le_of_lt (Nat.lt_of_lt_of_le big (n2' p q))
end
section
variable {prog : Program} {w : World} {A : Around} {E : Value → Shared → Prop} {s : Shared} {R : Result → Shared → Prop} {z TI TO i1 i2 l1 l2 : Addr} {xs ys : Array Value} {n : Nat}
/-- a zip that has given nothing -/
def ZNew (h : Heap) (z TI TO i1 i2 l1 l2 : Addr) : Prop := IsZip h z TI TO .none ∧ IsPair h TI (.ref i1) (.ref i2) ∧ (∃ a b, IsPair h TO a b) ∧ h.IsListIter i1 l1 0 ∧ h.IsListIter i2 l2 0
theorem ZNew.keep {h h' : Heap} (q : ZNew h z TI TO i1 i2 l1 l2) (k : ∀ b o, b ∈ [z, TI, TO, i1, i2] → h.get? b = some o → h'.get? b = some o) : ZNew h' z TI TO i1 i2 l1 l2 := by
  obtain ⟨a, b, ⟨x, y, c⟩, d, e⟩ := q
  exact ⟨k _ _ (by simp) a, k _ _ (by simp) b, ⟨x, y, k _ _ (by simp) c⟩, d.at fun o q => k _ _ (by simp) q, e.at fun o q => k _ _ (by simp) q⟩
theorem ZNew.lt {h : Heap} (q : ZNew h z TI TO i1 i2 l1 l2) {b : Addr} (hb : b ∈ [z, TI, TO, i1, i2]) : b < h.objs.size := by
  obtain ⟨a, b', ⟨x, y, c⟩, ⟨_, d, _⟩, ⟨_, e, _⟩⟩ := q
  simp only [List.mem_cons, List.not_mem_nil, or_false] at hb
  rcases hb with q | q | q | q | q <;> rw [q]
  · exact Heap.lt_size a
  · exact Heap.lt_size b'
  · exact Heap.lt_size c
  · exact Heap.lt_size d
  · exact Heap.lt_size e
theorem zl_extend (hh : A.handled = none) (D : ZipApart z TI TO i1 i2 l1 l2) (zn : ZNew s.heap z TI TO i1 i2 l1 l2) (hl1 : s.heap.IsList l1 xs) (hl2 : s.heap.IsList l2 ys) {S : Addr} (hS : S ∉ [z, TI, TO, i1, i2, l1, l2]) (res : Value) (hn : n = min xs.size ys.size) (hz : n ≤ sizeLine) {c0 : Nat}
    (eS : s.heap.get? S = some (LZ [] c0))
    (hR : ∀ (s' : Shared) (c' : Nat) (as' : List Addr), (∀ b o, b ∉ [S, z, TO, i1, i2] → s.heap.get? b = some o → s'.heap.get? b = some o) → s'.gens = s.gens → s'.os = s.os → s'.heap.get? S = some (LZ (as'.map Value.ref) c') → as'.length = n → (∀ p, p ∈ as' → s.heap.objs.size ≤ p) → as'.Pairwise (fun a b : Nat => a < b) → ZPs s'.heap xs ys as' → R (.ok (.ret res)) s') :
    wpAny (model prog w) A.in1 (Builtin.List.listExtendWith (.ref S) (.ref z) res) (fun fin s' => match fin with | .done f => R (.ok f) s' | .again c' => c'.quiet = true ∧ codeAny (model prog w) A c' R s') (fun e s' => R (.error e) s') s := by
  have hS' := hS
  simp only [List.mem_cons, List.not_mem_nil, or_false, not_or] at hS'
  obtain ⟨n1, n2, n3, n4, n5, n6, n7⟩ := hS'
  have nS5 : S ∉ [z, TI, TO, i1, i2] := by
    simp only [List.mem_cons, List.not_mem_nil, or_false, not_or]
    exact ⟨n1, n2, n3, n4, n5⟩
  have st0 : ∀ {h : Heap}, ZNew h z TI TO i1 i2 l1 l2 → ZSt h z TI TO i1 i2 l1 l2 S 0 := fun q => ⟨q.2.1, q.2.2.2.1, q.2.2.2.2, .inl ⟨q.1, q.2.2.1⟩⟩
  have go : ∀ (h : Heap) (c1 : Nat), (∀ b o, b ≠ S → s.heap.get? b = some o → h.get? b = some o) → h.get? S = some (LZ [] c1) → s.heap.objs.size ≤ h.objs.size → codeAny (model prog w) A (.builtin "list.extend.loop" ⟨[.ref S, .ref z, res], []⟩) R { s with heap := h } := fun h c1 k e1 hsz => by
    have zn1 : ZNew h z TI TO i1 i2 l1 l2 := zn.keep fun b o hb q => k b o (fun q' => nS5 (q' ▸ hb)) q
    refine zl_loop hh D hS res hn hz n 0 { s with heap := h } c1 [] (Nat.sub_zero n) (Nat.zero_le n) (st0 zn1) (hl1.at fun o q => k _ _ (Ne.symm n6) q) (hl2.at fun o q => k _ _ (Ne.symm n7) q) e1 rfl (fun p hp => by cases hp) (fun j p hj => by simp at hj) (zn1.lt (by simp)) fun s' c' as' k2 g2 o2 e2 l2' n2' w2 p2 => ?_
    exact hR s' c' as' (fun b o q e => k2 b o q (k b o (fun q' => q (by rw [q']; exact List.mem_cons_self)) e)) g2 o2 e2 l2' (fun p hp => Nat.le_trans hsz (n2' p hp)) w2 p2
  unfold Builtin.List.listExtendWith
  have ht : s.TypeIs (.ref z) "zip" := ⟨_, zn.1, rfl⟩
  refine wpAny_bind (wpAny_typeOf ht ?_)
  have d1 : Builtin.List.listSameRef (.ref S) (.ref z) = false := by simp [Builtin.List.listSameRef, n1]
  have d2 : (Value.type "zip" == Value.type "list") = false := by decide
  have d3 : (Value.type "zip" == Value.type "tuple") = false := by decide
  simp only [d1, d2, d3, Bool.or_false, Bool.false_eq_true, if_false]
  refine wpAny_bind (wpAny_pyIter_zip zn.1 (wpAny_bind (wpAny_holding (zl_hint ht ?_))))
  refine wpAny_ite_split (fun _ => ?_) (fun _ => wpAny_pure ⟨plainId_quiet PySem.F.plain_extend_loop _, go s.heap c0 (fun _ _ _ e => e) eS (Nat.le_refl _)⟩)
  refine wpAny_bind (wpAny_rule (wpAny_bind ?_))
  show wpAny _ _ (updateSeq S (·.push .none) >>= fun _ => updateSeq S (·.pop)) _ _ s
  refine wpAny_bind (wpAny_updateSeq eS rfl ?_)
  have u1 := Heap.get?_update_self (Obj.mapSeq (·.push Value.none)) eS rfl
  refine wpAny_updateSeq (hz := by seq_fits) u1 rfl ?_
  have u2 := Heap.get?_update_self (Obj.mapSeq (·.pop)) u1 rfl
  refine wpAny_pure ⟨plainId_quiet PySem.F.plain_extend_loop _, go _ _ (fun b o q e => ?_) u2 ?_⟩
  · exact (Heap.get?_update_other _ _ (Ne.symm q)).trans ((Heap.get?_update_other _ _ (Ne.symm q)).trans e)
  · rw [Heap.size_update, Heap.size_update]
    exact Nat.le_refl _
theorem zl_call {Q : Value → Shared → Prop} (hh : A.handled = none) (D : ZipApart z TI TO i1 i2 l1 l2) (zn : ZNew s.heap z TI TO i1 i2 l1 l2) (hl1 : s.heap.IsList l1 xs) (hl2 : s.heap.IsList l2 ys) (m1 : l1 < s.heap.objs.size) (m2 : l2 < s.heap.objs.size) (hn : n = min xs.size ys.size) (hz : n ≤ sizeLine)
    (hQ : ∀ (s' : Shared) (c' : Nat) (as' : List Addr), (∀ b o, b ∉ [z, TO, i1, i2] → s.heap.get? b = some o → s'.heap.get? b = some o) → s'.gens = s.gens → s'.os = s.os → s'.heap.get? s.heap.objs.size = some (LZ (as'.map Value.ref) c') → as'.length = n → (∀ p, p ∈ as' → s.heap.objs.size < p) → as'.Pairwise (fun a b : Nat => a < b) → ZPs s'.heap xs ys as' → Q (.ref s.heap.objs.size) s') :
    wpAny (model prog w) A (call (.type "list") [.ref z]) Q E s := by
  refine callType_codes (Q₁ := fun ob sa => ob = .ref s.heap.objs.size ∧ sa = { s with heap := s.heap.push (LZ [] 0) }) PySem.F.called_list (PySem.F.typeCall_list_1 _) PySem.F.entry_list_init (code_list_new _ ⟨rfl, rfl⟩) fun ob sa hsa => ?_
  obtain ⟨rfl, rfl⟩ := hsa
  have zlt : ∀ {b : Addr}, b ∈ [z, TI, TO, i1, i2] → b < s.heap.objs.size := fun hb => zn.lt hb
  have nS : s.heap.objs.size ∉ [z, TI, TO, i1, i2, l1, l2] := fun q => by
    have key : ∀ b, b ∈ [z, TI, TO, i1, i2, l1, l2] → b < s.heap.objs.size := fun b hb => by
      simp only [List.mem_cons, List.not_mem_nil, or_false] at hb
      rcases hb with q | q | q | q | q | q | q <;> rw [q]
      · exact zlt (by simp)
      · exact zlt (by simp)
      · exact zlt (by simp)
      · exact zlt (by simp)
      · exact zlt (by simp)
      · exact m1
      · exact m2
    exact Nat.lt_irrefl _ (key _ q)
  have eS : (s.heap.push (LZ [] 0)).get? s.heap.objs.size = some (LZ [] 0) := Heap.get?_push_size _ rfl
  refine ⟨⟨_, eS, rfl⟩, PySem.F.args_list_init_2 _ _, ?_⟩
  show wpAny _ _ (do let old ← Builtin.List.listItems (.ref s.heap.objs.size); Builtin.List.listUpdate (.ref s.heap.objs.size) (fun _ => #[]); letGo old.toList.reverse; Builtin.List.listExtendWith (.ref s.heap.objs.size) (.ref z) .none) _ _ _
  unfold Builtin.List.listItems
  refine wpAny_bind (wpAny_bind (wpAny_seqItems eS rfl (wpAny_pure ?_)))
  show wpAny _ _ (updateSeq s.heap.objs.size (fun _ => #[]) >>= fun _ => letGo (#[] : Array Value).toList.reverse >>= fun _ => Builtin.List.listExtendWith (.ref s.heap.objs.size) (.ref z) .none) _ _ _
  refine wpAny_bind (wpAny_updateSeq eS rfl (wpAny_bind (wpAny_letGo ?_)))
  have e2 := Heap.get?_update_self (Obj.mapSeq (fun _ => (#[] : Array Value))) eS rfl
  have far : ∀ b o, b ≠ s.heap.objs.size → s.heap.get? b = some o → ((s.heap.push (LZ [] 0)).update s.heap.objs.size (Obj.mapSeq (fun _ => (#[] : Array Value)))).get? b = some o := fun b o q e => (Heap.get?_update_other _ _ (Ne.symm q)).trans (Heap.get?_push_of_some _ e)
  have zn2 : ZNew ((s.heap.push (LZ [] 0)).update s.heap.objs.size (Obj.mapSeq (fun _ => (#[] : Array Value)))) z TI TO i1 i2 l1 l2 := zn.keep fun b o hb q => far b o (Nat.ne_of_lt (zlt hb)) q
  refine zl_extend (A := A.in1) hh D zn2 (hl1.at fun o q => far _ _ (Nat.ne_of_lt m1) q) (hl2.at fun o q => far _ _ (Nat.ne_of_lt m2) q) nS .none hn hz e2 fun s' c' as' k g o e l' n' w' p => ⟨rfl, ?_⟩
  refine hQ s' c' as' (fun b ob q r => k b ob ?_ (far b ob (Nat.ne_of_lt (Heap.lt_size r)) r)) g o e l' (fun p' hp => ?_) w' p
  · intro q'
    rcases List.mem_cons.mp q' with q' | q'
    · exact Nat.ne_of_lt (Heap.lt_size r) q'
    · exact q q'
  · have h1 := n' p' hp
    rw [Heap.size_update, Heap.size_push] at h1
    exact h1
end
/-- what is new is tracked -/
theorem Inv.more {X : Cx} {pins : List (Addr × Obj)} {σ : L2.St} {H H' : Hp} {s s' : Shared} (I : Inv X pins σ H s) (kp : ∀ b u, s.heap.get? b = some u → s'.heap.get? b = some u) (ho : s'.os = s.os) (hg : s'.gens = s.gens) (sm : Same H H')
    (nw : ∀ b o, H' b = some o → H b = some o ∨ (s.heap.get? b = none ∧ H b = none ∧ ObjOk X.prog X.w H' s'.heap b o)) : Inv X pins σ H' s' := by
  refine I.call' (ch := []) ho ⟨fun b u q _ _ _ => kp b u q, fun b u q _ _ _ => ⟨u.slots, kp b u q⟩, fun b u q n _ => ?_, fun b u q _ => ⟨u, kp b u q⟩, fun b xs q => sm _ _ q, fun b u xs q => sm _ _ q, fun b ps q => ⟨#[], by rw [sm _ _ q]; simp⟩⟩ (fun b o e => ?_) (by rw [hg]; exact I.bare) (fun _ z => nomatch z)
  · cases e : H' b with
    | none => rfl
    | some o =>
      rcases nw b o e with h | ⟨h, _⟩
      · cases n.symm.trans h
      · cases q.symm.trans h
  · rcases nw b o e with h | ⟨_, _, h⟩
    · exact (I.hok b o h).stay (fun c v _ q => kp c v q) (fun c q => sm _ _ q) fun c xs q => sm _ _ q
    · exact h
/-- pairs laid at these places -/
def layP : List Addr → List (V × V) → Hp → Hp
  | p :: as, u :: r, H => upd (layP as r H) p (.tup [u.1, u.2])
  | _, _, H => H
theorem layP_at : ∀ {as : List Addr} {r : List (V × V)} {H : Hp} {j : Nat} {p : Addr} {u : V × V}, (as.Pairwise fun a b : Nat => a < b) → as[j]? = some p → r[j]? = some u → layP as r H p = some (.tup [u.1, u.2])
  | [], _, _, _, _, _, _, h, _ => by simp at h
  | _ :: _, [], _, _, _, _, _, _, h => by simp at h
  | a :: as, v :: r, H, 0, p, u, _, h1, h2 => by
    cases (show some a = some p from h1)
    cases (show some v = some u from h2)
    exact upd_same
  | a :: as, v :: r, H, j + 1, p, u, w, h1, h2 => by
    obtain ⟨w1, w2⟩ := List.pairwise_cons.mp w
    have h1' : as[j]? = some p := h1
    have ne : p ≠ a := Nat.ne_of_gt (w1 p (List.mem_of_getElem? h1'))
    show upd (layP as r H) a _ p = _
    rw [upd_ne ne]
    exact layP_at w2 h1' h2
theorem layP_some : ∀ {as : List Addr} {r : List (V × V)} {H : Hp} {b : Addr} {o : HO}, layP as r H b = some o → H b = some o ∨ ∃ (j : Nat) (u : V × V), as[j]? = some b ∧ r[j]? = some u ∧ o = .tup [u.1, u.2]
  | [], _, _, _, _, h => .inl h
  | _ :: _, [], _, _, _, h => .inl h
  | a :: as, v :: r, H, b, o, h => by
    have h' : upd (layP as r H) a (.tup [v.1, v.2]) b = some o := h
    by_cases c : b = a
    · rw [c, upd_same] at h'
      cases h'
      exact .inr ⟨0, v, by rw [c]; rfl, rfl, rfl⟩
    · rw [upd_ne c] at h'
      rcases layP_some h' with q | ⟨j, u, q1, q2, q3⟩
      · exact .inl q
      · exact .inr ⟨j + 1, u, q1, q2, q3⟩
theorem layP_same : ∀ {as : List Addr} {r : List (V × V)} {H : Hp}, (∀ p, p ∈ as → H p = none) → Same H (layP as r H)
  | [], _, _, _ => fun _ _ e => e
  | _ :: _, [], _, _ => fun _ _ e => e
  | a :: as, v :: r, H, n => fun b o e => by
    show upd (layP as r H) a _ b = _
    rw [upd_ne (ne_of_none e (n a List.mem_cons_self))]
    exact layP_same (fun p hp => n p (List.mem_cons_of_mem _ hp)) b o e
section
variable {X : Cx}
/-- the pairs of two lists, as they lie in the heap -/
def PairsAt (H : Hp) (xs ys : List V) (as : List Addr) : Prop := ∀ (j : Nat) (p : Addr), as[j]? = some p → ∃ x y, xs[j]? = some x ∧ ys[j]? = some y ∧ H p = some (.tup [x, y])
def tListZip (K : PySem.W.Frag) (ta : TA) : TE := fun σ H Q => ta σ H fun vs H1 => ∃ a b xs ys, vs = [.ref a, .ref b] ∧ SqL K H1 a xs ∧ SqL K H1 b ys ∧
  ∀ (H' : Hp) (q : Addr) (as : List Addr), Same H1 H' → H1 q = none → H' q = some (.lst (as.map V.ref)) → as.length = min xs.length ys.length → (∀ p, p ∈ as → H1 p = none) → PairsAt H' xs ys as → Q (.ref q) H'
theorem pe_listZip {e e2 : Expr} {ta : TA} {p pz q pos : Pos} (hc : X.calm = true) (hgL : Gl X "list") (hmL : X.mg "list" = none) (hgZ : Gl X "zip") (hmZ : X.mg "zip" = none) (ha : PA X [e, e2] ta)
    (hs : starEach [e, e2] X.env = (false, eval e X.env) :: starEach [e2] X.env := by rfl) (hpl : (backTo q (starEach [e2] X.env)).any (·.1) = false := by rfl)
    (na : starEach [.Call (.Name "zip" pz) [e, e2] [] q] X.env = (false, eval (.Call (.Name "zip" pz) [e, e2] [] q) X.env) :: starEach [] X.env := by rfl) :
    PE X (.Call (.Name "list" p) [.Call (.Name "zip" pz) [e, e2] [] q] [] pos) (tListZip X.K ta) := by
  refine ⟨fun pins s σ H Q I h => ?_⟩
  refine Call_ (ld_blt I hgL hmL boot_list (PyProof.Rows.callWith_type1 (args_cons ?_ na) na))
  refine Call_ (ld_blt I hgZ hmZ PyProof.Rows.boot_zip (PyProof.Rows.callWith_type1 (thn (ha.run q pins s σ H _ I h) fun us s1 ⟨vs, H1, I1, r1, q1⟩ => ?_) hs hpl))
  obtain ⟨a, b, xs, ys, ex, hqx, hqy, qq⟩ := q1
  subst ex
  cases r1 with
  | cons r rr =>
    cases rr with
    | cons r' rr =>
      cases rr
      cases r
      cases r'
      obtain ⟨its, rv, p1, z1⟩ := I1.list hqx
      obtain ⟨its2, rv2, p2, z2⟩ := I1.list hqy
      have la : a < s1.heap.objs.size := p1.lt
      have lb : b < s1.heap.objs.size := p2.lt
      refine call_zip_2 p1.isList p2.isList fun h' hz hTI hTO h1 h2 hsz hk => args_nil ?_
      have zn : ZNew h' (s1.heap.objs.size + 4) (s1.heap.objs.size + 2) (s1.heap.objs.size + 3) s1.heap.objs.size (s1.heap.objs.size + 1) a b := ⟨hz, hTI, ⟨_, _, hTO⟩, h1, h2⟩
      have l1 := rv.length
      have l2 := rv2.length
      have m1 : a < h'.objs.size := Nat.lt_of_lt_of_le la (by rw [hsz]; exact Nat.le_add_right _ _)
      have m2 : b < h'.objs.size := Nat.lt_of_lt_of_le lb (by rw [hsz]; exact Nat.le_add_right _ _)
      refine zl_call (s := { s1 with heap := h' }) (I1.ok.hd hc) (PySem.W.ktu_apart s1.heap.objs.size a b la lb) zn (p1.isList.at fun o e => hk _ _ e) (p2.isList.at fun o e => hk _ _ e) m1 m2 rfl (by rw [List.size_toArray, List.size_toArray]; omega) fun s' c' as k g o eL ll nn ww pp => ?_
      rw [List.size_toArray, List.size_toArray, l1.symm, l2.symm] at ll
      have kp : ∀ c u, s1.heap.get? c = some u → s'.heap.get? c = some u := fun c u e => k c u (fun q => by
        have hlt : c < s1.heap.objs.size := Heap.lt_size e
        simp only [List.mem_cons, List.not_mem_nil, or_false] at q
        rcases q with q | q | q | q
        · exact Nat.ne_of_lt (Nat.lt_of_lt_of_le hlt (Nat.le_add_right _ _)) q
        · exact Nat.ne_of_lt (Nat.lt_of_lt_of_le hlt (Nat.le_add_right _ _)) q
        · exact Nat.ne_of_lt hlt q
        · exact Nat.ne_of_lt (Nat.lt_of_lt_of_le hlt (Nat.le_add_right _ _)) q) (hk c u e)
      have big : s1.heap.objs.size ≤ h'.objs.size := by rw [hsz]; exact Nat.le_add_right _ _
      have fr : ∀ c, s1.heap.objs.size ≤ c → s1.heap.get? c = none ∧ H1 c = none := fun c hc' => ⟨by
        cases e : s1.heap.get? c with
        | none => rfl
        | some u => exact absurd (Heap.lt_size e) (Nat.not_lt.mpr hc'), I1.hok.fresh hc'⟩
      -- what lies where
      have old : ∀ p, p ∈ as → s1.heap.get? p = none ∧ H1 p = none := fun p hp => fr p (Nat.le_trans big (Nat.le_of_lt (nn p hp)))
      have hD := fr h'.objs.size big
      have nD : ∀ p, p ∈ as → p ≠ h'.objs.size := fun p hp => Nat.ne_of_gt (nn p hp)
      have sL : Same H1 (layP as (xs.zip ys) H1) := layP_same fun p hp => (old p hp).2
      have sm : Same H1 (upd (layP as (xs.zip ys) H1) h'.objs.size (.lst (as.map V.ref))) := fun c u e => by
        rw [upd_ne (ne_of_none e hD.2)]
        exact sL _ _ e
      have zl : (xs.zip ys).length = as.length := by rw [List.length_zip, ll]
      have at_ : ∀ (j : Nat) (p : Addr), as[j]? = some p → ∃ x y, xs[j]? = some x ∧ ys[j]? = some y ∧ (upd (layP as (xs.zip ys) H1) h'.objs.size (.lst (as.map V.ref))) p = some (.tup [x, y]) := fun j p hj => by
        have hlt := (List.getElem?_eq_some_iff.mp hj).1
        obtain ⟨u, hu⟩ : ∃ u, (xs.zip ys)[j]? = some u := ⟨_, List.getElem?_eq_getElem (by omega)⟩
        obtain ⟨u1, u2⟩ := u
        obtain ⟨g1, g2⟩ := List.getElem?_zip_eq_some.mp hu
        refine ⟨u1, u2, g1, g2, ?_⟩
        rw [upd_ne (nD p (List.mem_of_getElem? hj))]
        exact layP_at ww hj hu
      have I2 : Inv X pins σ (upd (layP as (xs.zip ys) H1) h'.objs.size (.lst (as.map V.ref))) s' := by
        refine Inv.more I1 kp o g sm fun c u e => ?_
        by_cases q : c = h'.objs.size
        · rw [q, upd_same] at e
          cases e
          refine .inr ⟨by rw [q]; exact hD.1, by rw [q]; exact hD.2, ?_⟩
          rw [q]
          refine ⟨by rw [List.length_map]; omega, as.map Value.ref, c', ?_, eL⟩
          have key : ∀ l : List Addr, Vals (l.map V.ref) (l.map Value.ref) := fun l => by
            induction l with
            | nil => exact .nil
            | cons x r ih => exact .cons rfl ih
          exact key as
        · rw [upd_ne q] at e
          rcases layP_some e with e | ⟨j, u, e1, e2, e3⟩
          · exact .inl e
          · have mem := List.mem_of_getElem? e1
            refine .inr ⟨(old c mem).1, (old c mem).2, ?_⟩
            rw [e3]
            obtain ⟨x, y, f1, f2, f3⟩ := pp j c e1
            obtain ⟨g1, g2⟩ := List.getElem?_zip_eq_some.mp (show (xs.zip ys)[j]? = some (u.1, u.2) from e2)
            obtain ⟨v1, h1, r1⟩ := rv.get g1
            obtain ⟨v2, h2, r2⟩ := rv2.get g2
            have k1 : v1 = x := by
              rw [List.getElem?_toArray] at f1
              exact Option.some.inj (h1.symm.trans f1)
            have k2 : v2 = y := by
              rw [List.getElem?_toArray] at f2
              exact Option.some.inj (h2.symm.trans f2)
            rw [k1] at r1
            rw [k2] at r2
            exact ⟨by show 2 ≤ sizeLine; decide, [x, y], .cons r1 (.cons r2 .nil), ⟨_, f3, rfl, _, rfl⟩⟩
      exact ⟨.ref h'.objs.size, _, I2, rfl, qq _ _ as sm hD.2 upd_same ll (fun p hp => (old p hp).2) at_⟩
end
end HSP
namespace HSP
open PySem PySem.Spec PyProof.Rows L2
def riseOk (gs : List Int) (m : Nat) : Bool := decide (gs.length = m) && (List.range (gs.length - 1)).all fun i => decide (valAt gs i ≤ valAt gs (i + 1))
def findL (bs : List Int) (v : Int) : Option Nat := if valAt bs 0 < v ∨ valAt bs (bs.length - 1) > v then none else (List.range bs.length).find? fun k => decide (valAt bs k = v)
def goalTree (ns gs : List Int) : Option Tr := if riseOk gs ns.length = true then treeFor (valAt ns) (valAt gs) ns.length else none
/-- a tree, or "no" -/
def TreeOr (H : Hp) (v : V) : Option Tr → Prop
  | none => v = .str "no"
  | some t => TrAt H v t
theorem cut_both (xs : List V) (a b : Nat) (hb : b ≤ xs.length) (hab : a ≤ b) : cutV xs (some (a : Int)) (some (b : Int)) = (xs.drop a).take (b - a) := by
  unfold cutV
  rw [HT.sIx_nat, HT.sIx_nat, Nat.min_eq_left hb, Nat.min_eq_left (Nat.le_trans hab hb)]
theorem valAt_cut {ns : List Int} {a b k : Nat} (h : a + k < b) : valAt ((ns.drop a).take (b - a)) k = valAt ns (a + k) := by
  unfold valAt
  rw [List.getD_eq_getElem?_getD, List.getD_eq_getElem?_getD, List.getElem?_take, if_pos (by omega), List.getElem?_drop]
theorem find_same2 {α : Type} {p q : α → Bool} : ∀ {l : List α}, (∀ x, x ∈ l → p x = q x) → l.find? p = l.find? q
  | [], _ => rfl
  | x :: r, h => by
    rw [List.find?_cons, List.find?_cons, h x List.mem_cons_self, find_same2 fun y hy => h y (List.mem_cons_of_mem _ hy)]
theorem findL_in {ns : List Int} {r : Nat → Int} {a b : Nat} (hab : a < b) (hb : b ≤ ns.length) : findL ((ns.drop a).take (b - a)) (r a) = findIn (valAt ns) r a b := by
  have len : ((ns.drop a).take (b - a)).length = b - a := by
    rw [List.length_take, List.length_drop]
    omega
  unfold findL findIn
  rw [len, valAt_cut (by omega), valAt_cut (by omega), Nat.add_zero, show a + (b - a - 1) = b - 1 by omega]
  split
  · rfl
  · refine find_same2 fun k hk => ?_
    rw [valAt_cut (by have := List.mem_range.mp hk; omega)]
theorem chain_get {r : Nat → Int} {n : Nat} : ∀ {ps : List (Nat × Nat)} {a i : Nat} {u : Nat × Nat}, Chain r a ps n → ps[i]? = some u → u.1 < u.2 ∧ u.2 ≤ n
  | [], _, _, _, _, h => by simp at h
  | (x, y) :: rest, a, 0, u, c, h => by
    cases (show some (x, y) = some u from h)
    obtain ⟨rfl, c1, c2, _⟩ := c
    exact ⟨c1, c2⟩
  | (x, y) :: rest, a, i + 1, u, c, h => chain_get c.2.2.2.2.2 h
theorem pairs_len (r : Nat → Int) (n : Nat) : (pairsOf r n).length ≤ n := by
  unfold pairsOf firstsOf
  rw [List.length_zip]
  have := List.length_filter_le (isFirst r) (List.range n)
  rw [List.length_range] at this
  omega
section
variable {P : Program} {w : World} {K : PySem.W.Frag} {mg : Str → Option Value} {base : Heap}
/-! ### is_rising_list, of numbers -/
def spRiseL : Sp := fun vs H Q _ => ∃ (G : Addr) (gs : List Int) (m : Nat), vs = [.ref G, natV m] ∧ H G = some (.lst (gs.map V.int)) ∧ gs.length ≤ 900 ∧ ∀ H', Same H H' → Q (.bl (riseOk gs m)) H'
/-! ### blocks_of -/
def spBlocks : Sp := fun vs H Q _ => ∃ (G : Addr) (gs : List Int), vs = [.ref G] ∧ H G = some (.lst (gs.map V.int)) ∧ gs.length ≤ 900 ∧ ∀ (H' : Hp) (q : Addr) (as : List Addr), Same H H' → H q = none → H' q = some (.lst (as.map V.ref)) → Paired (fun p (u : Nat × Nat) => H' p = some (.tup [natV u.1, natV u.2])) as (pairsOf (valAt gs) gs.length) → Q (.ref q) H'
/-! ### found_in -/
def spFoundIn : Sp := fun vs H Q _ => ∃ (b : Addr) (bs : List Int) (v : Int), vs = [.ref b, .int v] ∧ H b = some (.lst (bs.map V.int)) ∧ 0 < bs.length ∧ Q (optNV (findL bs v)) H
theorem last_ints {bs : List Int} (h : 0 < bs.length) : atI (bs.map V.int) (-1) = some (.int (valAt bs (bs.length - 1))) := by
  rcases List.eq_nil_or_concat bs with e | ⟨s0, z, e⟩
  · rw [e] at h
    exact absurd h (Nat.lt_irrefl 0)
  · rw [List.concat_eq_append] at e
    rw [e, List.map_append]
    refine (atI_last _ _).trans ?_
    unfold valAt
    rw [List.length_append, List.length_singleton, Nat.add_sub_cancel, List.getD_eq_getElem?_getD, List.getElem?_append_right (Nat.le_refl _), Nat.sub_self]
    rfl
/-! ### passed_by -/
def spPassed : Sp := fun vs H Q _ => ∃ (l h : Nat), vs = [natV l, natV h] ∧ l ≤ 64 ∧ h ≤ 64 ∧ ∀ (H' : Hp) (v : V), Same H H' → TrAt H' v (passT l h) → Q v H'
end
end HSP
namespace HSP
open PySem PySem.Spec PyProof.Rows L2
theorem parts_cons {g r : Nat → Int} {a b low : Nat} {rest : List (Nat × Nat)} : partsFrom g r ((a, b) :: rest) low = match findIn g r a b with
    | none => none
    | some p => (partsFrom g r rest (b - a - p - 1)).map (passT low p :: ·) := rfl
theorem drop_at {α : Type} {l : List α} {i : Nat} {x : α} (h : l[i]? = some x) : l.drop i = x :: l.drop (i + 1) := by
  obtain ⟨hi, e⟩ := List.getElem?_eq_some_iff.mp h
  rw [List.drop_eq_getElem_cons hi, e]
theorem rise_up {gs : List Int} {m : Nat} (h : riseOk gs m = true) : gs.length = m ∧ ∀ i, i + 1 < gs.length → valAt gs i ≤ valAt gs (i + 1) := by
  unfold riseOk at h
  obtain ⟨h1, h2⟩ := Bool.and_eq_true_iff.mp h
  exact ⟨of_decide_eq_true h1, fun i hi => of_decide_eq_true (List.all_eq_true.mp h2 i (List.mem_range.mpr (by omega)))⟩
section
variable {P : Program} {w : World} {K : PySem.W.Frag} {mg : Str → Option Value} {base : Heap}
def spTreeFor : Sp := fun vs H Q _ => ∃ (a G : Addr) (ns gs : List Int), vs = [.ref a, .ref G] ∧ H a = some (.lst (ns.map V.int)) ∧ H G = some (.lst (gs.map V.int)) ∧ ns.length ≤ 64 ∧ gs.length ≤ 900 ∧ ∀ (H' : Hp) (v : V), Same H H' → TreeOr H' v (goalTree ns gs) → Q v H'
end
end HSP
namespace HSP
open PySem PySem.Spec PyProof.Rows L2
theorem DrAt.neOf {H : Hp} {p q : Addr} {k : Nat} {ns : List Int} (d : DrAt H p k) (e : H q = some (.lst (ns.map V.int))) : q ≠ p := fun z => by
  obtain ⟨n, j, b, e2, _⟩ := d
  rw [z, e2] at e
  have h := HO.lst.inj (Option.some.inj e)
  match ns, h with
  | [], h => exact absurd (congrArg List.length h) (by simp)
  | [_], h => exact absurd (congrArg List.length h) (by simp)
  | [_, _], h => exact absurd (congrArg List.length h) (by simp)
  | _ :: _ :: z :: _, h => exact absurd (congrArg (fun l => l[2]?) h) (by simp)
theorem DrAt.put {H : Hp} {p q : Addr} {k : Nat} {o : HO} (d : DrAt H p k) (n : q ≠ p) : DrAt (upd H q o) p k := by
  obtain ⟨z, j, b, e, l⟩ := d
  exact ⟨z, j, b, by rw [upd_ne n.symm]; exact e, l⟩
/-- a place that was not tracked at first may be written -/
theorem Keep.put {p q : Addr} {H H1 : Hp} {o : HO} (h : H q = none) (k : Keep p H H1) : Keep p H (upd H1 q o) := fun b u n e => by
  rw [upd_ne (ne_of_none e h)]
  exact k b u n e
/-- a value drawn is near 0 -/
def Near (ns : List Int) : Prop := ∀ v, v ∈ ns → -1000001 ≤ v ∧ v ≤ 1000001
theorem Near.nil : Near [] := fun _ h => by cases h
theorem Near.snoc {ns : List Int} {v : Int} (h : Near ns) (h1 : -1000001 ≤ v ∧ v ≤ 1000001) : Near (ns ++ [v]) := fun x hx => by
  rcases List.mem_append.mp hx with z | z
  · exact h x z
  · rw [List.mem_singleton.mp z]
    exact h1
theorem Near.set {ns : List Int} {v : Int} {i : Nat} (h : Near ns) (h1 : -1000001 ≤ v ∧ v ≤ 1000001) : Near (ns.set i v) := fun x hx => by
  rcases List.mem_or_eq_of_mem_set hx with z | z
  · exact h x z
  · rw [z]
    exact h1
theorem near_of {r sp : Int} (h0 : 0 ≤ sp) (h1 : sp ≤ 1000000) : -1000001 ≤ r % (sp + 1) - sp / 2 ∧ r % (sp + 1) - sp / 2 ≤ 1000001 := by
  have a1 := Int.emod_nonneg r (show sp + 1 ≠ 0 by omega)
  have a2 := Int.emod_lt_of_pos r (show (0 : Int) < sp + 1 by omega)
  omega
end HSP
namespace HSP
open PySem PySem.Spec PyProof.Rows L2
/-! ## what the laws' right sides share -/
theorem Mid.of {ns : List Int} (h : Near ns) : Mid ns := fun v hv => by
  have := h v hv
  omega
def spRight : Sp := fun vs H Q _ => ∃ (p : Addr) (k : Nat), vs = [.ref p] ∧ DrAt H p k ∧ k ≤ 1000 ∧ ∀ H' : Hp, Keep p H H' → DrAt H' p (k + 200) → Q (.bl true) H'
end HSP
namespace HSP
open PySem PySem.Spec PyProof.Rows L2
section
variable {P : Program} {w : World} {K : PySem.W.Frag} {mg : Str → Option Value} {base : Heap}
/-! ### _law_deep, _law_is_shape -/
def spDeep (n : Nat) : Sp := fun vs H Q _ => ∃ (v : V) (t : Tr), vs = [v] ∧ TrAt H v t ∧ t.ht < n ∧ Q (natV t.ht) H
def spIsShape (n : Nat) : Sp := fun vs H Q _ => ∃ (v : V) (t : Tr), vs = [v] ∧ TrAt H v t ∧ t.ht < n ∧ Q (.bl true) H
end
end HSP
namespace HSP
open PySem PySem.Spec PyProof.Rows L2
theorem cut_ints (gs : List Int) (lo hi : Option Int) : ∃ hs : List Int, cutV (gs.map V.int) lo hi = hs.map V.int ∧ hs.length ≤ gs.length := by
  refine ⟨(gs.drop (HT.sIx (gs.map V.int).length 0 lo)).take (HT.sIx (gs.map V.int).length (gs.map V.int).length hi - HT.sIx (gs.map V.int).length 0 lo), ?_, ?_⟩
  · unfold cutV
    rw [List.map_take, List.map_drop]
  · rw [List.length_take, List.length_drop]
    omega
section
variable {P : Program} {w : World} {K : PySem.W.Frag} {mg : Str → Option Value} {base : Heap}
/-! ### _law_cut -/
def spCut (n : Nat) : Sp := fun vs H Q _ => ∃ (v : V) (t : Tr) (a : Addr) (ns : List Int), vs = [v, .ref a] ∧ TrAt H v t ∧ t.ht < n ∧ t.size ≤ 300 ∧ H a = some (.lst (ns.map V.int)) ∧ ns.length = t.size ∧ ∀ (H' : Hp) (q : Addr), Same H H' → H q = none → H' q = some (.lst ((cutT t ns).map V.int)) → Q (.ref q) H'
end
end HSP
namespace HSP
open PySem PySem.Spec PyProof.Rows L2
theorem room65d {k : Nat} {A : Around} (r : Room k A) : A.units + 65 < cLine := by
  have := r.un
  omega
theorem DrAt.neRef {H : Hp} {p a : Addr} {k : Nat} {rs : List Addr} (d : DrAt H p k) (e : H a = some (.lst (rs.map V.ref))) : a ≠ p := fun z => by
  obtain ⟨n, j, b, e2, _⟩ := d
  rw [z, e2] at e
  have h := HO.lst.inj (Option.some.inj e)
  cases rs with
  | nil => cases h
  | cons _ _ => cases h
/-- a list of whole numbers -/
def RowL (H : Hp) (z : V) : Prop := ∃ (r : Addr) (is : List Int), z = .ref r ∧ H r = some (.lst (is.map V.int)) ∧ is.length ≤ 60 ∧ Tame is
theorem RowL.same {H H' : Hp} {z : V} (s : Same H H') (h : RowL H z) : RowL H' z := by
  obtain ⟨r, is, e, h1, h2⟩ := h
  exact ⟨r, is, e, s _ _ h1, h2⟩
/-- a row, whatever it is -/
def RowG (K : PySem.W.Frag) (H : Hp) (z : V) : Prop := ∃ (k : Option (List (Option Int))) (d : PyData), RowAt K H z k ∧ rowLen k ≤ 60 ∧ DpE K H z d ∧ okD d = true ∧ ndD d ≤ 61 ∧ d.depth ≤ 3
theorem RowG.same {K : PySem.W.Frag} {H H' : Hp} {z : V} (s : Same H H') (h : RowG K H z) : RowG K H' z := by
  obtain ⟨k, d, h1, h2, h3, h4⟩ := h
  exact ⟨k, d, h1.same s, h2, DpE.same s d z h3, h4⟩
def ThG (K : PySem.W.Frag) (H : Hp) (y : V) : Prop := ∃ (th : Option (List (Option (List (Option Int))))) (d : PyData), ThingAt K H y th ∧ ThSmall th ∧ DpE K H y d ∧ okD d = true ∧ ndD d ≤ 10000 ∧ d.depth ≤ 4
theorem ThG.same {K : PySem.W.Frag} {H H' : Hp} {z : V} (s : Same H H') (h : ThG K H z) : ThG K H' z := by
  obtain ⟨k, d, h1, h2, h3, h4⟩ := h
  exact ⟨k, d, h1.same s, h2, DpE.same s d z h3, h4⟩
theorem ints_okD {is : List Int} (t : Tame is) : okD (intsD is) = true ∧ ndD (intsD is) = 1 + is.length ∧ (intsD is).depth ≤ 2 := by
  unfold intsD
  simp only [okD, ndD, PyData.depth]
  refine ⟨okDs_all fun x hx => ?_, ?_, ?_⟩
  · obtain ⟨i, hi, rfl⟩ := List.mem_map.mp hx
    simp only [okD]
    exact decide_eq_true (t i hi)
  · have key : ∀ l : List Int, ndDs (l.map PyData.int) = l.length := fun l => by
      induction l with
      | nil => simp [ndDs]
      | cons i r ih => simp only [List.map_cons, ndDs, ndD, ih, List.length_cons]; omega
    rw [key]
  · have := ints_deep is
    omega
theorem ints_items {K : PySem.W.Frag} {H : Hp} : ∀ is : List Int, Paired (ItemAt K H) (is.map V.int) (is.map some)
  | [] => .nil
  | i :: r => .cons rfl (ints_items r)
theorem RowL.g {K : PySem.W.Frag} {H : Hp} {z : V} (h : RowL H z) : RowG K H z := by
  obtain ⟨r, is, rfl, e, l, t⟩ := h
  obtain ⟨h1, h2, h3⟩ := ints_okD t
  exact ⟨some (is.map some), intsD is, ⟨r, _, rfl, e, ints_items is⟩, by show (is.map some).length ≤ 60; rw [List.length_map]; exact l, DpE.of _ _ (.lst (.of e) (ints_dpAll is)), h1, by omega, by omega⟩
theorem rows_made {K : PySem.W.Frag} {H : Hp} : ∀ {zs : List V}, (∀ z, z ∈ zs → RowG K H z) → ∃ (ks : List (Option (List (Option Int)))) (ds : List PyData), Paired (RowAt K H) zs ks ∧ (∀ k, k ∈ ks → rowLen k ≤ 60) ∧ DpEs K H zs ds ∧ okDs ds = true ∧ ndDs ds ≤ 61 * zs.length ∧ PyData.depthAll ds ≤ 3
  | [], _ => ⟨[], [], .nil, fun k h => (by cases h), .nil', by simp [okDs], by simp [ndDs], by simp [PyData.depthAll]⟩
  | z :: zs, h => by
    obtain ⟨ks, ds, h1, h2, h3, h4, h5, h6⟩ := rows_made (zs := zs) fun y hy => h y (List.mem_cons_of_mem _ hy)
    obtain ⟨k, d, g1, g2, g3, g4, g5, g6⟩ := h z List.mem_cons_self
    refine ⟨k :: ks, d :: ds, .cons g1 h1, fun k2 hk2 => ?_, .cons' g3 h3, by simp only [okDs, g4, h4, Bool.and_self], ?_, ?_⟩
    · rcases List.mem_cons.mp hk2 with e | e
      · rw [e]; exact g2
      · exact h2 k2 e
    · simp only [ndDs, List.length_cons]
      omega
    · simp only [PyData.depthAll]
      omega
theorem thing_of {K : PySem.W.Frag} {H : Hp} {R : Addr} {zs : List V} (e : H R = some (.lst zs)) (h : ∀ z, z ∈ zs → RowG K H z) (l : zs.length ≤ 100) : ThG K H (.ref R) := by
  obtain ⟨ks, ds, h1, h2, h3, h4, h5, h6⟩ := rows_made h
  have lk := Paired.length h1
  refine ⟨some ks, .list ds, ⟨R, zs, rfl, e, h1⟩, ⟨by omega, fun k hk => by have := h2 k hk; omega⟩, .lst' (.of e) h3, by simp only [okD]; exact h4, by simp only [ndD]; omega, by simp only [PyData.depth]; omega⟩
section
variable {P : Program} {w : World} {K : PySem.W.Frag} {mg : Str → Option Value} {base : Heap}
theorem not_l {H : Hp} {y : V} {n : String} (ty : TyX K H y (.type n)) (k : PySem.W.kitOne K (.type n) (.type "list") = some false) : NotL K H y := ⟨_, ty, k⟩
theorem notL_non {H : Hp} : NotL K H .non := not_l (.base .non) (kit_ty (by decide +kernel))
theorem notL_int {H : Hp} {i : Int} : NotL K H (.int i) := not_l (.base (.int i)) (kit_ty (by decide +kernel))
theorem notL_bl {H : Hp} {b : Bool} : NotL K H (.bl b) := not_l (.base (.bl b)) (kit_ty (by decide +kernel))
theorem notL_str {H : Hp} {x : Str} : NotL K H (.str x) := not_l (.base (.str x)) (kit_ty (by decide +kernel))
theorem notL_tup {H : Hp} {a : Addr} {xs : List V} (e : H a = some (.tup xs)) : NotL K H (.ref a) := not_l (.base (.tup e)) (kit_ty (by decide +kernel))
theorem notL_dict {H : Hp} {a : Addr} {kvs : List (Key × V)} (e : H a = some (.dK kvs)) : NotL K H (.ref a) := not_l (.base (.dK e)) (kit_ty (by decide +kernel))
theorem wh_non {H : Hp} : WholeV K H .non false := ⟨.type "NoneType", false, false, .base .non, kit_ty (by decide +kernel), kit_ty (by decide +kernel), rfl⟩
theorem wh_lst {H : Hp} {a : Addr} {xs : List V} (e : H a = some (.lst xs)) : WholeV K H (.ref a) false := ⟨.type "list", false, false, .base (.lst e), kit_ty (by decide +kernel), kit_ty (by decide +kernel), rfl⟩
theorem rg_not {H : Hp} {z : V} {d : PyData} (h : NotL K H z) (dp : DpE K H z d) (o : okD d = true) (n : ndD d ≤ 61) (p : d.depth ≤ 3) : RowG K H z := ⟨none, d, h, Nat.zero_le _, dp, o, n, p⟩
theorem rg_lst {H : Hp} {a : Addr} {xs : List V} {is : List (Option Int)} {ds : List PyData} (e : H a = some (.lst xs)) (p : Paired (ItemAt K H) xs is) (l : is.length ≤ 60) (dp : DpEs K H xs ds) (o : okDs ds = true) (n : ndDs ds ≤ 60) (q : PyData.depthAll ds ≤ 2) : RowG K H (.ref a) :=
  ⟨some is, .list ds, ⟨a, xs, rfl, e, p⟩, l, .lst' (.of e) dp, by simp only [okD]; exact o, by simp only [ndD]; omega, by simp only [PyData.depth]; omega⟩
/-! ### what does not stand at some places -/
def rs (A : List Addr) (H : Hp) : Hp := fun b => if b ∈ A then none else H b
theorem rs_up {A : List Addr} {H : Hp} {b : Addr} {o : HO} (e : rs A H b = some o) : b ∉ A ∧ H b = some o := by
  unfold rs at e
  by_cases c : b ∈ A
  · rw [if_pos c] at e
    cases e
  · rw [if_neg c] at e
    exact ⟨c, e⟩
theorem rs_in {A : List Addr} {H : Hp} {b : Addr} {o : HO} (n : b ∉ A) (e : H b = some o) : rs A H b = some o := by
  unfold rs
  rw [if_neg n]
  exact e
theorem rsS {A : List Addr} {H H' : Hp} (s : Same H H') : Same (rs A H) (rs A H') := fun b o e => by
  obtain ⟨h1, h2⟩ := rs_up e
  exact rs_in h1 (s _ _ h2)
theorem rsK {A : List Addr} {H H' : Hp} {p : Addr} (k : Keep p H H') (h : p ∈ A) : Same (rs A H) (rs A H') := fun b o e => by
  obtain ⟨h1, h2⟩ := rs_up e
  exact rs_in h1 (k _ _ (fun z => h1 (by rw [z]; exact h)) h2)
theorem rs_sub {A : List Addr} {H : Hp} : Same (rs A H) H := fun b o e => (rs_up e).2
def Trk (A : List Addr) (H : Hp) : Prop := ∀ a, a ∈ A → H a ≠ none
theorem Trk.same {A : List Addr} {H H' : Hp} (t : Trk A H) (s : Same H H') : Trk A H' := fun a ha z => by
  cases e : H a with
  | none => exact t a ha e
  | some o =>
    rw [s _ _ e] at z
    cases z
theorem Trk.out {A : List Addr} {H : Hp} (t : Trk A H) {v : Addr} (n : H v = none) : v ∉ A := fun h => t v h n
theorem rs_new {A : List Addr} {H Hx : Hp} (t : Trk A H) {v : Addr} {o : HO} (n : H v = none) (e : Hx v = some o) : rs A Hx v = some o := rs_in (t.out n) e
/-! ### _law_bent -/
theorem sc_law_bent : FnScope n_law_bent ["draws", "rows", "nodes"] (defScope s_law_bent) := ⟨rfl, rfl, rfl, by decide +kernel, rfl, by decide +kernel, by decide +kernel⟩
def spBent (K : PySem.W.Frag) : Sp := fun vs H Q _ => ∃ (p R : Addr) (n k : Nat) (rs0 : List Addr) (rws : List (List Int)) (A0 : List Addr), vs = [.ref p, .ref R, natV n] ∧ n ≤ 20 ∧ Trk A0 H ∧ DrAt H p k ∧ k ≤ 90000 ∧ H R = some (.lst (rs0.map V.ref)) ∧ Paired (fun r (is : List Int) => H r = some (.lst (is.map V.int))) rs0 rws ∧ rws.length ≤ 20 ∧ (∀ r, r ∈ rws → r ≠ [] ∧ r.length ≤ 20 ∧ Tame r) ∧
  ∀ (H' : Hp) (v : V), Keep p H H' → DrAt H' p (k + 1) → ThG K (rs A0 H') v → Q v H'
theorem tame_app {a b : List Int} (h1 : Tame a) (h2 : Tame b) : Tame (a ++ b) := fun v hv => by
  rcases List.mem_append.mp hv with z | z
  · exact h1 v z
  · exact h2 v z
theorem tame_sub {a b : List Int} (h1 : Tame a) (h : ∀ x, x ∈ b → x ∈ a) : Tame b := fun v hv => h1 v (h v hv)
theorem tame_cut {gs : List Int} (t : Tame gs) (lo hi : Option Int) : ∃ hs : List Int, cutV (gs.map V.int) lo hi = hs.map V.int ∧ hs.length ≤ gs.length ∧ Tame hs := by
  refine ⟨(gs.drop (HT.sIx (gs.map V.int).length 0 lo)).take (HT.sIx (gs.map V.int).length (gs.map V.int).length hi - HT.sIx (gs.map V.int).length 0 lo), ?_, ?_, tame_sub t fun x hx => List.mem_of_mem_drop (List.mem_of_mem_take hx)⟩
  · unfold cutV
    rw [List.map_take, List.map_drop]
  · rw [List.length_take, List.length_drop]
    omega
theorem tame_rep {is : List Int} (t : Tame is) : ∀ k : Nat, ∃ js : List Int, (List.replicate k (is.map V.int)).flatten = js.map V.int ∧ js.length = k * is.length ∧ Tame js
  | 0 => ⟨[], rfl, by simp, fun v h => (by cases h)⟩
  | k + 1 => by
    obtain ⟨js, e, l, tj⟩ := tame_rep t k
    refine ⟨is ++ js, by rw [List.replicate_succ, List.flatten_cons, e, List.map_append], by rw [List.length_append, l, Nat.succ_mul]; omega, tame_app t tj⟩
/-- a list of rows of whole numbers -/
def RowsL (H : Hp) (c : Nat) (z : V) : Prop := ∃ (r : Addr) (zs : List V), z = .ref r ∧ H r = some (.lst zs) ∧ zs.length ≤ c ∧ ∀ y, y ∈ zs → RowL H y
theorem RowsL.same {H H' : Hp} {c : Nat} {z : V} (s : Same H H') (h : RowsL H c z) : RowsL H' c z := by
  obtain ⟨r, zs, e, h1, h2, h3⟩ := h
  exact ⟨r, zs, e, s _ _ h1, h2, fun y hy => (h3 y hy).same s⟩
theorem RowsL.g {H : Hp} {c : Nat} {z : V} (h : RowsL H c z) (l : c ≤ 100) : ThG K H z := by
  obtain ⟨r, zs, rfl, h1, h2, h3⟩ := h
  exact thing_of h1 (fun y hy => (h3 y hy).g) (by omega)
theorem cat_le {xs zs : List V} (h1 : xs.length ≤ 200) (h2 : zs.length ≤ 200) : xs.length + zs.length ≤ sizeLine := by
  show _ ≤ 16777216
  omega
set_option maxHeartbeats 4000000 in
theorem ok_bent (B : Bl mg) (N : Df P w K mg base "_law_next" 1 ["draws"] spNext) (a : At K mg "_law_bent" s_law_bent) : Df P w K mg base "_law_bent" 2 ["draws", "rows", "nodes"] (spBent K) := by
  refine Df.mk' a sc_law_bent (fun vs H Q E h => ?_) (fun _ _ _ _ _ _ us hl => match us, hl with | [_, _, _], _ => rfl) (fun f cdv A outer s H vs Q E hr h => ?_)
  · obtain ⟨_, _, _, _, _, _, _, rfl, _⟩ := h
    rfl
  obtain ⟨p, R, n, k, rs0, rws, A0, rfl, hn, tk, hd, hk, eR, pR, lrw, okr, q⟩ := h
  have zero : 0 ≤ sizeLine := by show 0 ≤ sizeLine; decide
  have one : 1 ≤ sizeLine := by show 1 ≤ sizeLine; decide
  have two : 2 ≤ sizeLine := by show 2 ≤ sizeLine; decide
  have three : 3 ≤ sizeLine := by show 3 ≤ sizeLine; decide
  refine ⟨_, (pss_cons (ps_set (i := 3) sc_law_bent.nd rfl (.inl rfl) (pe_df N hr (pa_cons (pv 0) pa_nil)))
 (pss_cons (ps_set (i := 5) sc_law_bent.nd rfl (.inr rfl) (pe_lc (own := [("row", 4)]) (g := (gName 4)) (tt := tYes) (by rfl) sc_law_bent.nd (pi_list (pv 1)) (blkOk_by (N := n_law_bent) (sc := defScope s_law_bent) (by decide +kernel)) (fun _ _ _ _ _ => (pg_name (i := 4) sc_law_bent.nd rfl (.inl rfl))) (fun _ _ _ _ _ => pts_nil) (fun _ _ _ _ _ => (pe_callTy (show CallR _ _ (fun xs H Q => ∃ p ys, xs = [V.ref p] ∧ (SqL K H p ys ∨ SqT K H p ys) ∧ ∀ l, H l = none → Q (.ref l) (upd H l (.lst ys))) from call_list_of) (by rfl) B.list (by decide +kernel) (pa_cons (pv 4) pa_nil)))))
 (pss_cons (ps_set (i := 6) sc_law_bent.nd rfl (.inl rfl) (pe_lst (pa_cons pe_non (pa_cons (pe_lst pa_nil) (pa_cons (pe_tup (pa_cons pe_int pa_nil)) (pa_cons pe_str (pa_cons (pe_lst (pa_cons pe_bl pa_nil)) (pa_cons (pe_lst (pa_cons pe_int (pa_cons pe_non pa_nil))) (pa_cons (pe_lst (pa_cons (pv 2) pa_nil)) (pa_cons (pe_lst (pa_cons (pe_un un_neg pe_int) pa_nil)) (pa_cons (pe_lst (pa_cons (pe_lst (pa_cons pe_int pa_nil)) pa_nil)) (pa_cons pe_dnewK pa_nil))))))))))))
 (pss_cons (ps_if (PW.pt (pw_or (pt_cmpR (op_eqN (Nat.lt_of_succ_lt (hu_of hr))) (pv 5) (pe_lst pa_nil) (nomark _)) (pw_or1 (pt_cmpR op_eq (pe_op op_mod (pe_callTy call_int1 (by rfl) B.int (by decide +kernel) (pa_cons (pv 3) pa_nil)) pe_int) pe_int (nomark _))))) (pss_one (ps_ret (pe_op op_cat (pv 5) (pe_lst (pa_cons (pe_ix ix_list (pv 6) (pe_op op_mod (pe_callTy call_int1 (by rfl) B.int (by decide +kernel) (pa_cons (pe_op op_fdiv (pv 3) pe_int) pa_nil)) pe_int) (fun _ _ => rfl)) pa_nil))))) pss_nil)
 (pss_cons (ps_set (i := 7) sc_law_bent.nd rfl (.inl rfl) (pe_op op_mod (pe_callTy call_int1 (by rfl) B.int (by decide +kernel) (pa_cons (pe_op op_fdiv (pv 3) pe_int) pa_nil)) (pe_callB call_len_seq (by rfl) B.len PySem.boot_len (pa_cons (pv 5) pa_nil))))
 (pss_cons (ps_set (i := 8) sc_law_bent.nd rfl (.inl rfl) (pe_op op_mod (pe_callTy call_int1 (by rfl) B.int (by decide +kernel) (pa_cons (pe_op op_fdiv (pv 3) pe_int) pa_nil)) (pe_callB call_len_seq (by rfl) B.len PySem.boot_len (pa_cons (pe_ix (show IxR _ (rIxL K) from ix_list) (pv 5) (pv 7) (fun _ _ => rfl)) pa_nil))))
 (pss_cons (ps_set (i := 9) sc_law_bent.nd rfl (.inr rfl) (pe_op op_mod (pe_callTy call_int1 (by rfl) B.int (by decide +kernel) (pa_cons (pe_op op_fdiv (pv 3) pe_int) pa_nil)) (pe_callB call_len_seq (by rfl) B.len PySem.boot_len (pa_cons (pv 5) pa_nil))))
 (pss_cons (ps_par (i := 10) (j := 11) (by rfl) sc_law_bent.nd rfl rfl (by decide) rfl rfl (pa_cons (pe_slice sl_list (pv 5) po_none (po_some (pv 7))) (pa_cons (pe_slice sl_list (pv 5) (po_some (pe_op op_add (pv 7) pe_int)) po_none) pa_nil)) (by rfl))
 (C8.pss_cut (ps_set (i := 4) sc_law_bent.nd rfl (.inr rfl) (pe_ix (show IxR _ (rIxL K) from ix_list) (pv 5) (pv 7) (fun _ _ => rfl)))
 (C8.pss_cut (ps_set (i := 12) sc_law_bent.nd rfl (.inl rfl) (pe_lst (pa_cons (pe_op op_cat (pe_op op_cat (pv 10) (pe_lst (pa_cons (pe_op op_cat (pe_slice sl_list (pv 4) po_none (po_some (pv 8))) (pe_slice sl_list (pv 4) (po_some (pe_op op_add (pv 8) pe_int)) po_none)) pa_nil))) (pv 11)) (pa_cons (pe_op op_cat (pv 5) (pe_lst (pa_cons (pv 4) pa_nil))) (pa_cons (pe_op op_cat (pv 10) (pv 11)) pa_nil)))))
 (C8.pss_cut (ps_set (i := 12) sc_law_bent.nd rfl (.inl rfl) (pe_op op_cat (pv 12) (pe_lst (pa_cons (pe_op op_cat (pe_op op_cat (pv 10) (pe_lst (pa_cons (pe_revL (pv 4)) pa_nil))) (pv 11)) (pa_cons (pe_op op_cat (pe_op op_cat (pv 10) (pe_lst (pa_cons (pe_slice sl_list (pv 4) po_none (po_some (pv 8))) (pa_cons (pe_slice sl_list (pv 4) (po_some (pv 8)) po_none) pa_nil)))) (pv 11)) pa_nil)))))
 (C8.pss_cut (ps_setLc (i := 13) (own := [("one", 16)]) (g := (gName 16)) (by rfl) sc_law_bent.nd rfl rfl (sw_true rfl rfl rfl (by decide +kernel)) (pi_list (pv 5)) (blkOk_by (N := n_law_bent) (sc := defScope s_law_bent) (by decide +kernel)) (fun _ _ _ _ _ => (pg_name (i := 16) sc_law_bent.nd rfl (.inl rfl))) (fun _ _ _ _ _ => (pts_one (pt_cmpR (show OpR _ (compareOp .NotIn) (rNotInD K) from op_notInD (room65d hr)) (pv 16) (pe_lst (pa_cons (pv 4) (pa_cons (pe_ix (show IxR _ (rIxL K) from ix_list) (pv 5) (pv 9) (fun _ _ => rfl)) pa_nil))) (by rfl)))) (fun _ _ _ _ _ => (pv 16)))
 (C8.pss_cut (ps_set (i := 14) sc_law_bent.nd rfl (.inl rfl) (pe_callB cr_sortedI (by rfl) B.sorted (by decide +kernel) (pa_cons (pe_op op_cat (pv 4) (pe_op op_rep (pe_ix (show IxR _ (rIxL K) from ix_list) (pv 5) (pv 9) (fun _ _ => rfl)) (pe_callTy call_int1 (by rfl) B.int (by decide +kernel) (pa_cons (pe_cmpR op_ne (pv 9) (pv 7) (nomark _)) pa_nil)))) pa_nil)))
 (C8.pss_cut (ps_set (i := 15) sc_law_bent.nd rfl (.inl rfl) (pe_op op_cat (pe_op op_cat (pe_slice sl_list (pv 4) po_none (po_some (pv 8))) (pe_lst (pa_cons (pe_op op_mod (pe_callTy call_int1 (by rfl) B.int (by decide +kernel) (pa_cons (pe_op op_fdiv (pv 3) pe_int) pa_nil)) (pe_op op_add (pv 2) pe_int)) pa_nil))) (pe_slice sl_list (pv 4) (po_some (pe_op op_add (pv 8) pe_int)) po_none)))
 (pss_one (ps_ret (pe_ix ix_list (pe_op op_cat (pv 12) (pe_lst (pa_cons (pe_op op_cat (pv 13) (pe_lst (pa_cons (pv 14) pa_nil))) (pa_cons (pe_op op_cat (pe_op op_cat (pv 10) (pe_lst (pa_cons (pv 15) pa_nil))) (pv 11)) pa_nil)))) (pe_op op_sub (pe_op op_mod (pe_callTy call_int1 (by rfl) B.int (by decide +kernel) (pa_cons (pv 3) pa_nil)) pe_int) pe_int) (fun _ _ => rfl)))))))))))))))))), ?_⟩
  refine ⟨_, rfl, p, k, rfl, hd, by omega, fun H1 r1 kp1 d1 a1 a2 => ?_⟩
  have eR1 := kp1 _ _ (hd.neRef eR) eR
  have pR1 := Paired.mapP pR fun r is h => kp1 _ _ (hd.neOf h) h
  have lr := Paired.length pR
  have tk1 : Trk A0 H1 := fun a ha z => by
    by_cases c : a = p
    · obtain ⟨_, _, _, e, _⟩ := d1
      rw [c, e] at z
      cases z
    · cases e : H a with
      | none => exact tk a ha e
      | some o =>
        rw [kp1 _ _ c e] at z
        cases z
  -- told
  refine ⟨_, rfl, R, rfl, ⟨_, .of eR1⟩, fun T hT => ?_⟩
  refine lc_list (xs := rs0.map V.ref) (fun i H' => Same H1 H' ∧ ∃ ts : List Addr, H' T = some (.lst (ts.map V.ref)) ∧ Paired (fun t (is : List Int) => H' t = some (.lst (is.map V.int)) ∧ t ≠ T ∧ t ∉ A0) ts (rws.take i)) ⟨Same.new hT, [], upd_same, .nil⟩ (fun i H' _ h' => .of (h'.1 _ _ eR1)) (fun i x H2 hx h2 => ?_) (fun H2 h2 => ?_)
  · obtain ⟨s2, ts, e2, p2⟩ := h2
    rw [List.getElem?_map] at hx
    obtain ⟨r, hr2, rfl⟩ := Option.map_eq_some_iff.mp hx
    obtain ⟨row, hrow, er⟩ := Paired.getL pR1 hr2
    have lp := Paired.length p2
    rw [List.length_take] at lp
    refine ⟨rfl, ?_⟩
    refine ⟨_, rfl, r, _, rfl, .inl (.of (s2 _ _ er)), fun t ht => ?_⟩
    have st := Same.new (o := .lst (row.map V.int)) ht
    have e3 := st _ _ e2
    have ntT : t ≠ T := (ne_of_none e2 ht).symm
    refine ⟨_, e3, ?_, fun b o eb => ?_, ts ++ [t], ?_, ?_⟩
    · rw [List.length_map]
      show _ < 16777216
      omega
    · rw [upd_ne (ne_of_none eb hT)]
      exact st _ _ (s2 _ _ eb)
    · rw [upd_same, List.map_append]
      rfl
    · rw [List.take_add_one, hrow]
      refine Paired.app (Paired.mapP p2 fun a is h => ⟨?_, h.2⟩) (.cons ⟨?_, ntT, (tk1.same s2).out ht⟩ .nil)
      · rw [upd_ne h.2.1]
        exact st _ _ h.1
      · rw [upd_ne ntT, upd_same]
  obtain ⟨s2, ts, eT, pT⟩ := h2
  rw [List.length_map, lr, List.take_length] at pT
  have lt := Paired.length pT
  have outT : ∀ t, t ∈ ts → t ∉ A0 := fun t ht => by
    obtain ⟨j, hj⟩ := List.mem_iff_getElem?.mp ht
    obtain ⟨_, _, _, _, h⟩ := Paired.getL pT hj
    exact h
  have tk2 := tk1.same s2
  have kp2 := kp1.trans (.of s2)
  have d2 := d1.same s2
  -- odd
  refine ⟨zero, fun o1 h1 => ⟨one, fun o2 h2 => ⟨one, fun o3 h3 => ⟨two, fun o4 h4 => ⟨_, rfl, one, fun o5 h5 => ⟨_, rfl, one, fun o6 h6 => ⟨one, fun o7 h7 => ⟨one, fun o8 h8 => fun o9 h9 => ⟨(by show 10 ≤ sizeLine; decide), fun O hO => ?_⟩⟩⟩⟩⟩⟩⟩⟩⟩
  have q1 := Same.new (o := .lst []) h1
  have q2 := Same.new (o := .tup [V.int 0]) h2
  have q3 := Same.new (o := .lst [V.bl true]) h3
  have q4 := Same.new (o := .lst [V.int 0, V.non]) h4
  have q5 := Same.new (o := .lst [natV n]) h5
  have q6 := Same.new (o := .lst [V.int (-1)]) h6
  have q7 := Same.new (o := .lst [V.int 0]) h7
  have q8 := Same.new (o := .lst [V.ref o7]) h8
  have q9 := Same.new (o := .dK []) h9
  have qO := Same.new (o := .lst [V.non, V.ref o1, V.ref o2, V.str "0", V.ref o3, V.ref o4, V.ref o5, V.ref o6, V.ref o8, V.ref o9]) hO
  have tq2 := tk2.same q1
  have tq3 := tq2.same q2
  have tq4 := tq3.same q3
  have tq5 := tq4.same q4
  have tq6 := tq5.same q5
  have tq7 := tq6.same q6
  have tq8 := tq7.same q7
  have tq9 := tq8.same q8
  have z1 := tk2.out h1
  have z2 := tq2.out h2
  have z3 := tq3.out h3
  have z4 := tq4.out h4
  have z5 := tq5.out h5
  have z6 := tq6.out h6
  have z7 := tq7.out h7
  have z8 := tq8.out h8
  have z9 := tq9.out h9
  have f9 := q9.trans qO
  have f8 := q8.trans f9
  have f7 := q7.trans f8
  have f6 := q6.trans f7
  have f5 := q5.trans f6
  have f4 := q4.trans f5
  have f3 := q3.trans f4
  have f2 := q2.trans f3
  have f1 := q1.trans f2
  have g1 := f2 _ _ (upd_same (a := o1) (o := .lst []) (H := H2))
  have g2 := f3 _ _ (upd_same (a := o2) (o := .tup [V.int 0]) (H := upd H2 o1 (.lst [])))
  have g3 := f4 _ _ (upd_same (a := o3) (o := .lst [V.bl true]) (H := upd (upd H2 o1 (.lst [])) o2 (.tup [V.int 0])))
  have g4 := f5 o4 (.lst [V.int 0, V.non]) upd_same
  have g5 := f6 o5 (.lst [natV n]) upd_same
  have g6 := f7 o6 (.lst [V.int (-1)]) upd_same
  have g7 := f8 o7 (.lst [V.int 0]) upd_same
  have g8 := f9 o8 (.lst [V.ref o7]) upd_same
  have g9 := qO o9 (.dK []) upd_same
  have gO : (upd (upd (upd (upd (upd (upd (upd (upd (upd (upd H2 o1 (.lst [])) o2 (.tup [V.int 0])) o3 (.lst [V.bl true])) o4 (.lst [V.int 0, V.non])) o5 (.lst [natV n])) o6 (.lst [V.int (-1)])) o7 (.lst [V.int 0])) o8 (.lst [V.ref o7])) o9 (.dK [])) O (.lst [V.non, V.ref o1, V.ref o2, V.str "0", V.ref o3, V.ref o4, V.ref o5, V.ref o6, V.ref o8, V.ref o9])) O = some (.lst [V.non, V.ref o1, V.ref o2, V.str "0", V.ref o3, V.ref o4, V.ref o5, V.ref o6, V.ref o8, V.ref o9]) := upd_same
  generalize upd (upd (upd (upd (upd (upd (upd (upd (upd (upd H2 o1 (.lst [])) o2 (.tup [V.int 0])) o3 (.lst [V.bl true])) o4 (.lst [V.int 0, V.non])) o5 (.lst [natV n])) o6 (.lst [V.int (-1)])) o7 (.lst [V.int 0])) o8 (.lst [V.ref o7])) o9 (.dK [])) O (.lst [V.non, V.ref o1, V.ref o2, V.str "0", V.ref o3, V.ref o4, V.ref o5, V.ref o6, V.ref o8, V.ref o9]) = H3 at f1 g1 g2 g3 g4 g5 g6 g7 g8 g9 gO ⊢
  have tk3 := tk2.same f1
  clear tq2 tq3 tq4 tq5 tq6 tq7 tq8 tq9 tk2
  clear f2 f3 f4 f5 f6 f7 f8 f9 q1 q2 q3 q4 q5 q6 q7 q8 q9 qO
  have oddG : ∀ x, x ∈ [V.non, V.ref o1, V.ref o2, V.str "0", V.ref o3, V.ref o4, V.ref o5, V.ref o6, V.ref o8, V.ref o9] → RowG K (rs A0 H3) x := fun x hx => by
    have g1 := rs_in z1 g1
    have g2 := rs_in z2 g2
    have g3 := rs_in z3 g3
    have g4 := rs_in z4 g4
    have g5 := rs_in z5 g5
    have g6 := rs_in z6 g6
    have g7 := rs_in z7 g7
    have g8 := rs_in z8 g8
    have g9 := rs_in z9 g9
    simp only [List.mem_cons, List.not_mem_nil, or_false] at hx
    rcases hx with rfl | rfl | rfl | rfl | rfl | rfl | rfl | rfl | rfl | rfl
    · exact rg_not notL_non .non' rfl (by decide) (by decide)
    · exact rg_lst (is := []) (ds := []) g1 .nil (by decide) .nil' rfl (by decide) (by decide)
    · exact rg_not (d := .tuple [.int 0]) (notL_tup g2) (.tup' (.of g2) (.cons' (.int' 0) .nil')) (by decide +kernel) (by decide +kernel) (by decide +kernel)
    · exact rg_not notL_str (.str' _) (by decide +kernel) (by decide +kernel) (by decide +kernel)
    · exact rg_lst (is := [none]) (ds := [.bool true]) g3 (.cons whole_bool .nil) (by decide) (.cons' (.bl' true) .nil') (by decide +kernel) (by decide +kernel) (by decide +kernel)
    · exact rg_lst (is := [some 0, none]) (ds := [.int 0, .none]) g4 (.cons rfl (.cons wh_non .nil)) (by decide) (.cons' (.int' 0) (.cons' .non' .nil')) (by decide +kernel) (by decide +kernel) (by decide +kernel)
    · refine rg_lst (is := [some (n : Int)]) (ds := [.int n]) g5 (.cons rfl .nil) (by show 1 ≤ 60; decide) (.cons' (.int' _) .nil') ?_ (by simp [ndDs, ndD]) (by simp [PyData.depthAll, PyData.depth])
      simp only [okDs, okD, Bool.and_true, decide_eq_true_eq]
      have e : (10 : Nat) ^ 30 = 1000000000000000000000000000000 := by decide +kernel
      rw [e]
      omega
    · exact rg_lst (is := [some (-1)]) (ds := [.int (-1)]) g6 (.cons rfl .nil) (by decide) (.cons' (.int' _) .nil') (by decide +kernel) (by decide +kernel) (by decide +kernel)
    · exact rg_lst (is := [none]) (ds := [.list [.int 0]]) g8 (.cons (wh_lst g7) .nil) (by decide) (.cons' (.lst' (.of g7) (.cons' (.int' 0) .nil')) .nil') (by decide +kernel) (by decide +kernel) (by decide +kernel)
    · exact rg_not (notL_dict g9) (.emp g9) rfl (by decide +kernel) (by decide +kernel)
  clear g1 g2 g3 g4 g5 g6 g7 g8 g9
  have kp3 := kp2.trans (.of f1)
  have d3 := d2.same f1
  have eT3 := f1 _ _ eT
  have pT3 := Paired.mapP pT fun t is h => f1 _ _ h.1
  have toldL : ∀ z, z ∈ ts.map V.ref → RowL (rs A0 H3) z := fun z hz => by
    obtain ⟨t, ht, rfl⟩ := List.mem_map.mp hz
    obtain ⟨j, hj⟩ := List.mem_iff_getElem?.mp ht
    obtain ⟨row, hrow, et⟩ := Paired.getL pT3 hj
    obtain ⟨_, l, tm⟩ := okr row (List.mem_of_getElem? hrow)
    exact ⟨t, row, rfl, rs_in (outT t ht) et, by omega, tm⟩
  have lts : ts.length ≤ 20 := by omega
  clear kp1 kp2 d1 d2 hT hO s2 f1 eT pT h1 h2 h3 h4 h5 h6 h7 h8 h9
  have fin1 : ∀ (Hx : Hp), Same H3 Hx → ∀ v, RowG K (rs A0 Hx) v → ∀ q', Hx q' = none → Q (.ref q') (upd Hx q' (.lst (ts.map V.ref ++ [v]))) := fun Hx sx v hv q' hq' => by
    have sq := Same.new (o := .lst (ts.map V.ref ++ [v])) hq'
    have sx2 := sx.trans sq
    refine q _ _ (kp3.trans (.of sx2)) (d3.same sx2) (thing_of (rs_new (tk3.same sx) hq' upd_same) (fun z hz => ?_) ?_)
    · rcases List.mem_append.mp hz with g | g
      · exact (toldL z g).g.same (rsS sx2)
      · rw [List.mem_singleton.mp g]
        exact hv.same (rsS sq)
    · rw [List.length_append, List.length_map, List.length_singleton]
      omega
  have i8 : ∀ {z : Int}, 0 ≤ z % 10 ∧ z % 10 < 10 := fun {z} => ⟨Int.emod_nonneg _ (by decide), Int.emod_lt_of_pos _ (by decide)⟩
  refine ⟨_, rfl, zero, fun Z hZ => ?_⟩
  have sZ := Same.new (o := .lst []) hZ
  refine ⟨T, Z, _, rfl, rfl, .of (sZ _ _ eT3), .of upd_same, _, rfl, ?_⟩
  have eT4 := sZ _ _ eT3
  have gO4 := sZ _ _ gO
  have oddG4 := fun x hx => (oddG x hx).same (rsS sZ)
  have toldL4 := fun z hz => (toldL z hz).same (rsS sZ)
  have pT4 := Paired.mapP pT3 fun t is h => sZ _ _ h
  have kp4 := kp3.trans (.of sZ)
  have d4 := d3.same sZ
  have tk4 := tk3.same sZ
  have ten : (10 : Nat) ≤ sizeLine := by show 10 ≤ sizeLine; decide
  cases e1 : (ts.map V.ref).isEmpty with
  | true =>
    refine iteT ?_
    obtain ⟨x, hx, gx⟩ := at_any oddG4 (i := r1 / 8 % 10) i8.1 i8.2
    refine ⟨_, rfl, _, rfl, _, rfl, _, _, rfl, rfl, ⟨by decide, by decide⟩, .inl ⟨_, rfl, _, _, rfl, rfl, (by show (0 : Int) < 10; decide), O, _, _, _, rfl, rfl, .of gO4, hx, one, fun W hW => ?_⟩⟩
    have sW := Same.new (o := .lst [x]) hW
    refine ⟨T, W, _, _, rfl, rfl, sW _ _ eT4, upd_same, ?_, fun q' hq' => fin1 _ (sZ.trans sW) x (gx.same (rsS sW)) q' hq'⟩
    rw [List.length_map]
    show _ + 1 ≤ 16777216
    omega
  | false =>
  refine iteF ⟨_, rfl, .inl ⟨_, rfl, _, _, rfl, rfl, (by show (0 : Int) < 8; decide), rfl, _, rfl, ?_⟩⟩
  refine ite2 (fun c => ?_) (fun c => ?_)
  · obtain ⟨x, hx, gx⟩ := at_any oddG4 (i := r1 / 8 % 10) i8.1 i8.2
    refine ⟨_, rfl, _, rfl, _, rfl, _, _, rfl, rfl, ⟨by decide, by decide⟩, .inl ⟨_, rfl, _, _, rfl, rfl, (by show (0 : Int) < 10; decide), O, _, _, _, rfl, rfl, .of gO4, hx, one, fun W hW => ?_⟩⟩
    have sW := Same.new (o := .lst [x]) hW
    refine ⟨T, W, _, _, rfl, rfl, sW _ _ eT4, upd_same, ?_, fun q' hq' => fin1 _ (sZ.trans sW) x (gx.same (rsS sW)) q' hq'⟩
    rw [List.length_map]
    show _ + 1 ≤ 16777216
    omega
  -- at, spot, other
  have npos : 0 < ts.length := by
    cases ts with
    | nil => cases e1
    | cons _ _ => exact Nat.succ_pos _
  have c8 : ¬ r1 % 8 = 0 := fun z => c (decide_eq_true (congrArg V.int z))
  clear fin1 gO gO4 oddG oddG4 e1 c ten kp3 d3 toldL pT3 eT3 i8
  have lenT : (((ts.map V.ref).length : Nat) : Int) = ts.length := by rw [List.length_map]
  have mA1 := Int.emod_nonneg (r1 / 8) (show (((ts.map V.ref).length : Nat) : Int) ≠ 0 by omega)
  have mA2 := Int.emod_lt_of_pos (r1 / 8) (show (0 : Int) < (((ts.map V.ref).length : Nat) : Int) by omega)
  refine ⟨_, rfl, _, _, rfl, rfl, ⟨by decide, by decide⟩, .inl ⟨_, rfl, _, rfl, T, _, rfl, .inl (.of eT4), _, _, rfl, rfl, by omega, ?_⟩⟩
  obtain ⟨A, hA⟩ : ∃ A : Nat, r1 / 8 % (((ts.map V.ref).length : Nat) : Int) = (A : Int) := ⟨(r1 / 8 % (((ts.map V.ref).length : Nat) : Int)).toNat, by omega⟩
  have eA : (fun i j => V.int (i % j)) (r1 / 8) (((ts.map V.ref).length : Nat) : Int) = natV A := congrArg V.int hA
  rw [eA]
  have hAt : A < ts.length := by omega
  obtain ⟨row, hrow, er⟩ := Paired.getL pT4 (List.getElem?_eq_getElem hAt)
  have okrow := okr row (List.mem_of_getElem? hrow)
  have atA : atI (ts.map V.ref) (A : Int) = some (.ref ts[A]) := at_of rfl (by rw [List.getElem?_map, List.getElem?_eq_getElem hAt]; rfl)
  have rpos : 0 < row.length := List.length_pos_iff.mpr okrow.1
  have outt := outT _ (List.getElem_mem hAt)
  generalize ts[A] = t at er atA outt
  have lenR : (((row.map V.int).length : Nat) : Int) = row.length := by rw [List.length_map]
  have mS1 := Int.emod_nonneg (r1 / 128) (show (((row.map V.int).length : Nat) : Int) ≠ 0 by omega)
  have mS2 := Int.emod_lt_of_pos (r1 / 128) (show (0 : Int) < (((row.map V.int).length : Nat) : Int) by omega)
  refine ⟨_, rfl, _, _, rfl, rfl, ⟨by decide, by decide⟩, .inl ⟨_, rfl, _, rfl, _, rfl, T, _, _, _, rfl, rfl, .of eT4, atA, t, _, rfl, .inl (.of er), _, _, rfl, rfl, by omega, ?_⟩⟩
  obtain ⟨S, hS⟩ : ∃ S : Nat, r1 / 128 % (((row.map V.int).length : Nat) : Int) = (S : Int) := ⟨(r1 / 128 % (((row.map V.int).length : Nat) : Int)).toNat, by omega⟩
  have eS : (fun i j => V.int (i % j)) (r1 / 128) (((row.map V.int).length : Nat) : Int) = natV S := congrArg V.int hS
  rw [eS]
  have mO1 := Int.emod_nonneg (r1 / 1024) (show (((ts.map V.ref).length : Nat) : Int) ≠ 0 by omega)
  have mO2 := Int.emod_lt_of_pos (r1 / 1024) (show (0 : Int) < (((ts.map V.ref).length : Nat) : Int) by omega)
  refine ⟨_, rfl, _, _, rfl, rfl, ⟨by decide, by decide⟩, .inl ⟨_, rfl, _, rfl, T, _, rfl, .inl (.of eT4), _, _, rfl, rfl, by omega, ?_⟩⟩
  obtain ⟨U, hU⟩ : ∃ U : Nat, r1 / 1024 % (((ts.map V.ref).length : Nat) : Int) = (U : Int) := ⟨(r1 / 1024 % (((ts.map V.ref).length : Nat) : Int)).toNat, by omega⟩
  have eU : (fun i j => V.int (i % j)) (r1 / 1024) (((ts.map V.ref).length : Nat) : Int) = natV U := congrArg V.int hU
  rw [eU]
  have hUt : U < ts.length := by omega
  obtain ⟨row2, hrow2, er2⟩ := Paired.getL pT4 (List.getElem?_eq_getElem hUt)
  have okrow2 := okr row2 (List.mem_of_getElem? hrow2)
  have atU : atI (ts.map V.ref) (U : Int) = some (.ref ts[U]) := at_of rfl (by rw [List.getElem?_map, List.getElem?_eq_getElem hUt]; rfl)
  generalize ts[U] = t2 at er2 atU
  -- front, back, row
  generalize upd H3 Z (.lst []) = H4 at eT4 toldL4 pT4 kp4 d4 er er2 tk4 ⊢
  refine ⟨_, rfl, _, rfl, _, rfl, T, _, rfl, .of eT4, fun F hF => ?_⟩
  have sF := Same.new (o := .lst (cutV (ts.map V.ref) none (some (A : Int)))) hF
  refine ⟨_, rfl, _, rfl, _, _, rfl, rfl, _, rfl, T, _, rfl, .of (sF _ _ eT4), fun Bk hB => ?_⟩
  have sB := Same.new (o := .lst (cutV (ts.map V.ref) (some ((A : Int) + 1)) none)) hB
  have s45 := sF.trans sB
  have eF5 : (upd (upd H4 F (.lst (cutV (ts.map V.ref) none (some (A : Int))))) Bk (.lst (cutV (ts.map V.ref) (some ((A : Int) + 1)) none))) F = some (.lst ((ts.map V.ref).take A)) := sB _ _ (by rw [upd_same, cut_to])
  have eB5 : (upd (upd H4 F (.lst (cutV (ts.map V.ref) none (some (A : Int))))) Bk (.lst (cutV (ts.map V.ref) (some ((A : Int) + 1)) none))) Bk = some (.lst ((ts.map V.ref).drop (A + 1))) := by rw [upd_same, show (some ((A : Int) + 1)) = some (((A + 1 : Nat) : Nat) : Int) from rfl, cut_from]
  generalize upd (upd H4 F (.lst (cutV (ts.map V.ref) none (some (A : Int))))) Bk (.lst (cutV (ts.map V.ref) (some ((A : Int) + 1)) none)) = H5 at s45 eF5 eB5 ⊢
  have toldF : ∀ z, z ∈ (ts.map V.ref).take A → RowL (rs A0 H5) z := fun z hz => (toldL4 z (List.mem_of_mem_take hz)).same (rsS s45)
  have toldB : ∀ z, z ∈ (ts.map V.ref).drop (A + 1) → RowL (rs A0 H5) z := fun z hz => (toldL4 z (List.mem_of_mem_drop hz)).same (rsS s45)
  have toldT : ∀ z, z ∈ ts.map V.ref → RowL (rs A0 H5) z := fun z hz => (toldL4 z hz).same (rsS s45)
  have lF : ((ts.map V.ref).take A).length ≤ 20 := by rw [List.length_take, List.length_map]; omega
  have lB : ((ts.map V.ref).drop (A + 1)).length ≤ 20 := by rw [List.length_drop, List.length_map]; omega
  have lT : (ts.map V.ref).length ≤ 20 := by rw [List.length_map]; omega
  have eT5 := s45 _ _ eT4
  have er5 := s45 _ _ er
  have er25 := s45 _ _ er2
  have kp5 := kp4.trans (.of s45)
  have tkn := tk4.same s45
  have d5 := d4.same s45
  have pT5 := Paired.mapP pT4 fun t is h => s45 _ _ h
  clear sF sB hF hB s45 eT4 er er2 kp4 d4 toldL4 pT4
  generalize (ts.map V.ref).take A = fs at eF5 toldF lF
  generalize (ts.map V.ref).drop (A + 1) = bs at eB5 toldB lB
  refine ⟨_, _, rfl, fun σ H' => σ = [some (.ref p), some (.ref R), some (natV n), some (.int r1), some (.ref t), some (.ref T), some (.ref O), some (natV A), some (natV S), some (natV U), some (.ref F), some (.ref Bk), none, none, none, none, none] ∧ H' = H5, ⟨_, rfl, _, rfl, T, _, _, _, rfl, rfl, .of eT5, atA, rfl, rfl⟩, fun σ Hn hX => ?_⟩
  obtain ⟨rfl, rfl⟩ := hX
  -- bent, the first three
  have tr := okrow.2.2
  have l20 := okrow.2.1
  obtain ⟨c1, ec1, lc1, tc1⟩ := tame_cut tr none (some (S : Int))
  obtain ⟨c2, ec2, lc2, tc2⟩ := tame_cut tr (some ((S : Int) + 1)) none
  obtain ⟨c3, ec3, lc3, tc3⟩ := tame_cut tr (some (S : Int)) none
  refine ⟨fun σ H' => ∃ v6 v8 v9 BB : Addr, σ = [some (.ref p), some (.ref R), some (natV n), some (.int r1), some (.ref t), some (.ref T), some (.ref O), some (natV A), some (natV S), some (natV U), some (.ref F), some (.ref Bk), some (.ref BB), none, none, none, none] ∧ Same Hn H' ∧ H' BB = some (.lst [V.ref v6, V.ref v8, V.ref v9]) ∧ RowsL (rs A0 H') 50 (.ref v6) ∧ RowsL (rs A0 H') 50 (.ref v8) ∧ RowsL (rs A0 H') 50 (.ref v9), ?_, fun σ H8 hX => ?_⟩
  · refine ⟨_, rfl, _, rfl, _, rfl, _, rfl, t, _, rfl, .of er5, fun v1 n1 => ?_⟩
    rw [ec1]
    have s1 := Same.new (o := .lst (c1.map V.int)) n1
    refine ⟨_, rfl, _, rfl, _, _, rfl, rfl, _, rfl, t, _, rfl, .of (s1 _ _ er5), fun v2 n2 => ?_⟩
    rw [ec2]
    have s2 := Same.new (o := .lst (c2.map V.int)) n2
    refine ⟨v1, v2, _, _, rfl, rfl, s2 _ _ upd_same, upd_same, cat_le (by rw [List.length_map]; omega) (by rw [List.length_map]; omega), fun v3 n3 => ?_⟩
    rw [← List.map_append]
    have s3 := Same.new (o := .lst ((c1 ++ c2).map V.int)) n3
    refine ⟨one, fun v4 n4 => ?_⟩
    have s4 := Same.new (o := .lst [V.ref v3]) n4
    have s14 := s1.trans (s2.trans (s3.trans s4))
    have w1 : RowL (rs A0 (upd (upd (upd (upd Hn v1 (.lst (c1.map V.int))) v2 (.lst (c2.map V.int))) v3 (.lst ((c1 ++ c2).map V.int))) v4 (.lst [V.ref v3]))) (.ref v3) := ⟨v3, c1 ++ c2, rfl, rs_new (tkn.same (s1.trans s2)) n3 (s4 _ _ upd_same), by rw [List.length_append]; omega, tame_app tc1 tc2⟩
    have ev4 : (upd (upd (upd (upd Hn v1 (.lst (c1.map V.int))) v2 (.lst (c2.map V.int))) v3 (.lst ((c1 ++ c2).map V.int))) v4 (.lst [V.ref v3])) v4 = some (.lst [V.ref v3]) := upd_same
    generalize upd (upd (upd (upd Hn v1 (.lst (c1.map V.int))) v2 (.lst (c2.map V.int))) v3 (.lst ((c1 ++ c2).map V.int))) v4 (.lst [V.ref v3]) = H6 at s14 w1 ev4 ⊢
    clear s1 s2 s3 s4 n1 n2 n3 n4
    refine ⟨F, v4, _, _, rfl, rfl, s14 _ _ eF5, ev4, cat_le (by omega) (by show 1 ≤ 200; decide), fun v5 n5 => ?_⟩
    have s5 := Same.new (o := .lst (fs ++ [V.ref v3])) n5
    have s15 := s14.trans s5
    refine ⟨_, rfl, v5, Bk, _, _, rfl, rfl, upd_same, s15 _ _ eB5, cat_le (by rw [List.length_append, List.length_singleton]; omega) (by omega), fun v6 n6 => ?_⟩
    have s6 := Same.new (o := .lst (fs ++ [V.ref v3] ++ bs)) n6
    have s16 := s15.trans s6
    have b1 : RowsL (rs A0 (upd (upd H6 v5 (.lst (fs ++ [V.ref v3]))) v6 (.lst (fs ++ [V.ref v3] ++ bs)))) 50 (.ref v6) := by
      refine ⟨v6, _, rfl, rs_new (tkn.same s15) n6 upd_same, by rw [List.length_append, List.length_append, List.length_singleton]; omega, fun y hy => ?_⟩
      rcases List.mem_append.mp hy with g | g
      · rcases List.mem_append.mp g with g2 | g2
        · exact (toldF y g2).same (rsS s16)
        · rw [List.mem_singleton.mp g2]
          exact w1.same (rsS (s5.trans s6))
      · exact (toldB y g).same (rsS s16)
    generalize upd (upd H6 v5 (.lst (fs ++ [V.ref v3]))) v6 (.lst (fs ++ [V.ref v3] ++ bs)) = H7 at s16 b1 ⊢
    clear s14 s15 s5 s6 n5 n6 w1 ev4
    refine ⟨_, rfl, _, rfl, one, fun v7 n7 => ?_⟩
    have s7 := Same.new (o := .lst [V.ref t]) n7
    have s17 := s16.trans s7
    refine ⟨T, v7, _, _, rfl, rfl, s17 _ _ eT5, upd_same, cat_le (by omega) (by show 1 ≤ 200; decide), fun v8 n8 => ?_⟩
    have s8 := Same.new (o := .lst (ts.map V.ref ++ [V.ref t])) n8
    have s18 := s17.trans s8
    have rowt : RowL (rs A0 Hn) (.ref t) := ⟨t, row, rfl, rs_in outt er5, by omega, tr⟩
    refine ⟨_, rfl, _, rfl, F, Bk, _, _, rfl, rfl, s18 _ _ eF5, s18 _ _ eB5, cat_le (by omega) (by omega), fun v9 n9 => ?_⟩
    have s9 := Same.new (o := .lst (fs ++ bs)) n9
    have s19 := s18.trans s9
    refine ⟨three, fun BB nB => ?_⟩
    have sA := Same.new (o := .lst [V.ref v6, V.ref v8, V.ref v9]) nB
    have s1A := s19.trans sA
    have b1 := b1.same (rsS (s7.trans (s8.trans (s9.trans sA))))
    have b2 : RowsL (rs A0 (upd (upd (upd (upd H7 v7 (.lst [V.ref t])) v8 (.lst (ts.map V.ref ++ [V.ref t]))) v9 (.lst (fs ++ bs))) BB (.lst [V.ref v6, V.ref v8, V.ref v9]))) 50 (.ref v8) := by
      refine ⟨v8, _, rfl, rs_new (tkn.same s17) n8 (sA _ _ (s9 _ _ upd_same)), by rw [List.length_append, List.length_singleton]; omega, fun y hy => ?_⟩
      rcases List.mem_append.mp hy with g | g
      · exact (toldT y g).same (rsS s1A)
      · rw [List.mem_singleton.mp g]
        exact rowt.same (rsS s1A)
    have b3 : RowsL (rs A0 (upd (upd (upd (upd H7 v7 (.lst [V.ref t])) v8 (.lst (ts.map V.ref ++ [V.ref t]))) v9 (.lst (fs ++ bs))) BB (.lst [V.ref v6, V.ref v8, V.ref v9]))) 50 (.ref v9) := by
      refine ⟨v9, _, rfl, rs_new (tkn.same s18) n9 (sA _ _ upd_same), by rw [List.length_append]; omega, fun y hy => ?_⟩
      rcases List.mem_append.mp hy with g | g
      · exact (toldF y g).same (rsS s1A)
      · exact (toldB y g).same (rsS s1A)
    have eBB : (upd (upd (upd (upd H7 v7 (.lst [V.ref t])) v8 (.lst (ts.map V.ref ++ [V.ref t]))) v9 (.lst (fs ++ bs))) BB (.lst [V.ref v6, V.ref v8, V.ref v9])) BB = some (.lst [V.ref v6, V.ref v8, V.ref v9]) := upd_same
    exact ⟨v6, v8, v9, BB, rfl, s1A, eBB, b1, b2, b3⟩
  obtain ⟨v6, v8, v9, BB, rfl, s1A, eBB, b1, b2, b3⟩ := hX
  -- two more
  refine ⟨fun σ H' => ∃ v6 v8 v9 v4 u5 B2 : Addr, σ = [some (.ref p), some (.ref R), some (natV n), some (.int r1), some (.ref t), some (.ref T), some (.ref O), some (natV A), some (natV S), some (natV U), some (.ref F), some (.ref Bk), some (.ref B2), none, none, none, none] ∧ Same Hn H' ∧ H' B2 = some (.lst [V.ref v6, V.ref v8, V.ref v9, V.ref v4, V.ref u5]) ∧ RowsL (rs A0 H') 50 (.ref v6) ∧ RowsL (rs A0 H') 50 (.ref v8) ∧ RowsL (rs A0 H') 50 (.ref v9) ∧ RowsL (rs A0 H') 50 (.ref v4) ∧ RowsL (rs A0 H') 50 (.ref u5), ?_, fun σ H10 hX => ?_⟩
  · have s58 := s1A
    refine ⟨_, rfl, _, rfl, _, rfl, t, _, rfl, .of (s58 _ _ er5), fun v1 n1 => ?_⟩
    rw [← List.map_reverse]
    have s1 := Same.new (o := .lst (row.reverse.map V.int)) n1
    refine ⟨one, fun v2 n2 => ?_⟩
    have s2 := Same.new (o := .lst [V.ref v1]) n2
    have s52 := s58.trans (s1.trans s2)
    refine ⟨F, v2, _, _, rfl, rfl, s52 _ _ eF5, upd_same, cat_le (by omega) (by show 1 ≤ 200; decide), fun v3 n3 => ?_⟩
    have s3 := Same.new (o := .lst (fs ++ [V.ref v1])) n3
    have s53 := s52.trans s3
    refine ⟨_, rfl, v3, Bk, _, _, rfl, rfl, upd_same, s53 _ _ eB5, cat_le (by rw [List.length_append, List.length_singleton]; omega) (by omega), fun v4 n4 => ?_⟩
    have s4 := Same.new (o := .lst (fs ++ [V.ref v1] ++ bs)) n4
    have s54 := s53.trans s4
    have s84 := s1.trans (s2.trans (s3.trans s4))
    have b4 : RowsL (rs A0 (upd (upd (upd (upd H8 v1 (.lst (row.reverse.map V.int))) v2 (.lst [V.ref v1])) v3 (.lst (fs ++ [V.ref v1]))) v4 (.lst (fs ++ [V.ref v1] ++ bs)))) 50 (.ref v4) := by
      refine ⟨v4, _, rfl, rs_new (tkn.same s53) n4 upd_same, by rw [List.length_append, List.length_append, List.length_singleton]; omega, fun y hy => ?_⟩
      rcases List.mem_append.mp hy with g | g
      · rcases List.mem_append.mp g with g2 | g2
        · exact (toldF y g2).same (rsS s54)
        · rw [List.mem_singleton.mp g2]
          exact ⟨v1, row.reverse, rfl, rs_new (tkn.same s58) n1 (s4 _ _ (s3 _ _ (s2 _ _ upd_same))), by rw [List.length_reverse]; omega, tame_sub tr fun x hx => List.mem_reverse.mp hx⟩
      · exact (toldB y g).same (rsS s54)
    have b1 := b1.same (rsS s84)
    have b2 := b2.same (rsS s84)
    have b3 := b3.same (rsS s84)
    have eBB := s84 _ _ eBB
    generalize upd (upd (upd (upd H8 v1 (.lst (row.reverse.map V.int))) v2 (.lst [V.ref v1])) v3 (.lst (fs ++ [V.ref v1]))) v4 (.lst (fs ++ [V.ref v1] ++ bs)) = H9 at s54 b1 b2 b3 b4 eBB ⊢
    clear s52 s53 s84 s1 s2 s3 s4 s58 s1A n1 n2 n3 n4
    refine ⟨_, rfl, _, rfl, _, rfl, _, rfl, t, _, rfl, .of (s54 _ _ er5), fun u1 n1 => ?_⟩
    rw [ec1]
    have s1 := Same.new (o := .lst (c1.map V.int)) n1
    refine ⟨_, rfl, _, rfl, _, rfl, t, _, rfl, .of (s1 _ _ (s54 _ _ er5)), fun u2 n2 => ?_⟩
    rw [ec3]
    have s2 := Same.new (o := .lst (c3.map V.int)) n2
    refine ⟨two, fun u3 n3 => ?_⟩
    have s3 := Same.new (o := .lst [V.ref u1, V.ref u2]) n3
    have s93 := s1.trans (s2.trans s3)
    have s53 := s54.trans s93
    refine ⟨F, u3, _, _, rfl, rfl, s53 _ _ eF5, upd_same, cat_le (by omega) (by show 2 ≤ 200; decide), fun u4 n4 => ?_⟩
    have s4 := Same.new (o := .lst (fs ++ [V.ref u1, V.ref u2])) n4
    have s54' := s53.trans s4
    refine ⟨_, rfl, u4, Bk, _, _, rfl, rfl, upd_same, s54' _ _ eB5, cat_le (by rw [List.length_append]; show _ + 2 ≤ 200; omega) (by omega), fun u5 n5 => ?_⟩
    have s5 := Same.new (o := .lst (fs ++ [V.ref u1, V.ref u2] ++ bs)) n5
    refine ⟨two, fun u6 n6 => ?_⟩
    have s6 := Same.new (o := .lst [V.ref v4, V.ref u5]) n6
    have s96 := s93.trans (s4.trans (s5.trans s6))
    have s56 := s54.trans s96
    have b5 : RowsL (rs A0 (upd (upd (upd (upd (upd (upd H9 u1 (.lst (c1.map V.int))) u2 (.lst (c3.map V.int))) u3 (.lst [V.ref u1, V.ref u2])) u4 (.lst (fs ++ [V.ref u1, V.ref u2]))) u5 (.lst (fs ++ [V.ref u1, V.ref u2] ++ bs))) u6 (.lst [V.ref v4, V.ref u5]))) 50 (.ref u5) := by
      refine ⟨u5, _, rfl, rs_new (tkn.same s54') n5 (s6 _ _ upd_same), by rw [List.length_append, List.length_append]; show _ + 2 + _ ≤ 50; omega, fun y hy => ?_⟩
      rcases List.mem_append.mp hy with g | g
      · rcases List.mem_append.mp g with g2 | g2
        · exact (toldF y g2).same (rsS s56)
        · rcases List.mem_cons.mp g2 with g3 | g3
          · rw [g3]
            exact ⟨u1, c1, rfl, rs_new (tkn.same s54) n1 (s6 _ _ (s5 _ _ (s4 _ _ (s3 _ _ (s2 _ _ upd_same))))), by omega, tc1⟩
          · rw [List.mem_singleton.mp g3]
            exact ⟨u2, c3, rfl, rs_new (tkn.same (s54.trans s1)) n2 (s6 _ _ (s5 _ _ (s4 _ _ (s3 _ _ upd_same)))), by omega, tc3⟩
      · exact (toldB y g).same (rsS s56)
    refine ⟨BB, u6, _, _, rfl, rfl, s96 _ _ eBB, upd_same, cat_le (by show 3 ≤ 200; decide) (by show 2 ≤ 200; decide), fun B2 nB2 => ?_⟩
    have s7 := Same.new (o := .lst ([V.ref v6, V.ref v8, V.ref v9] ++ [V.ref v4, V.ref u5])) nB2
    have s97 := s96.trans s7
    have s57 := s54.trans s97
    have b1 := b1.same (rsS s97)
    have b2 := b2.same (rsS s97)
    have b3 := b3.same (rsS s97)
    have b4 := b4.same (rsS s97)
    have b5 := b5.same (rsS s7)
    have eB2 : (upd (upd (upd (upd (upd (upd (upd H9 u1 (.lst (c1.map V.int))) u2 (.lst (c3.map V.int))) u3 (.lst [V.ref u1, V.ref u2])) u4 (.lst (fs ++ [V.ref u1, V.ref u2]))) u5 (.lst (fs ++ [V.ref u1, V.ref u2] ++ bs))) u6 (.lst [V.ref v4, V.ref u5])) B2 (.lst ([V.ref v6, V.ref v8, V.ref v9] ++ [V.ref v4, V.ref u5]))) B2 = some (.lst [V.ref v6, V.ref v8, V.ref v9, V.ref v4, V.ref u5]) := upd_same
    exact ⟨v6, v8, v9, v4, u5, B2, rfl, s57, eB2, b1, b2, b3, b4, b5⟩
  obtain ⟨v6, v8, v9, v4, u5, B2, rfl, s57, eB2, b1, b2, b3, b4, b5⟩ := hX
  -- rest
  have eT10 := s57 _ _ eT5
  have pT10 := Paired.mapP pT5 fun t is h => s57 _ _ h
  refine ⟨fun σ H' => ∃ (W : Addr) (zs : List V), σ = [some (.ref p), some (.ref R), some (natV n), some (.int r1), some (.ref t), some (.ref T), some (.ref O), some (natV A), some (natV S), some (natV U), some (.ref F), some (.ref Bk), some (.ref B2), some (.ref W), none, none, none] ∧ Same H10 H' ∧ H' W = some (.lst zs) ∧ zs.length ≤ 20 ∧ ∀ z, z ∈ zs → z ∈ ts.map V.ref, ?_, fun σ H11 hX => ?_⟩
  · refine ⟨_, rfl, T, rfl, ⟨_, .of eT10⟩, fun W nW => ?_⟩
    refine lc_list (xs := ts.map V.ref) (fun i H' => Same H10 H' ∧ ∃ zs : List V, H' W = some (.lst zs) ∧ zs.length ≤ i ∧ ∀ z, z ∈ zs → z ∈ ts.map V.ref) ⟨Same.new nW, [], upd_same, Nat.le_refl _, fun z h => (by cases h)⟩ (fun i H' _ h' => .of (h'.1 _ _ eT10)) (fun i x H' hx h' => ?_) (fun H11 h11 => ?_)
    · obtain ⟨s', zs, e', l', in'⟩ := h'
      have hxm := List.mem_of_getElem? hx
      rw [List.getElem?_map] at hx
      obtain ⟨t3, ht3, rfl⟩ := Option.map_eq_some_iff.mp hx
      obtain ⟨row3, hrow3, er3⟩ := Paired.getL pT10 ht3
      have hi := (List.getElem?_eq_some_iff.mp ht3).1
      refine ⟨rfl, ?_⟩
      refine ⟨_, rfl, _, rfl, _, rfl, _, rfl, T, _, _, _, rfl, rfl, .of (s' _ _ eT10), atU, two, fun G nG => ?_⟩
      have sG := Same.new (o := .lst [V.ref t, V.ref t2]) nG
      have sx := s'.trans sG
      refine ⟨intsD row3, [intsD row, intsD row2], .lst (.of (sx _ _ er3)) (ints_dpAll _), .lst (.of upd_same) (.cons (.lst (.of (sx _ _ (s57 _ _ er5))) (ints_dpAll _)) (.cons (.lst (.of (sx _ _ (s57 _ _ er25))) (ints_dpAll _)) .nil)), ints_shaped _, lists_shaped [row, row2], _, rfl, ?_⟩
      have e2 := sG _ _ e'
      refine ite2 (fun _ => ?_) (fun _ => ⟨sx, zs, e2, by omega, in'⟩)
      refine ⟨_, rfl, zs, e2, ?_, fun b o eb => ?_, zs ++ [.ref t3], upd_same, by rw [List.length_append, List.length_singleton]; omega, fun z hz => ?_⟩
      · show _ < 16777216
        omega
      · rw [upd_ne (ne_of_none eb nW)]
        exact sx _ _ eb
      · rcases List.mem_append.mp hz with g | g
        · exact in' z g
        · rw [List.mem_singleton.mp g]
          exact hxm
    obtain ⟨s11, zs, eW, lW, inW⟩ := h11
    rw [List.length_map] at lW
    exact ⟨W, zs, rfl, s11, eW, by omega, inW⟩
  obtain ⟨W, zs, rfl, s11, eW, lW, inW⟩ := hX
  have s5B := s57.trans s11
  -- both
  obtain ⟨jb, ejb, ljb, tjb⟩ := tame_rep okrow2.2.2 (if (!decide (natV U = natV A)) = true then (1 : Int) else 0).toNat
  have l20b := okrow2.2.1
  have fewb : (if (!decide (natV U = natV A)) = true then (1 : Int) else 0).toNat ≤ 1 ∧ 0 ≤ (if (!decide (natV U = natV A)) = true then (1 : Int) else 0) ∧ (if (!decide (natV U = natV A)) = true then (1 : Int) else 0) ≤ 1 := by
    split <;> refine ⟨?_, ?_, ?_⟩ <;> decide
  have ljb2 : jb.length ≤ 20 := by
    rw [ljb]
    exact Nat.le_trans (Nat.mul_le_mul_right _ fewb.1) (by omega)
  refine ⟨fun σ H' => ∃ w3 : Addr, σ = [some (.ref p), some (.ref R), some (natV n), some (.int r1), some (.ref t), some (.ref T), some (.ref O), some (natV A), some (natV S), some (natV U), some (.ref F), some (.ref Bk), some (.ref B2), some (.ref W), some (.ref w3), none, none] ∧ Same H11 H' ∧ RowL (rs A0 H') (.ref w3), ?_, fun σ H12 hX => ?_⟩
  · refine ⟨_, rfl, _, rfl, _, rfl, T, _, _, _, rfl, rfl, .of (s5B _ _ eT5), atU, _, rfl, _, rfl, rfl, .inr ⟨_, rfl, t2, _, _, rfl, rfl, s5B _ _ er25, ?_, ?_, ?_, fun w1 n1 => ?_⟩⟩
    · have := fewb.2.1
      omega
    · have := fewb.2.2
      omega
    · show _ ≤ 16777216
      rw [List.length_map]
      have h := Nat.mul_le_mul l20b fewb.1
      omega
    rw [ejb]
    have s1 := Same.new (o := .lst (jb.map V.int)) n1
    refine ⟨t, w1, _, _, rfl, rfl, s1 _ _ (s5B _ _ er5), upd_same, cat_le (by rw [List.length_map]; omega) (by rw [List.length_map]; omega), fun w2 n2 => ?_⟩
    rw [← List.map_append]
    have s2 := Same.new (o := .lst ((row ++ jb).map V.int)) n2
    refine ⟨w2, _, rfl, .of upd_same, fun ms w3 perm srt n3 => ?_⟩
    have s3 := Same.new (o := .lst (ms.map V.int)) n3
    have lms := perm.length_eq
    rw [List.length_append] at lms
    have r3 : RowL (rs A0 (upd (upd (upd H11 w1 (.lst (jb.map V.int))) w2 (.lst ((row ++ jb).map V.int))) w3 (.lst (ms.map V.int)))) (.ref w3) := ⟨w3, ms, rfl, rs_new (tkn.same (s5B.trans (s1.trans s2))) n3 upd_same, by omega, tame_sub (tame_app tr tjb) fun x hx => perm.mem_iff.mp hx⟩
    have s13 := s11.trans (s1.trans (s2.trans s3))
    have eW := s3 _ _ (s2 _ _ (s1 _ _ eW))
    exact ⟨w3, rfl, s1.trans (s2.trans s3), r3⟩
  obtain ⟨w3, rfl, s12, r3⟩ := hX
  have s5C := s5B.trans s12
  -- moved
  refine ⟨fun σ H' => ∃ x5 : Addr, σ = [some (.ref p), some (.ref R), some (natV n), some (.int r1), some (.ref t), some (.ref T), some (.ref O), some (natV A), some (natV S), some (natV U), some (.ref F), some (.ref Bk), some (.ref B2), some (.ref W), some (.ref w3), some (.ref x5), none] ∧ Same H12 H' ∧ RowL (rs A0 H') (.ref x5), ?_, fun σ H13 hX => ?_⟩
  · refine ⟨_, rfl, _, rfl, _, rfl, t, _, rfl, .of (s5C _ _ er5), fun x1 n1 => ?_⟩
    rw [ec1]
    have s1 := Same.new (o := .lst (c1.map V.int)) n1
    refine ⟨_, rfl, _, _, rfl, rfl, ⟨by decide, by decide⟩, .inl ⟨_, rfl, _, rfl, _, _, rfl, rfl, _, _, rfl, rfl, by omega, one, fun x2 n2 => ?_⟩⟩
    have mM1 := Int.emod_nonneg (r1 / 64) (show ((n : Int) + 1) ≠ 0 by omega)
    have mM2 := Int.emod_lt_of_pos (r1 / 64) (show (0 : Int) < (n : Int) + 1 by omega)
    have s2 := Same.new (o := .lst [V.int (r1 / 64 % ((n : Int) + 1))]) n2
    refine ⟨x1, x2, _, _, rfl, rfl, s2 _ _ upd_same, upd_same, cat_le (by rw [List.length_map]; omega) (by show 1 ≤ 200; decide), fun x3 n3 => ?_⟩
    have ex3 : c1.map V.int ++ [V.int (r1 / 64 % ((n : Int) + 1))] = (c1 ++ [r1 / 64 % ((n : Int) + 1)]).map V.int := by rw [List.map_append]; rfl
    rw [show (c1.map V.int ++ [(fun i j => V.int (i % j)) (r1 / 64) ((n : Int) + 1)]) = (c1 ++ [r1 / 64 % ((n : Int) + 1)]).map V.int from ex3]
    have s3 := Same.new (o := .lst ((c1 ++ [r1 / 64 % ((n : Int) + 1)]).map V.int)) n3
    have s23 := s1.trans (s2.trans s3)
    refine ⟨_, rfl, _, rfl, _, _, rfl, rfl, _, rfl, t, _, rfl, .of (s23 _ _ (s5C _ _ er5)), fun x4 n4 => ?_⟩
    rw [ec2]
    have s4 := Same.new (o := .lst (c2.map V.int)) n4
    refine ⟨x3, x4, _, _, rfl, rfl, s4 _ _ upd_same, upd_same, cat_le (by rw [List.length_map, List.length_append, List.length_singleton]; omega) (by rw [List.length_map]; omega), fun x5 n5 => ?_⟩
    rw [← List.map_append]
    have s5 := Same.new (o := .lst ((c1 ++ [r1 / 64 % ((n : Int) + 1)] ++ c2).map V.int)) n5
    have tm : Tame [r1 / 64 % ((n : Int) + 1)] := fun v hv => by
      have e : (10 : Nat) ^ 30 = 1000000000000000000000000000000 := by decide +kernel
      rw [List.mem_singleton.mp hv, e]
      omega
    have s35 := s23.trans (s4.trans s5)
    exact ⟨x5, rfl, s35, x5, c1 ++ [r1 / 64 % ((n : Int) + 1)] ++ c2, rfl, rs_new (tkn.same (s5C.trans (s23.trans s4))) n5 upd_same, by rw [List.length_append, List.length_append, List.length_singleton]; omega, tame_app (tame_app tc1 tm) tc2⟩
  obtain ⟨x5, rfl, s13, r5⟩ := hX
  -- one of the seven
  have s10D := s11.trans (s12.trans s13)
  have s5D := s57.trans s10D
  have r3 := r3.same (rsS s13)
  refine ⟨_, rfl, _, rfl, _, rfl, one, fun y1 n1 => ?_⟩
  have s1 := Same.new (o := .lst [V.ref w3]) n1
  refine ⟨W, y1, _, _, rfl, rfl, s1 _ _ (s13 _ _ (s12 _ _ eW)), upd_same, cat_le (by omega) (by show 1 ≤ 200; decide), fun y2 n2 => ?_⟩
  have s2 := Same.new (o := .lst (zs ++ [V.ref w3])) n2
  refine ⟨_, rfl, _, rfl, one, fun y3 n3 => ?_⟩
  have s3 := Same.new (o := .lst [V.ref x5]) n3
  have sD3 := s1.trans (s2.trans s3)
  have s53 := s5D.trans sD3
  refine ⟨F, y3, _, _, rfl, rfl, s53 _ _ eF5, upd_same, cat_le (by omega) (by show 1 ≤ 200; decide), fun y4 n4 => ?_⟩
  have s4 := Same.new (o := .lst (fs ++ [V.ref x5])) n4
  have s54 := s53.trans s4
  refine ⟨_, rfl, y4, Bk, _, _, rfl, rfl, upd_same, s54 _ _ eB5, cat_le (by rw [List.length_append, List.length_singleton]; omega) (by omega), fun y5 n5 => ?_⟩
  have s5 := Same.new (o := .lst (fs ++ [V.ref x5] ++ bs)) n5
  refine ⟨two, fun y6 n6 => ?_⟩
  have s6 := Same.new (o := .lst [V.ref y2, V.ref y5]) n6
  have sD6 := sD3.trans (s4.trans (s5.trans s6))
  refine ⟨B2, y6, _, _, rfl, rfl, sD6 _ _ (s10D _ _ eB2), upd_same, cat_le (by show 5 ≤ 200; decide) (by show 2 ≤ 200; decide), fun y7 n7 => ?_⟩
  have s7 := Same.new (o := .lst ([V.ref v6, V.ref v8, V.ref v9, V.ref v4, V.ref u5] ++ [V.ref y2, V.ref y5])) n7
  have sD7 := sD6.trans s7
  have sX7 := s10D.trans sD7
  have s57' := s5D.trans sD7
  have all7 : ∀ x, x ∈ [V.ref v6, V.ref v8, V.ref v9, V.ref v4, V.ref u5] ++ [V.ref y2, V.ref y5] → RowsL (rs A0 (upd (upd (upd (upd (upd (upd (upd H13 y1 (.lst [V.ref w3])) y2 (.lst (zs ++ [V.ref w3]))) y3 (.lst [V.ref x5])) y4 (.lst (fs ++ [V.ref x5]))) y5 (.lst (fs ++ [V.ref x5] ++ bs))) y6 (.lst [V.ref y2, V.ref y5])) y7 (.lst ([V.ref v6, V.ref v8, V.ref v9, V.ref v4, V.ref u5] ++ [V.ref y2, V.ref y5])))) 50 x := fun x hx => by
    simp only [List.mem_append, List.mem_cons, List.not_mem_nil, or_false] at hx
    rcases hx with (rfl | rfl | rfl | rfl | rfl) | rfl | rfl
    · exact b1.same (rsS sX7)
    · exact b2.same (rsS sX7)
    · exact b3.same (rsS sX7)
    · exact b4.same (rsS sX7)
    · exact b5.same (rsS sX7)
    · refine ⟨y2, _, rfl, rs_new (tkn.same (s5D.trans s1)) n2 (s7 _ _ (s6 _ _ (s5 _ _ (s4 _ _ (s3 _ _ upd_same))))), by rw [List.length_append, List.length_singleton]; omega, fun y hy => ?_⟩
      rcases List.mem_append.mp hy with g | g
      · exact (toldT y (inW y g)).same (rsS s57')
      · rw [List.mem_singleton.mp g]
        exact r3.same (rsS sD7)
    · refine ⟨y5, _, rfl, rs_new (tkn.same s54) n5 (s7 _ _ (s6 _ _ upd_same)), by rw [List.length_append, List.length_append, List.length_singleton]; omega, fun y hy => ?_⟩
      rcases List.mem_append.mp hy with g | g
      · rcases List.mem_append.mp g with g2 | g2
        · exact (toldF y g2).same (rsS s57')
        · rw [List.mem_singleton.mp g2]
          exact r5.same (rsS sD7)
      · exact (toldB y g).same (rsS s57')
  have m1 := Int.emod_nonneg r1 (show (8 : Int) ≠ 0 by decide)
  have m2 := Int.emod_lt_of_pos r1 (show (0 : Int) < 8 by decide)
  obtain ⟨x, hx, gx⟩ := at_any all7 (i := r1 % 8 - 1) (by omega) (by show _ < (7 : Int); omega)
  refine ⟨_, rfl, .inl ⟨_, rfl, _, _, rfl, rfl, (by show (0 : Int) < 8; decide), _, _, rfl, rfl, y7, _, _, _, rfl, rfl, .of upd_same, hx, ?_⟩⟩
  exact q _ x (kp5.trans (.of s57')) (d5.same s57') (gx.g (by decide))
end
end HSP
namespace HSP
open PySem PySem.Spec PyProof.Rows L2
section
variable {P : Program} {w : World} {K : PySem.W.Frag} {mg : Str → Option Value} {base : Heap}
/-! ### _law_numbers -/
theorem sc_law_numbers : FnScope n_law_numbers ["draws", "nodes"] (defScope s_law_numbers) := ⟨rfl, rfl, rfl, by decide +kernel, rfl, by decide +kernel, by decide +kernel⟩
def spNumbers : Sp := fun vs H Q _ => ∃ (p : Addr) (m k : Nat), vs = [.ref p, .int (m : Int)] ∧ m ≤ 100 ∧ DrAt H p k ∧ k + m + 1 ≤ 100000 ∧ ∀ (H' : Hp) (q : Addr) (ns : List Int), Keep p H H' → DrAt H' p (k + m + 1) → H q = none → H' q = some (.lst (ns.map V.int)) → ns.length = m → Near ns → Q (.ref q) H'
theorem ok_numbers (B : Bl mg) (N : Df P w K mg base "_law_next" 1 ["draws"] spNext) (a : At K mg "_law_numbers" s_law_numbers) : Df P w K mg base "_law_numbers" 2 ["draws", "nodes"] spNumbers := by
  refine Df.mk' a sc_law_numbers (fun vs H Q E h => ?_) (fun _ _ _ _ _ _ us hl => match us, hl with | [_, _], _ => rfl) (fun f cdv A outer s H vs Q E hr h => ?_)
  · obtain ⟨p, m, k, rfl, _⟩ := h
    rfl
  obtain ⟨p, m, k, rfl, hm, hd, hk, q⟩ := h
  refine ⟨_, (pss_cons (ps_set (i := 2) sc_law_numbers.nd rfl (.inr rfl) (pe_op op_add pe_int (pe_op op_mod (pe_callTy call_int1 (by rfl) B.int (by decide +kernel) (pa_cons (pe_df N hr (pa_cons (pv 0) pa_nil)) pa_nil)) (pe_op op_add (pe_op op_mul pe_int (pv 1)) pe_int))))
 (pss_one (ps_ret (pe_lc (own := [("k", 3)]) (g := (gName 3)) (tt := tYes) (by rfl) sc_law_numbers.nd (pi_range1 (by rfl) B.range (pa_cons (pv 1) pa_nil)) (blkOk_by (N := n_law_numbers) (sc := defScope s_law_numbers) (by decide +kernel)) (fun _ _ _ _ _ => (pg_name (i := 3) sc_law_numbers.nd rfl (.inl rfl))) (fun _ _ _ _ _ => pts_nil) (fun _ _ _ _ _ => (pe_op op_sub (pe_op op_mod (pe_callTy call_int1 (by rfl) B.int (by decide +kernel) (pa_cons (pe_df N hr (pa_cons (pv 0) pa_nil)) pa_nil)) (pv 2)) pe_int)))))), ?_⟩
  refine ⟨_, rfl, p, k, rfl, hd, by omega, fun H1 r1 kp1 d1 a1 a2 => .inl ⟨_, rfl, _, rfl, _, _, rfl, rfl, .inl ⟨by decide, by decide⟩, _, _, rfl, rfl, _, _, rfl, rfl, (by show (0 : Int) < 2 * (m : Int) + 2; omega), _, _, rfl, rfl, ?_⟩⟩
  have w1 := Int.emod_nonneg r1 (show 2 * (m : Int) + 2 ≠ 0 by omega)
  have w2 := Int.emod_lt_of_pos r1 (show 0 < 2 * (m : Int) + 2 by omega)
  refine ⟨_, rfl, _, rfl, by omega, by omega, fun D hD => ?_⟩
  have nDp : D ≠ p := d1.ne hD
  have nD0 : H D = none := by
    cases e : H D with
    | none => rfl
    | some o => cases hD.symm.trans (kp1 D o nDp e)
  refine lc_range (lo := 0) (n := m) (fun i H' => ∃ ns : List Int, Keep p H H' ∧ DrAt H' p (k + 1 + i) ∧ H' D = some (.lst (ns.map V.int)) ∧ ns.length = i ∧ Near ns) ⟨[], kp1.trans (Keep.new hD), d1.same (Same.new hD), upd_same, rfl, .nil⟩ (fun i H3 hi h3 => ?_) (fun H3 h3 => ?_)
  · obtain ⟨ns, kp3, d3, e3, l3, w3⟩ := h3
    refine ⟨rfl, ?_⟩
    refine ⟨_, rfl, p, k + 1 + i, rfl, d3, by omega, fun H4 r2 kp4 d4 b1 b2 => .inl ⟨_, rfl, _, rfl, _, _, rfl, rfl, (by show 0 < 1 + r1 % (2 * (m : Int) + 2); omega), _, _, rfl, rfl, _, kp4 D _ nDp e3, ?_, ?_⟩⟩
    · rw [List.length_map]
      exact small1000 (by omega)
    · have v1 := Int.emod_nonneg r2 (show 1 + r1 % (2 * (m : Int) + 2) ≠ 0 by omega)
      have v2 := Int.emod_lt_of_pos r2 (show 0 < 1 + r1 % (2 * (m : Int) + 2) by omega)
      refine ⟨ns ++ [r2 % (1 + r1 % (2 * (m : Int) + 2)) - 2], Keep.put nD0 (kp3.trans kp4), d4.put nDp, ?_, ?_, w3.snoc (by omega)⟩
      · rw [upd_same, List.map_append]
        rfl
      · rw [List.length_append, List.length_singleton, l3]
  · obtain ⟨ns, kp3, d3, e3, l3, w3⟩ := h3
    exact q H3 D ns kp3 (d3.mono (by omega)) nD0 e3 l3 w3
end
end HSP
namespace HSP
open PySem PySem.Spec PyProof.Rows L2
theorem tame_near {ns : List Int} (near : Near ns) : Tame ns := fun v hv => by
  have h := near v hv
  have e : (10 : Nat) ^ 30 = 1000000000000000000000000000000 := by decide +kernel
  rw [e]
  omega
theorem tame_small {is : List Int} (h : ∀ i, i ∈ is → -1000 ≤ i ∧ i ≤ 1000) : Tame is := fun v hv => by
  have h := h v hv
  have e : (10 : Nat) ^ 30 = 1000000000000000000000000000000 := by decide +kernel
  rw [e]
  omega
theorem okD_int {i : Int} (h : -1000 ≤ i ∧ i ≤ 1000) : okD (.int i) = true := by
  simp only [okD, decide_eq_true_eq]
  have e : (10 : Nat) ^ 30 = 1000000000000000000000000000000 := by decide +kernel
  rw [e]
  omega
/-- rows as bent asks for them -/
def RowsAt (H : Hp) (R : Addr) : Prop := ∃ (rs : List Addr) (rws : List (List Int)), H R = some (.lst (rs.map V.ref)) ∧ Paired (fun r (is : List Int) => H r = some (.lst (is.map V.int))) rs rws ∧ rws.length ≤ 20 ∧ ∀ r, r ∈ rws → r ≠ [] ∧ r.length ≤ 20 ∧ Tame r
theorem RowsAt.same {H H' : Hp} {R : Addr} (s : Same H H') (h : RowsAt H R) : RowsAt H' R := by
  obtain ⟨rs, rws, e, p, l⟩ := h
  exact ⟨rs, rws, s _ _ e, Paired.mapP p fun _ _ h => s _ _ h, l⟩
theorem RowsAt.keep {H H' : Hp} {R p : Addr} {k : Nat} (d : DrAt H p k) (s : Keep p H H') (h : RowsAt H R) : RowsAt H' R := by
  obtain ⟨rs, rws, e, q, l⟩ := h
  exact ⟨rs, rws, s _ _ (d.neRef e) e, Paired.mapP q fun _ _ h => s _ _ (d.neOf h) h, l⟩
theorem RowsAt.row {H : Hp} {r : Addr} {is : List Int} {rs : List Addr} {rws : List (List Int)} (p : Paired (fun r (is : List Int) => H r = some (.lst (is.map V.int))) rs rws) (ok : ∀ r, r ∈ rws → r ≠ [] ∧ r.length ≤ 20 ∧ Tame r) : ∀ z, z ∈ rs.map V.ref → RowL H z := fun z hz => by
  obtain ⟨t, ht, rfl⟩ := List.mem_map.mp hz
  obtain ⟨j, hj⟩ := List.mem_iff_getElem?.mp ht
  obtain ⟨row, hrow, et⟩ := Paired.getL p hj
  obtain ⟨_, l, tm⟩ := ok row (List.mem_of_getElem? hrow)
  exact ⟨t, row, rfl, et, by omega, tm⟩
theorem RowsAt.thing {K : PySem.W.Frag} {H : Hp} {R : Addr} (h : RowsAt H R) : ThG K H (.ref R) := by
  obtain ⟨rs, rws, e, p, l, ok⟩ := h
  have lp := Paired.length p
  exact thing_of e (fun z hz => (RowsAt.row (r := R) (is := []) p ok z hz).g) (by rw [List.length_map]; omega)
section
variable {P : Program} {w : World} {K : PySem.W.Frag} {mg : Str → Option Value} {base : Heap}
theorem th_not {H : Hp} {z : V} {d : PyData} (h : NotL K H z) (dp : DpE K H z d) (o : okD d = true) (n : ndD d ≤ 10000) (p : d.depth ≤ 4) : ThG K H z := ⟨none, d, h, trivial, dp, o, n, p⟩
/-- the things so far: the first two are rows of nodes -/
def SomeAt (K : PySem.W.Frag) (A : List Addr) (H : Hp) (S : Addr) (m : Nat) : Prop := ∃ (R0 R1 : Addr) (zs : List V), H S = some (.lst (.ref R0 :: .ref R1 :: zs)) ∧ RowsAt (rs A H) R0 ∧ RowsAt (rs A H) R1 ∧ zs.length ≤ m ∧ ∀ z, z ∈ zs → ThG K (rs A H) z
theorem SomeAt.same {A : List Addr} {H H' : Hp} {S : Addr} {m : Nat} (s : Same H H') (h : SomeAt K A H S m) : SomeAt K A H' S m := by
  obtain ⟨R0, R1, zs, e, h0, h1, l, g⟩ := h
  exact ⟨R0, R1, zs, s _ _ e, h0.same (rsS s), h1.same (rsS s), l, fun z hz => (g z hz).same (rsS s)⟩
theorem rl_g {H : Hp} {r : Addr} {is : List Int} (e : H r = some (.lst (is.map V.int))) (l : is.length ≤ 60) (t : Tame is) : RowG K H (.ref r) := RowL.g ⟨r, is, rfl, e, l, t⟩
theorem sc_law_right : FnScope n_law_right ["draws"] (defScope s_law_right) := ⟨rfl, rfl, rfl, by decide +kernel, rfl, by decide +kernel, by decide +kernel⟩
set_option maxHeartbeats 2000000 in
theorem ok_right (B : Bl mg) (Rp : mg "repr" = none) (N : Df P w K mg base "_law_next" 1 ["draws"] spNext) (Nu : Df P w K mg base "_law_numbers" 2 ["draws", "nodes"] spNumbers) (Mf : DfB P w K mg base "most_found" 10 ["values"] ["values"] spMostFound) (Be : Df P w K mg base "_law_bent" 2 ["draws", "rows", "nodes"] (spBent K)) (Du : Df P w K mg base "_law_due" 2 ["a_values", "rows"] (spDueRX K)) (Ar : DfB P w K mg base "are_rows" 3 ["values", "thing"] ["thing", "values"] (spAreRowsX K))
    (a : At K mg "_law_right" s_law_right) : DfG P w K mg base "_law_right" 12 ["draws"] spRight := by
  refine DfG.mk' a sc_law_right (fun vs H Q E h => ?_) (fun _ _ _ _ _ _ us hl => match us, hl with | [_], _ => rfl) (fun f cdv A outer s H vs Q E hg hr h => ?_)
  · obtain ⟨p, k, rfl, _⟩ := h
    rfl
  obtain ⟨p, k, rfl, hd, hk, q⟩ := h
  have zero : 0 ≤ sizeLine := by show 0 ≤ sizeLine; decide
  have one : 1 ≤ sizeLine := by show 1 ≤ sizeLine; decide
  have two : 2 ≤ sizeLine := by show 2 ≤ sizeLine; decide
  have three : 3 ≤ sizeLine := by show 3 ≤ sizeLine; decide
  have four : 4 ≤ sizeLine := by show 4 ≤ sizeLine; decide
  refine ⟨_, (pss_cons (ps_set (i := 1) sc_law_right.nd rfl (.inl rfl) (pe_df Nu (hr.mono (by decide)) (pa_cons (pv 0) (pa_cons (pe_op op_mod (pe_callTy call_int1 (by rfl) B.int (by decide +kernel) (pa_cons (pe_df N (hr.mono (by decide)) (pa_cons (pv 0) pa_nil)) pa_nil)) pe_int) pa_nil))))
 (C8.pss_cut (ps_set (i := 2) sc_law_right.nd rfl (.inl rfl) (pe_lst (pa_cons (pe_ix ix_tup (pe_df Mf.df (hr.mono (by decide)) (pa_cons (pv 1) pa_nil)) pe_int (fun _ _ => rfl)) (pa_cons (pe_lc (own := [("node", 7)]) (g := (gName 7)) (tt := tYes) (by rfl) sc_law_right.nd (pi_range1 (by rfl) B.range (pa_cons (pe_callB call_len_seq (by rfl) B.len PySem.boot_len (pa_cons (pv 1) pa_nil)) pa_nil)) (blkOk_by (N := n_law_right) (sc := defScope s_law_right) (by decide +kernel)) (fun _ _ _ _ _ => (pg_name (i := 7) sc_law_right.nd rfl (.inl rfl))) (fun _ _ _ _ _ => pts_nil) (fun _ _ _ _ _ => (pe_lst (pa_cons (pv 7) pa_nil)))) (pa_cons pe_non (pa_cons (pe_tup pa_nil) (pa_cons pe_dnewK (pa_cons pe_str (pa_cons (pe_lst (pa_cons (pe_lst pa_nil) pa_nil)) (pa_cons pe_int pa_nil))))))))))
 (C8.pss_cut (ps_set (i := 2) sc_law_right.nd rfl (.inl rfl) (pe_op op_cat (pv 2) (pe_lst (pa_cons (pe_lst (pa_cons (pe_lst (pa_cons pe_int (pa_cons pe_non pa_nil))) pa_nil)) (pa_cons (pe_lst (pa_cons (pe_lst (pa_cons pe_int pa_nil)) (pa_cons (pe_lst (pa_cons pe_non pa_nil)) pa_nil))) (pa_cons (pe_lc (own := [("row", 8)]) (g := (gName 8)) (tt := tYes) (by rfl) sc_law_right.nd (pi_list (pe_ix ix_list (pv 2) pe_int (fun _ _ => rfl))) (blkOk_by (N := n_law_right) (sc := defScope s_law_right) (by decide +kernel)) (fun _ _ _ _ _ => (pg_name (i := 8) sc_law_right.nd rfl (.inl rfl))) (fun _ _ _ _ _ => pts_nil) (fun _ _ _ _ _ => (pe_callTy (show CallR _ _ (fun xs H Q => ∃ p ys, xs = [V.ref p] ∧ ((SqL K H p ys ∧ ∀ l, H l = none → Q (.ref l) (upd H l (.tup ys))) ∨ (SqT K H p ys ∧ Q (.ref p) H))) from call_tuple_of) (by rfl) B.tuple (by decide +kernel) (pa_cons (pv 8) pa_nil)))) (pa_cons (pe_listRg rfl (by rfl) B.list (prg_1 (by rfl) B.range (pe_callB call_len_seq (by rfl) B.len PySem.boot_len (pa_cons (pv 1) pa_nil)))) pa_nil)))))))
 (C8.pss_cut (ps_set (i := 2) sc_law_right.nd rfl (.inl rfl) (pe_op op_cat (pv 2) (pe_lst (pa_cons (pe_lc (own := [("node", 7)]) (g := (gName 7)) (tt := tYes) (by rfl) sc_law_right.nd (pi_range1 (by rfl) B.range (pa_cons (pe_callB call_len_seq (by rfl) B.len PySem.boot_len (pa_cons (pv 1) pa_nil)) pa_nil)) (blkOk_by (N := n_law_right) (sc := defScope s_law_right) (by decide +kernel)) (fun _ _ _ _ _ => (pg_name (i := 7) sc_law_right.nd rfl (.inl rfl))) (fun _ _ _ _ _ => pts_nil) (fun _ _ _ _ _ => (pe_lst (pa_cons (pe_ix (show IxR _ (rIxL K) from ix_list) (pe_lst (pa_cons pe_bl (pa_cons pe_bl (pa_cons (pv 7) pa_nil)))) (pe_callB (call_min2 rfl) (by rfl) B.min (by decide +kernel) (pa_cons (pv 7) (pa_cons pe_int pa_nil))) (fun _ _ => rfl)) pa_nil)))) (pa_cons (pe_lst (pa_cons (pe_tup (pa_cons pe_int pa_nil)) pa_nil)) (pa_cons (pe_lst (pa_cons pe_bl pa_nil)) (pa_cons (pe_lst (pa_cons (pe_lst (pa_cons pe_bl (pa_cons pe_int pa_nil))) pa_nil)) pa_nil)))))))
 (C8.pss_cut (ps_set (i := 2) sc_law_right.nd rfl (.inl rfl) (pe_op op_cat (pv 2) (pe_lst (pa_cons (pe_lst (pa_cons (pe_lst (pa_cons (pe_op op_sub (pe_op op_sub pe_int (pe_callB call_len_seq (by rfl) B.len PySem.boot_len (pa_cons (pv 1) pa_nil))) pe_int) (pa_cons pe_int pa_nil))) pa_nil)) (pa_cons (pe_lst (pa_cons (pe_lst (pa_cons pe_int (pa_cons pe_bl pa_nil))) pa_nil)) pa_nil)))))
 (pss_cons (ps_for PassesOwn.never rfl (pi_range1 (by rfl) B.range (pa_cons pe_int pa_nil)) (pg_name (i := 3) sc_law_right.nd rfl (.inl rfl)) (pss_one (ps_expr (pe_bm PySem.F.plainAttrs_list PySem.F.slot_list_append PySem.F.type_list_append mt_append (pv 2) (pa_cons (pe_df Be (hr.mono (by decide)) (pa_cons (pv 0) (pa_cons (pe_ix ix_list (pv 2) (pe_op op_mod (pe_callTy call_int1 (by rfl) B.int (by decide +kernel) (pa_cons (pv 3) pa_nil)) pe_int) (fun _ _ => rfl)) (pa_cons (pe_callB call_len_seq (by rfl) B.len PySem.boot_len (pa_cons (pv 1) pa_nil)) pa_nil)))) pa_nil)))))
 (pss_cons (ps_for PassesOwn.never rfl (pi_list (pv 2)) (pg_name (i := 4) sc_law_right.nd rfl (.inl rfl)) (pss_cons (ps_set (i := 5) sc_law_right.nd rfl (.inl rfl) (pe_callB (cr_reprE hg hr.units) (by rfl) Rp (by decide +kernel) (pa_cons (pe_lst (pa_cons (pv 1) (pa_cons (pv 4) pa_nil))) pa_nil)))
 (pss_cons (ps_set (i := 6) sc_law_right.nd rfl (.inl rfl) (pe_df Du (hr.mono (by decide)) (pa_cons (pv 1) (pa_cons (pv 4) pa_nil))))
 (pss_cons (ps_if (pt_cmpR op_ne (pe_callTy (cr_strD hg hr.units) (by rfl) B.str (by decide +kernel) (pa_cons (pe_lst (pa_cons (pe_df Ar.df (hr.mono (by decide)) (pa_cons (pv 1) (pa_cons (pv 4) pa_nil))) (pa_cons (pe_dfK Ar (hr.mono (by decide))  (pk_cons (pv 4) (pk_cons (pv 1) pk_nil))) pa_nil))) pa_nil)) (pe_callTy (cr_strD hg hr.units) (by rfl) B.str (by decide +kernel) (pa_cons (pe_lst (pa_cons (pv 6) (pa_cons (pv 6) pa_nil))) pa_nil)) (nomark _)) (pss_one (ps_ret pe_bl)) pss_nil)
 (pss_one (ps_if (pt_cmpR op_ne (pe_callB (cr_reprE hg hr.units) (by rfl) Rp (by decide +kernel) (pa_cons (pe_lst (pa_cons (pv 1) (pa_cons (pv 4) pa_nil))) pa_nil)) (pv 5) (nomark _)) (pss_one (ps_ret pe_bl)) pss_nil))))))
 (pss_one (ps_ret pe_bl))))))))), ?_⟩
  -- the values
  refine ⟨_, rfl, _, rfl, p, k, rfl, hd, by omega, fun H1 r1 kp1 d1 a1 a2 => .inl ⟨_, rfl, _, _, rfl, rfl, (by show (0 : Int) < 13; decide), ?_⟩⟩
  have m1 := Int.emod_nonneg r1 (show (13 : Int) ≠ 0 by decide)
  have m2 := Int.emod_lt_of_pos r1 (show (0 : Int) < 13 by decide)
  obtain ⟨n, en⟩ : ∃ n : Nat, r1 % 13 = (n : Int) := ⟨(r1 % 13).toNat, by omega⟩
  refine ⟨p, n, k + 1, congrArg (fun z => [V.ref p, V.int z]) en, by omega, d1, by omega, fun H2 D ns kp2 d2 nD eD lD near => ?_⟩
  have kp12 := kp1.trans kp2
  have d2 := d2.mono (show k + 1 + n + 1 ≤ k + 20 by omega)
  have n13 : ns.length < 13 := by omega
  have tame := tame_near near
  clear kp1 d1 nD en m1 m2 a1 a2 r1 near kp2
  have tk2 : Trk [p] H2 := fun a ha z => by
    obtain ⟨_, _, _, e, _⟩ := d2
    rw [List.mem_singleton.mp ha, e] at z
    cases z
  -- the first eight
  refine ⟨fun σ H' => ∃ S : Addr, σ = [some (.ref p), some (.ref D), some (.ref S), none, none, none, none, none, none] ∧ Same H2 H' ∧ SomeAt K [p] H' S 6, ?_, fun σ H3 hX => ?_⟩
  · refine ⟨_, rfl, D, ns, rfl, eD, by omega, fun H3 T R v s3 eTp tv rw3 => ⟨T, _, _, _, rfl, rfl, .of eTp, atI_nat (j := 1) rfl, ?_⟩⟩
    obtain ⟨nR, rs0, eR, pR, _, fr⟩ := rw3
    have ok := rows_ok (valAt ns) ns.length
    have few := rows_le (valAt ns) ns.length
    have R0 : RowsAt (rs [p] H3) R := by
      refine ⟨rs0, (rowsOf (valAt ns) ns.length).map fun r => r.map Int.ofNat, rs_new tk2 nR eR, ?_, by rw [List.length_map]; omega, fun r hr2 => ?_⟩
      · have key : ∀ (as : List Addr) (l : List (List Nat)), (∀ r, r ∈ as → H2 r = none) → Paired (fun r (ns : List Nat) => H3 r = some (.lst (ns.map natV))) as l → Paired (fun r (is : List Int) => rs [p] H3 r = some (.lst (is.map V.int))) as (l.map fun r => r.map Int.ofNat) := fun as l hf q => by
          induction q with
          | nil => exact .nil
          | cons h _ ih => exact .cons (rs_new tk2 (hf _ List.mem_cons_self) (by rw [h, nats_ints])) (ih fun r hr => hf r (List.mem_cons_of_mem _ hr))
        exact key _ _ (fun r hr => (fr r hr).2) pR
      · obtain ⟨row, hrow, rfl⟩ := List.mem_map.mp hr2
        have sm := rows_small ok hrow
        refine ⟨fun z => ok.ne row hrow (List.map_eq_nil_iff.mp z), by rw [List.length_map]; omega, tame_small fun i hi => ?_⟩
        obtain ⟨x, hx, rfl⟩ := List.mem_map.mp hi
        have hx2 := ok.lt hrow hx
        show -1000 ≤ ((x : Nat) : Int) ∧ ((x : Nat) : Int) ≤ 1000
        omega
    have eD3 := s3 _ _ eD
    refine ⟨_, rfl, D, _, rfl, .inl (.of eD3), _, rfl, by omega, by rw [List.length_map]; omega, fun C hC => ?_⟩
    refine lc_range (lo := 0) (n := (((ns.map V.int).length : Nat) : Int).toNat) (fun i H' => Same H3 H' ∧ ∃ ts : List Addr, H' C = some (.lst (ts.map V.ref)) ∧ Paired (fun t (is : List Int) => H' t = some (.lst (is.map V.int)) ∧ t ≠ C ∧ t ∉ [p]) ts ((List.range i).map fun (j : Nat) => [((j : Nat) : Int)])) ⟨Same.new hC, [], upd_same, .nil⟩ (fun i H4 hi h4 => ?_) (fun H4 h4 => ?_)
    · obtain ⟨s4, ts, e4, p4⟩ := h4
      rw [List.length_map] at hi
      have lp := Paired.length p4
      rw [List.length_map, List.length_range] at lp
      refine ⟨rfl, ?_⟩
      refine ⟨_, rfl, one, fun t ht => ?_⟩
      have st := Same.new (o := .lst [V.int (0 + (i : Int))]) ht
      have ntC : t ≠ C := (ne_of_none e4 ht).symm
      refine ⟨_, st _ _ e4, ?_, fun b o eb => ?_, ts ++ [t], ?_, ?_⟩
      · rw [List.length_map]
        show _ < 16777216
        omega
      · rw [upd_ne (ne_of_none eb hC)]
        exact st _ _ (s4 _ _ eb)
      · rw [upd_same, List.map_append]
        rfl
      · rw [List.range_succ, List.map_append]
        refine Paired.app (Paired.mapP p4 fun a is h => ⟨?_, h.2⟩) (.cons ⟨?_, ntC, (tk2.same (s3.trans s4)).out ht⟩ .nil)
        · rw [upd_ne h.2.1]
          exact st _ _ h.1
        · rw [upd_ne ntC, upd_same]
          exact congrArg (fun z => some (HO.lst [V.int z])) (by omega)
    obtain ⟨s4, ts, eC, pC⟩ := h4
    have R1 : RowsAt (rs [p] H4) C := by
      refine ⟨ts, _, rs_new (tk2.same s3) hC eC, Paired.mapP pC fun _ _ h => rs_in h.2.2 h.1, by rw [List.length_map, List.length_range, List.length_map]; omega, fun r hr2 => ?_⟩
      obtain ⟨j, hj, rfl⟩ := List.mem_map.mp hr2
      have hj := List.mem_range.mp hj
      rw [List.length_map] at hj
      refine ⟨by simp, by simp, tame_small fun i hi => ?_⟩
      rw [List.mem_singleton.mp hi]
      omega
    have R0 := R0.same (rsS s4)
    have tk4 := tk2.same (s3.trans s4)
    refine ⟨zero, fun t0 n0 => fun d0 m0 => ⟨zero, fun x0 nx0 => ⟨one, fun x1 nx1 => ⟨(by show 8 ≤ sizeLine; decide), fun S nS => ?_⟩⟩⟩⟩
    have q1 := Same.new (o := .tup []) n0
    have q2 := Same.new (o := .dK []) m0
    have q3 := Same.new (o := .lst []) nx0
    have q4 := Same.new (o := .lst [V.ref x0]) nx1
    have q5 := Same.new (o := .lst [V.ref R, V.ref C, V.non, V.ref t0, V.ref d0, V.str "", V.ref x1, V.int 5]) nS
    have f4 := q4.trans q5
    have f3 := q3.trans f4
    have f2 := q2.trans f3
    have f1 := q1.trans f2
    refine ⟨S, rfl, s3.trans (s4.trans f1), R, C, _, upd_same, R0.same (rsS f1), R1.same (rsS f1), by show 6 ≤ 6; decide, fun z hz => ?_⟩
    simp only [List.mem_cons, List.not_mem_nil, or_false] at hz
    rcases hz with rfl | rfl | rfl | rfl | rfl | rfl
    · exact th_not notL_non .non' (by decide +kernel) (by decide +kernel) (by decide +kernel)
    · exact th_not (d := .tuple []) (notL_tup (rs_new tk4 n0 (f2 _ _ upd_same))) (.tup' (.of (rs_new tk4 n0 (f2 _ _ upd_same))) .nil') (by decide +kernel) (by decide +kernel) (by decide +kernel)
    · exact th_not (notL_dict (rs_new (tk4.same q1) m0 (f3 _ _ upd_same))) (.emp (rs_new (tk4.same q1) m0 (f3 _ _ upd_same))) rfl (by decide +kernel) (by decide +kernel)
    · exact th_not notL_str (.str' _) (by decide +kernel) (by decide +kernel) (by decide +kernel)
    · refine thing_of (rs_new (tk4.same (q1.trans (q2.trans q3))) nx1 (q5 _ _ upd_same)) (fun y hy => ?_) (by show 1 ≤ 100; decide)
      rw [List.mem_singleton.mp hy]
      exact rl_g (is := []) (rs_new (tk4.same (q1.trans q2)) nx0 (f4 _ _ upd_same)) (by decide) fun v h => (by cases h)
    · exact th_not notL_int (.int' 5) (by decide +kernel) (by decide +kernel) (by decide +kernel)
  obtain ⟨S, rfl, s23, so⟩ := hX
  have eD3 := s23 _ _ eD
  have tk3 := tk2.same s23
  -- four more
  refine ⟨fun σ H' => ∃ S : Addr, σ = [some (.ref p), some (.ref D), some (.ref S), none, none, none, none, none, none] ∧ Same H3 H' ∧ SomeAt K [p] H' S 10, ?_, fun σ H4 hX => ?_⟩
  · obtain ⟨R0, R1, zs, eS, h0, h1, lz, gz⟩ := so
    refine ⟨_, rfl, two, fun x1 n1 => ⟨one, fun x2 n2 => ⟨one, fun x3 n3 => ⟨one, fun x4 n4 => ⟨two, fun x5 n5 => ?_⟩⟩⟩⟩⟩
    have q1 := Same.new (o := .lst [V.int 0, V.non]) n1
    have q2 := Same.new (o := .lst [V.ref x1]) n2
    have q3 := Same.new (o := .lst [V.int 0]) n3
    have q4 := Same.new (o := .lst [V.non]) n4
    have q5 := Same.new (o := .lst [V.ref x3, V.ref x4]) n5
    have f4 := q4.trans q5
    have f3 := q3.trans f4
    have f2 := q2.trans f3
    have f1 := q1.trans f2
    have t1 : ThG K (rs [p] (upd (upd (upd (upd (upd H3 x1 (.lst [V.int 0, V.non])) x2 (.lst [V.ref x1])) x3 (.lst [V.int 0])) x4 (.lst [V.non])) x5 (.lst [V.ref x3, V.ref x4]))) (.ref x2) := by
      refine thing_of (rs_new (tk3.same q1) n2 (f3 _ _ upd_same)) (fun y hy => ?_) (by show 1 ≤ 100; decide)
      rw [List.mem_singleton.mp hy]
      exact rg_lst (is := [some 0, none]) (ds := [.int 0, .none]) (rs_new tk3 n1 (f2 _ _ upd_same)) (.cons rfl (.cons wh_non .nil)) (by decide) (.cons' (.int' 0) (.cons' .non' .nil')) (by decide +kernel) (by decide +kernel) (by decide +kernel)
    have t2 : ThG K (rs [p] (upd (upd (upd (upd (upd H3 x1 (.lst [V.int 0, V.non])) x2 (.lst [V.ref x1])) x3 (.lst [V.int 0])) x4 (.lst [V.non])) x5 (.lst [V.ref x3, V.ref x4]))) (.ref x5) := by
      refine thing_of (rs_new (tk3.same (q1.trans (q2.trans (q3.trans q4)))) n5 upd_same) (fun y hy => ?_) (by show 2 ≤ 100; decide)
      simp only [List.mem_cons, List.not_mem_nil, or_false] at hy
      rcases hy with rfl | rfl
      · exact rl_g (is := [0]) (rs_new (tk3.same (q1.trans q2)) n3 (f4 _ _ upd_same)) (by decide) (tame_small fun i hi => by rw [List.mem_singleton.mp hi]; decide)
      · exact rg_lst (is := [none]) (ds := [.none]) (rs_new (tk3.same (q1.trans (q2.trans q3))) n4 (q5 _ _ upd_same)) (.cons wh_non .nil) (by decide) (.cons' .non' .nil') (by decide +kernel) (by decide +kernel) (by decide +kernel)
    have eS5 := f1 _ _ eS
    have h15 := (h1.same (rsS f1)).same rs_sub
    have tk5 := tk3.same f1
    have eD5 := f1 _ _ eD3
    generalize upd (upd (upd (upd (upd H3 x1 (.lst [V.int 0, V.non])) x2 (.lst [V.ref x1])) x3 (.lst [V.int 0])) x4 (.lst [V.non])) x5 (.lst [V.ref x3, V.ref x4]) = H5 at f1 t1 t2 eS5 h15 eD5 tk5 ⊢
    clear q1 q2 q3 q4 q5 f2 f3 f4 n1 n2 n3 n4 n5
    obtain ⟨rs1, rws1, eR1, pR1, l20, ok1⟩ := h15
    have lr1 := Paired.length pR1
    refine ⟨_, rfl, S, _, _, _, rfl, rfl, .of eS5, atI_nat (j := 1) rfl, R1, rfl, ⟨_, .of eR1⟩, fun C hC => ?_⟩
    refine lc_list (xs := rs1.map V.ref) (fun i H' => Same H5 H' ∧ ∃ ts : List Addr, H' C = some (.lst (ts.map V.ref)) ∧ Paired (fun t (is : List Int) => H' t = some (.tup (is.map V.int)) ∧ t ∉ [p]) ts (rws1.take i)) ⟨Same.new hC, [], upd_same, .nil⟩ (fun i H' _ h' => .of (h'.1 _ _ eR1)) (fun i x H6 hx h6 => ?_) (fun H6 h6 => ?_)
    · obtain ⟨s6, ts, e6, p6⟩ := h6
      rw [List.getElem?_map] at hx
      obtain ⟨r, hr2, rfl⟩ := Option.map_eq_some_iff.mp hx
      obtain ⟨row, hrow, er⟩ := Paired.getL pR1 hr2
      have lp := Paired.length p6
      rw [List.length_take] at lp
      refine ⟨rfl, ?_⟩
      refine ⟨_, rfl, r, _, rfl, .inl ⟨.of (s6 _ _ er), fun t ht => ?_⟩⟩
      have st := Same.new (o := .tup (row.map V.int)) ht
      have e7 := st _ _ e6
      refine ⟨_, e7, ?_, fun b o eb => ?_, ts ++ [t], ?_, ?_⟩
      · rw [List.length_map]
        show _ < 16777216
        omega
      · rw [upd_ne (ne_of_none eb hC)]
        exact st _ _ (s6 _ _ eb)
      · rw [upd_same, List.map_append]
        rfl
      · rw [List.take_add_one, hrow]
        refine Paired.app (Paired.mapP p6 fun a is h => ⟨?_, h.2⟩) (.cons ⟨?_, (tk5.same s6).out ht⟩ .nil)
        · rw [upd_ne (tup_ne h.1 e6)]
          exact st _ _ h.1
        · rw [upd_ne (ne_of_none e6 ht).symm, upd_same]
    obtain ⟨s6, ts, eC, pC⟩ := h6
    rw [List.length_map, lr1, List.take_length] at pC
    have lC := Paired.length pC
    have t3 : ThG K (rs [p] H6) (.ref C) := by
      refine thing_of (rs_new tk5 hC eC) (fun y hy => ?_) (by rw [List.length_map]; omega)
      obtain ⟨t, ht, rfl⟩ := List.mem_map.mp hy
      obtain ⟨j, hj⟩ := List.mem_iff_getElem?.mp ht
      obtain ⟨row, hrow, et, nt⟩ := Paired.getL pC hj
      have et := rs_in nt et
      obtain ⟨_, l, tm⟩ := ok1 row (List.mem_of_getElem? hrow)
      obtain ⟨g1, g2, g3⟩ := ints_okD tm
      refine rg_not (d := .tuple (row.map PyData.int)) (notL_tup et) (DpE.of _ _ (.tup (.of et) (ints_dpAll row))) ?_ ?_ ?_
      · unfold intsD at g1
        simp only [okD] at g1 ⊢
        exact g1
      · unfold intsD at g2
        simp only [ndD] at g2 ⊢
        omega
      · unfold intsD at g3
        simp only [PyData.depth] at g3 ⊢
        omega
    have eD6 := s6 _ _ eD5
    refine ⟨_, rfl, D, _, rfl, .inl (.of eD6), ?_⟩
    rw [List.length_map]
    refine ⟨_, rfl, RgOk.of_le (by omega) (by omega) (by omega) (by omega), fun q0 hq0 => ?_⟩
    have e0 : rgV 0 ((ns.length : Nat) : Int) = (List.range ns.length).map natV := by
      unfold rgV
      rw [show (((ns.length : Nat) : Int) - 0).toNat = ns.length by omega]
      exact List.map_congr_left fun i _ => congrArg V.int (by omega)
    rw [e0]
    have s7 := Same.new (o := .lst ((List.range ns.length).map natV)) hq0
    have t4 : ThG K (rs [p] (upd H6 q0 (.lst ((List.range ns.length).map natV)))) (.ref q0) := by
      refine thing_of (rs_new (tk5.same s6) hq0 upd_same) (fun y hy => ?_) (by rw [List.length_map, List.length_range]; omega)
      obtain ⟨i, hi, rfl⟩ := List.mem_map.mp hy
      have hi := List.mem_range.mp hi
      exact rg_not notL_int (.int' _) (okD_int (by omega)) (by simp [ndD]) (by simp [PyData.depth])
    refine ⟨four, fun F nF => ?_⟩
    have s8 := Same.new (o := .lst [V.ref x2, V.ref x5, V.ref C, V.ref q0]) nF
    have s58 := s6.trans (s7.trans s8)
    refine ⟨S, F, _, _, rfl, rfl, s58 _ _ eS5, upd_same, cat_le (by show zs.length + 1 + 1 ≤ 200; omega) (by show 4 ≤ 200; decide), fun S2 nS2 => ?_⟩
    have s9 := Same.new (o := .lst (V.ref R0 :: V.ref R1 :: zs ++ [V.ref x2, V.ref x5, V.ref C, V.ref q0])) nS2
    have s59 := s58.trans s9
    have s39 := f1.trans s59
    refine ⟨S2, rfl, s39, R0, R1, zs ++ [V.ref x2, V.ref x5, V.ref C, V.ref q0], upd_same, h0.same (rsS s39), h1.same (rsS s39), by rw [List.length_append]; show _ + 4 ≤ 10; omega, fun z hz => ?_⟩
    simp only [List.mem_append, List.mem_cons, List.not_mem_nil, or_false] at hz
    rcases hz with g | rfl | rfl | rfl | rfl
    · exact (gz z g).same (rsS s39)
    · exact t1.same (rsS s59)
    · exact t2.same (rsS s59)
    · exact t3.same (rsS (s7.trans (s8.trans s9)))
    · exact t4.same (rsS (s8.trans s9))
  obtain ⟨S, rfl, s34, so⟩ := hX
  have eD4 := s34 _ _ eD3
  have tk4 := tk3.same s34
  -- four more
  refine ⟨fun σ H' => ∃ S : Addr, σ = [some (.ref p), some (.ref D), some (.ref S), none, none, none, none, none, none] ∧ Same H4 H' ∧ SomeAt K [p] H' S 14, ?_, fun σ H5 hX => ?_⟩
  · obtain ⟨R0, R1, zs, eS, h0, h1, lz, gz⟩ := so
    refine ⟨_, rfl, _, rfl, D, _, rfl, .inl (.of eD4), _, rfl, by omega, by rw [List.length_map]; omega, fun C hC => ?_⟩
    refine lc_range (lo := 0) (n := (((ns.map V.int).length : Nat) : Int).toNat) (fun i H' => Same H4 H' ∧ ∃ ts : List Addr, H' C = some (.lst (ts.map V.ref)) ∧ ts.length = i ∧ ∀ t, t ∈ ts → RowG K (rs [p] H') (.ref t) ∧ t ≠ C ∧ t ∉ [p] ∧ ∃ v, H' t = some (.lst [v]) ∧ ((∃ b, v = .bl b) ∨ ∃ i : Int, v = .int i ∧ -1000 ≤ i ∧ i ≤ 1000)) ⟨Same.new hC, [], upd_same, rfl, fun t h => (by cases h)⟩ (fun i H5 hi h5 => ?_) (fun H5 h5 => ?_)
    · obtain ⟨s5, ts, e5, l5, g5⟩ := h5
      rw [List.length_map] at hi
      refine ⟨rfl, ?_⟩
      refine ⟨_, rfl, three, fun y1 ny1 => ?_⟩
      have sy := Same.new (o := .lst [V.bl false, V.bl true, V.int (0 + (i : Int))]) ny1
      obtain ⟨x, hx, gx⟩ := at_any (xs := [V.bl false, V.bl true, V.int (0 + (i : Int))]) (C := fun v => (∃ b, v = V.bl b) ∨ ∃ i : Int, v = V.int i ∧ -1000 ≤ i ∧ i ≤ 1000) (fun x hx => by
        simp only [List.mem_cons, List.not_mem_nil, or_false] at hx
        rcases hx with rfl | rfl | rfl
        · exact .inl ⟨_, rfl⟩
        · exact .inl ⟨_, rfl⟩
        · exact .inr ⟨_, rfl, by omega, by omega⟩) (i := if (2 : Int) < 0 + (i : Int) then 2 else 0 + (i : Int)) (by split <;> omega) (by show _ < (3 : Int); split <;> omega)
      refine ⟨_, rfl, _, _, rfl, y1, _, _, _, rfl, rfl, .of upd_same, hx, one, fun t ht => ?_⟩
      have st := Same.new (o := .lst [x]) ht
      have s2 := sy.trans st
      have e7 := s2 _ _ e5
      have ntC : t ≠ C := (ne_of_none (sy _ _ e5) ht).symm
      refine ⟨_, e7, ?_, fun b o eb => ?_, ts ++ [t], ?_, by rw [List.length_append, List.length_singleton, l5], fun t2 ht2 => ?_⟩
      · rw [List.length_map]
        show _ < 16777216
        omega
      · rw [upd_ne (ne_of_none eb hC)]
        exact s2 _ _ (s5 _ _ eb)
      · rw [upd_same, List.map_append]
        rfl
      · have put : ∀ (t3 : Addr) (v : V), t3 ≠ C → t3 ∉ [p] → (upd (upd H5 y1 (.lst [V.bl false, V.bl true, V.int (0 + (i : Int))])) t (.lst [x])) t3 = some (.lst [v]) → ((∃ b, v = V.bl b) ∨ ∃ i : Int, v = V.int i ∧ -1000 ≤ i ∧ i ≤ 1000) → RowG K (rs [p] (upd (upd (upd H5 y1 (.lst [V.bl false, V.bl true, V.int (0 + (i : Int))])) t (.lst [x])) C (.lst (ts.map V.ref ++ [V.ref t])))) (.ref t3) ∧ t3 ≠ C ∧ t3 ∉ [p] ∧ ∃ v, (upd (upd (upd H5 y1 (.lst [V.bl false, V.bl true, V.int (0 + (i : Int))])) t (.lst [x])) C (.lst (ts.map V.ref ++ [V.ref t]))) t3 = some (.lst [v]) ∧ ((∃ b, v = V.bl b) ∨ ∃ i : Int, v = V.int i ∧ -1000 ≤ i ∧ i ≤ 1000) := fun t3 v nt np e3 gv => by
          have e4 : (upd (upd (upd H5 y1 (.lst [V.bl false, V.bl true, V.int (0 + (i : Int))])) t (.lst [x])) C (.lst (ts.map V.ref ++ [V.ref t]))) t3 = some (.lst [v]) := by
            rw [upd_ne nt]
            exact e3
          refine ⟨?_, nt, np, v, e4, gv⟩
          have e4 := rs_in np e4
          rcases gv with ⟨b, rfl⟩ | ⟨j, rfl, j1, j2⟩
          · exact rg_lst (is := [none]) (ds := [.bool b]) e4 (.cons whole_bool .nil) (by decide) (.cons' (.bl' b) .nil') (by simp [okDs, okD]) (by simp [ndDs, ndD]) (by simp [PyData.depthAll, PyData.depth])
          · exact rg_lst (is := [some j]) (ds := [.int j]) e4 (.cons rfl .nil) (by show 1 ≤ 60; decide) (.cons' (.int' j) .nil') (by simp only [okDs, Bool.and_true]; exact okD_int ⟨j1, j2⟩) (by simp [ndDs, ndD]) (by simp [PyData.depthAll, PyData.depth])
        rcases List.mem_append.mp ht2 with g | g
        · obtain ⟨_, nt, np, v, e3, gv⟩ := g5 t2 g
          exact put t2 v nt np (s2 _ _ e3) gv
        · rw [List.mem_singleton.mp g]
          exact put t x ntC ((tk4.same (s5.trans sy)).out ht) upd_same gx
    obtain ⟨s5, ts, eC, l5, g5⟩ := h5
    rw [List.length_map] at l5
    have t1 : ThG K (rs [p] H5) (.ref C) := by
      refine thing_of (rs_new tk4 hC eC) (fun y hy => ?_) (by rw [List.length_map]; omega)
      obtain ⟨t, ht, rfl⟩ := List.mem_map.mp hy
      exact (g5 t ht).1
    refine ⟨one, fun x1 n1 => ⟨one, fun x2 n2 => ⟨one, fun x3 n3 => ⟨two, fun x4 n4 => ⟨one, fun x5 n5 => ⟨four, fun F nF => ?_⟩⟩⟩⟩⟩⟩
    have q1 := Same.new (o := .tup [V.int 0]) n1
    have q2 := Same.new (o := .lst [V.ref x1]) n2
    have q3 := Same.new (o := .lst [V.bl false]) n3
    have q4 := Same.new (o := .lst [V.bl true, V.int 0]) n4
    have q5 := Same.new (o := .lst [V.ref x4]) n5
    have q6 := Same.new (o := .lst [V.ref C, V.ref x2, V.ref x3, V.ref x5]) nF
    have f5 := q5.trans q6
    have f4 := q4.trans f5
    have f3 := q3.trans f4
    have f2 := q2.trans f3
    have f1 := q1.trans f2
    have s4F := s5.trans f1
    have tk5 := tk4.same s5
    refine ⟨S, F, _, _, rfl, rfl, s4F _ _ eS, upd_same, cat_le (by show zs.length + 1 + 1 ≤ 200; omega) (by show 4 ≤ 200; decide), fun S2 nS2 => ?_⟩
    have s9 := Same.new (o := .lst (V.ref R0 :: V.ref R1 :: zs ++ [V.ref C, V.ref x2, V.ref x3, V.ref x5])) nS2
    have s49 := s4F.trans s9
    refine ⟨S2, rfl, s49, R0, R1, zs ++ [V.ref C, V.ref x2, V.ref x3, V.ref x5], upd_same, h0.same (rsS s49), h1.same (rsS s49), by rw [List.length_append]; show _ + 4 ≤ 14; omega, fun z hz => ?_⟩
    simp only [List.mem_append, List.mem_cons, List.not_mem_nil, or_false] at hz
    rcases hz with g | rfl | rfl | rfl | rfl
    · exact (gz z g).same (rsS s49)
    · exact t1.same (rsS (f1.trans s9))
    · refine thing_of (rs_new (tk5.same q1) n2 (s9 _ _ (f3 _ _ upd_same))) (fun y hy => ?_) (by show 1 ≤ 100; decide)
      rw [List.mem_singleton.mp hy]
      have e := rs_new tk5 n1 (s9 _ _ (f2 x1 (.tup [V.int 0]) upd_same))
      exact rg_not (d := .tuple [.int 0]) (notL_tup e) (.tup' (.of e) (.cons' (.int' 0) .nil')) (by decide +kernel) (by decide +kernel) (by decide +kernel)
    · refine thing_of (rs_new (tk5.same (q1.trans q2)) n3 (s9 _ _ (f4 _ _ upd_same))) (fun y hy => ?_) (by decide)
      rw [List.mem_singleton.mp hy]
      exact rg_not notL_bl (.bl' _) (by decide +kernel) (by decide +kernel) (by decide +kernel)
    · refine thing_of (rs_new (tk5.same (q1.trans (q2.trans (q3.trans q4)))) n5 (s9 _ _ (q6 _ _ upd_same))) (fun y hy => ?_) (by show 1 ≤ 100; decide)
      rw [List.mem_singleton.mp hy]
      exact rg_lst (is := [none, some 0]) (ds := [.bool true, .int 0]) (rs_new (tk5.same (q1.trans (q2.trans q3))) n4 (s9 _ _ (f5 _ _ upd_same))) (.cons whole_bool (.cons rfl .nil)) (by decide) (.cons' (.bl' true) (.cons' (.int' 0) .nil')) (by decide +kernel) (by decide +kernel) (by decide +kernel)
  obtain ⟨S, rfl, s45, so⟩ := hX
  have eD5 := s45 _ _ eD4
  have tk5 := tk4.same s45
  -- two more
  refine ⟨fun σ H' => ∃ S : Addr, σ = [some (.ref p), some (.ref D), some (.ref S), none, none, none, none, none, none] ∧ Same H5 H' ∧ H5 S = none ∧ SomeAt K [p, S] H' S 16, ?_, fun σ H6 hX => ?_⟩
  · obtain ⟨R0, R1, zs, eS, h0, h1, lz, gz⟩ := so
    refine ⟨_, rfl, _, rfl, D, _, rfl, .inl (.of eD5), _, _, rfl, rfl, _, _, rfl, rfl, two, fun x1 n1 => ⟨one, fun x2 n2 => ⟨two, fun x3 n3 => ⟨one, fun x4 n4 => ⟨two, fun F nF => ?_⟩⟩⟩⟩⟩
    have q1 := Same.new (o := .lst [V.int (0 - (((ns.map V.int).length : Nat) : Int) - 1), V.int 0]) n1
    have q2 := Same.new (o := .lst [V.ref x1]) n2
    have q3 := Same.new (o := .lst [V.int 0, V.bl true]) n3
    have q4 := Same.new (o := .lst [V.ref x3]) n4
    have q5 := Same.new (o := .lst [V.ref x2, V.ref x4]) nF
    have f4 := q4.trans q5
    have f3 := q3.trans f4
    have f2 := q2.trans f3
    have f1 := q1.trans f2
    refine ⟨S, F, _, _, rfl, rfl, f1 _ _ eS, upd_same, cat_le (by show zs.length + 1 + 1 ≤ 200; omega) (by show 2 ≤ 200; decide), fun S2 nS2 => ?_⟩
    have s9 := Same.new (o := .lst (V.ref R0 :: V.ref R1 :: zs ++ [V.ref x2, V.ref x4])) nS2
    have s59 := f1.trans s9
    have r59 : Same (rs [p] H5) (rs [p, S2] (upd (upd (upd (upd (upd (upd H5 x1 (.lst [V.int (0 - (((ns.map V.int).length : Nat) : Int) - 1), V.int 0])) x2 (.lst [V.ref x1])) x3 (.lst [V.int 0, V.bl true])) x4 (.lst [V.ref x3])) F (.lst [V.ref x2, V.ref x4])) S2 (.lst (V.ref R0 :: V.ref R1 :: zs ++ [V.ref x2, V.ref x4])))) := fun b o e => by
      obtain ⟨h1, h2⟩ := rs_up e
      refine rs_in (fun z => ?_) (s59 _ _ h2)
      rcases List.mem_cons.mp z with z | z
      · exact h1 (List.mem_singleton.mpr z)
      · have := f1 _ _ h2
        rw [List.mem_singleton.mp z, nS2] at this
        cases this
    have tkF := tk5.same f1
    have two2 : ∀ (Hq : Hp) (v : Addr) (o : HO), Same H5 Hq → Hq v = none → Same (upd Hq v o) (upd (upd (upd (upd (upd H5 x1 (.lst [V.int (0 - (((ns.map V.int).length : Nat) : Int) - 1), V.int 0])) x2 (.lst [V.ref x1])) x3 (.lst [V.int 0, V.bl true])) x4 (.lst [V.ref x3])) F (.lst [V.ref x2, V.ref x4])) → rs [p, S2] (upd (upd (upd (upd (upd (upd H5 x1 (.lst [V.int (0 - (((ns.map V.int).length : Nat) : Int) - 1), V.int 0])) x2 (.lst [V.ref x1])) x3 (.lst [V.int 0, V.bl true])) x4 (.lst [V.ref x3])) F (.lst [V.ref x2, V.ref x4])) S2 (.lst (V.ref R0 :: V.ref R1 :: zs ++ [V.ref x2, V.ref x4]))) v = some o := fun Hq v o sq nv sv => by
      have ev := sv _ _ (upd_same (H := Hq) (a := v) (o := o))
      refine rs_in (fun z => ?_) (s9 _ _ ev)
      rcases List.mem_cons.mp z with z | z
      · exact (tk5.same sq).out nv (List.mem_singleton.mpr z)
      · rw [List.mem_singleton.mp z, nS2] at ev
        cases ev
    refine ⟨S2, rfl, s59, f1.free nS2, R0, R1, zs ++ [V.ref x2, V.ref x4], upd_same, h0.same r59, h1.same r59, by rw [List.length_append]; show _ + 2 ≤ 16; omega, fun z hz => ?_⟩
    simp only [List.mem_append, List.mem_cons, List.not_mem_nil, or_false] at hz
    rcases hz with g | rfl | rfl
    · exact (gz z g).same r59
    · refine thing_of (two2 _ _ _ q1 n2 f3) (fun y hy => ?_) (by show 1 ≤ 100; decide)
      rw [List.mem_singleton.mp hy]
      refine rl_g (is := [0 - (((ns.map V.int).length : Nat) : Int) - 1, 0]) (two2 _ _ _ (Same.refl _) n1 f2) (by show 2 ≤ 60; decide) (tame_small fun i hi => ?_)
      rw [List.length_map] at hi
      simp only [List.mem_cons, List.not_mem_nil, or_false] at hi
      omega
    · refine thing_of (two2 _ _ _ (q1.trans (q2.trans q3)) n4 q5) (fun y hy => ?_) (by show 1 ≤ 100; decide)
      rw [List.mem_singleton.mp hy]
      exact rg_lst (is := [some 0, none]) (ds := [.int 0, .bool true]) (two2 _ _ _ (q1.trans q2) n3 f4) (.cons rfl (.cons whole_bool .nil)) (by decide) (.cons' (.int' 0) (.cons' (.bl' true) .nil')) (by decide +kernel) (by decide +kernel) (by decide +kernel)
  obtain ⟨S, rfl, s56, nS5, so⟩ := hX
  have eD6 := s56 _ _ eD5
  have s25 := s23.trans (s34.trans s45)
  have s26 := s25.trans s56
  have kp6 := kp12.trans (.of s26)
  have d6 := d2.same s26
  have nS2 := s25.free nS5
  have nSp : S ≠ p := d2.ne nS2
  have nS0 : H S = none := kp12.free nSp nS2
  clear s23 s34 s45 s56 s26 s25 eD3 eD4 eD5 tk2 tk3 tk4 tk5 nS5
  -- ten more
  refine ⟨_, rfl, by decide, by decide, for_range (lo := 0) (n := 10) (fun i σ H' => ∃ y3 : Option V, σ = [some (.ref p), some (.ref D), some (.ref S), y3, none, none, none, none, none] ∧ Stay [p, S] H6 H' ∧ DrAt H' p (k + 20 + i) ∧ H' D = some (.lst (ns.map V.int)) ∧ SomeAt K [p, S] H' S (16 + i)) ⟨none, rfl, .refl _ _, d6, eD6, so⟩ (fun i σ H7 hi h7 => ?_) (fun σ H7 h7 => ?_)⟩
  · obtain ⟨y3, rfl, st7, d7, eD7, R0, R1, zs, eS, h0, h1, lz, gz⟩ := h7
    have nDp : D ≠ p := d7.neOf eD7
    have nDS : D ≠ S := fun z => by
      rw [z, eS] at eD7
      have h := HO.lst.inj (Option.some.inj eD7)
      cases ns with
      | nil => cases h
      | cons _ _ => cases h
    obtain ⟨R, hx, hR⟩ : ∃ R, atI (.ref R0 :: .ref R1 :: zs) ((0 + (i : Int)) % 2) = some (.ref R) ∧ RowsAt (rs [p, S] H7) R := by
      have c1 := Int.emod_nonneg (0 + (i : Int)) (show (2 : Int) ≠ 0 by decide)
      have c2 := Int.emod_lt_of_pos (0 + (i : Int)) (show (0 : Int) < 2 by decide)
      by_cases c : (0 + (i : Int)) % 2 = 0
      · exact ⟨R0, by rw [c]; exact atI_nat (j := 0) rfl, h0⟩
      · exact ⟨R1, by rw [show (0 + (i : Int)) % 2 = 1 by omega]; exact atI_nat (j := 1) rfl, h1⟩
    have tk7 : Trk [p, S] H7 := fun a ha z => by
      rcases List.mem_cons.mp ha with e | e
      · obtain ⟨_, _, _, e2, _⟩ := d7
        rw [e, e2] at z
        cases z
      · rw [List.mem_singleton.mp e, eS] at z
        cases z
    obtain ⟨rs0, rws, eR, pR, l20, okr⟩ := hR.same rs_sub
    refine ⟨_, rfl, .inl ⟨rfl, _, .of eS⟩, _, rfl, _, rfl, _, rfl, .inl ⟨_, rfl, _, _, rfl, rfl, (by show (0 : Int) < 2; decide), S, _, _, _, rfl, rfl, .of eS, hx, _, rfl, D, _, rfl, .inl (.of eD7), p, R, ns.length, k + 20 + i, rs0, rws, [p, S], ?_, by omega, tk7, d7, by omega, eR, pR, l20, okr, fun H8 v kp8 d8 tv => ?_⟩⟩
    · rw [List.length_map]
      rfl
    have eS8 := kp8 _ _ nSp eS
    refine ⟨S, _, _, rfl, rfl, eS8, by show zs.length + 1 + 1 < 16777216; omega, ?_⟩
    have r78 : Same (rs [p, S] H7) (rs [p, S] (upd H8 S (.lst (V.ref R0 :: V.ref R1 :: zs ++ [v])))) := fun b o e => by
      obtain ⟨g1, g2⟩ := rs_up e
      refine rs_in g1 ?_
      rw [upd_ne (fun z => g1 (by rw [z]; exact List.mem_cons_of_mem _ List.mem_cons_self))]
      exact kp8 _ _ (fun z => g1 (by rw [z]; exact List.mem_cons_self)) g2
    have r88 : Same (rs [p, S] H8) (rs [p, S] (upd H8 S (.lst (V.ref R0 :: V.ref R1 :: zs ++ [v])))) := fun b o e => by
      obtain ⟨g1, g2⟩ := rs_up e
      refine rs_in g1 ?_
      rw [upd_ne (fun z => g1 (by rw [z]; exact List.mem_cons_of_mem _ List.mem_cons_self))]
      exact g2
    refine ⟨_, rfl, fun b o nb e => ?_, (d8.mono (by omega)).put nSp, ?_, R0, R1, zs ++ [v], upd_same, h0.same r78, h1.same r78, by rw [List.length_append, List.length_singleton]; omega, fun z hz => ?_⟩
    · have nb1 : b ≠ p := fun z => nb (by rw [z]; exact List.mem_cons_self)
      have nb2 : b ≠ S := fun z => nb (by rw [z]; exact List.mem_cons_of_mem _ List.mem_cons_self)
      rw [upd_ne nb2]
      exact kp8 _ _ nb1 (st7 _ _ nb e)
    · rw [upd_ne nDS]
      exact kp8 _ _ nDp eD7
    · rcases List.mem_append.mp hz with g | g
      · exact (gz z g).same r78
      · rw [List.mem_singleton.mp g]
        exact tv.same r88
  obtain ⟨y3, rfl, st7, d7, eD7, R0, R1, zs, eS, h0, h1, lz, gz⟩ := h7
  have kp7 : Keep p H H7 := fun b o nb e => st7 _ _ (fun z => by
    rcases List.mem_cons.mp z with z | z
    · exact nb z
    · rw [List.mem_singleton.mp z, nS0] at e
      cases e) (kp6 _ _ nb e)
  have all : ∀ z, z ∈ V.ref R0 :: V.ref R1 :: zs → ThG K H7 z := fun z hz => by
    rcases List.mem_cons.mp hz with g | g
    · rw [g]
      exact (h0.thing (K := K)).same rs_sub
    · rcases List.mem_cons.mp g with g | g
      · rw [g]
        exact (h1.thing (K := K)).same rs_sub
      · exact (gz z g).same rs_sub
  -- each is judged alike
  refine ⟨_, rfl, S, rfl, ⟨_, .of eS⟩, for_list (xs := V.ref R0 :: V.ref R1 :: zs) (fun i σ H' => (∃ y4 y5 y6 : Option V, σ = [some (.ref p), some (.ref D), some (.ref S), y3, y4, y5, y6, none, none]) ∧ Same H7 H') ⟨⟨none, none, none, rfl⟩, Same.refl _⟩ (fun i σ H' _ h' => .of (h'.2 _ _ eS)) (fun i x σ H8 hx h8 => ?_) (fun σ H8 h8 => ?_)⟩
  · obtain ⟨⟨y4, y5, y6, rfl⟩, s8⟩ := h8
    obtain ⟨th, d, at8, sm, dp, okd, nd, dep⟩ := (all x (List.mem_of_getElem? hx)).same s8
    have eD8 := s8 _ _ eD7
    obtain ⟨g1, g2, g3⟩ := ints_okD tame
    have fi : FineE (.list [intsD ns, d]) := ⟨by simp only [okD, okDs, g1, okd, Bool.and_self], by simp only [ndD, ndDs]; omega, by simp only [PyData.depth, PyData.depthAll]; omega⟩
    refine ⟨_, rfl, _, rfl, two, fun L1 n1 => ?_⟩
    have s1 := Same.new (o := .lst [V.ref D, x]) n1
    refine ⟨L1, [V.ref D, x], [intsD ns, d], rfl, upd_same, .cons' (DpE.of _ _ (.lst (.of (s1 _ _ eD8)) (ints_dpAll ns))) (.cons' (DpE.same s1 _ _ dp) .nil'), fi.shows, Nat.le_trans fi.deep (by decide), fi.len, ?_⟩
    refine ⟨_, rfl, _, rfl, D, x, ns, th, rfl, s1 _ _ eD8, by omega, at8.same s1, sm, fun H9 b s9 ib => ?_⟩
    have s19 := s1.trans s9
    refine ⟨_, rfl, _, rfl, D, x, ns, th, rfl, s19 _ _ eD8, by omega, at8.same s19, sm, fun H10 c1 s10 ic1 => ?_⟩
    have s110 := s19.trans s10
    refine ⟨_, rfl, _, rfl, rfl, rfl, D, x, ns, th, rfl, s110 _ _ eD8, by omega, at8.same s110, sm, fun H11 c2 s11 ic2 => ?_⟩
    have eb1 : c1 = b := Bool.eq_iff_iff.mpr (ic1.trans ib.symm)
    have eb2 : c2 = b := Bool.eq_iff_iff.mpr (ic2.trans ib.symm)
    subst eb1 eb2
    have f2 := bools2_fine c2 c2
    refine ⟨two, fun L2 n2 => ⟨L2, boolsD [c2, c2], rfl, .lst (.of upd_same) (bools_dpAll [c2, c2]), f2.show_, f2.dict, f2.deep, f2.len, ?_⟩⟩
    have s12 := Same.new (o := .lst [V.bl c2, V.bl c2]) n2
    refine ⟨_, rfl, _, rfl, two, fun L3 n3 => ⟨L3, boolsD [c2, c2], rfl, .lst (.of upd_same) (bools_dpAll [c2, c2]), f2.show_, f2.dict, f2.deep, f2.len, rfl, _, rfl, ?_⟩⟩
    have s13 := Same.new (o := .lst [V.bl c2, V.bl c2]) n3
    rw [decide_eq_true rfl]
    refine iteF ?_
    have s113 := s110.trans (s11.trans (s12.trans s13))
    refine ⟨_, rfl, _, rfl, two, fun L4 n4 => ?_⟩
    have s14 := Same.new (o := .lst [V.ref D, x]) n4
    have s114 := s113.trans s14
    refine ⟨L4, [V.ref D, x], [intsD ns, d], rfl, upd_same, .cons' (DpE.of _ _ (.lst (.of (s114 _ _ eD8)) (ints_dpAll ns))) (.cons' (DpE.same s114 _ _ dp) .nil'), fi.shows, Nat.le_trans fi.deep (by decide), fi.len, _, rfl, rfl, _, rfl, ?_⟩
    rw [decide_eq_true rfl]
    refine iteF ?_
    exact ⟨⟨_, _, _, rfl⟩, s8.trans s114⟩
  · obtain ⟨_, s8⟩ := h8
    exact q _ (kp7.trans (.of s8)) ((d7.same s8).mono (by omega))
end
end HSP
namespace HSP
open PySem PySem.Spec PyProof.Rows L2
section
variable {P : Program} {w : World} {K : PySem.W.Frag} {mg : Str → Option Value} {base : Heap}
/-! ### law -/
theorem DrAt.other {H H' : Hp} {p r : Addr} {k : Nat} (d : DrAt H p k) (s : Keep r H H') (n : p ≠ r) : DrAt H' p k := by
  obtain ⟨z, j, b, e, l⟩ := d
  exact ⟨z, j, b, s _ _ n e, l⟩
theorem sc_law : FnScope n_law ["script"] (defScope s_law) := ⟨rfl, rfl, rfl, by decide +kernel, rfl, by decide +kernel, by decide +kernel⟩
def spLaw (K : PySem.W.Frag) : Sp := fun vs H Q _ => ∃ (a : Addr) (ns : List Int), vs = [.ref a] ∧ SqL K H a (ns.map V.int) ∧ ns.length ≤ 63 ∧ ∀ H', Q (.bl true) H'
theorem ok_law {f : Addr} {fd : FuncData} (B : Bl mg) (F : Fun K "law" "law" s_law f fd) (D : Df P w K mg base "_law_draws" 1 ["cell"] spDraws) (R : DfG P w K mg base "_law_right" 12 ["draws"] spRight) : FnG P w K mg base CX0 13 f fd ["script"] (spLaw K) := by
  refine FnG.mk' F sc_law (fun vs H Q E h => ?_) (fun cdv A outer s H vs Q E hg hr h => ?_)
  · obtain ⟨a, ns, rfl, _⟩ := h
    rfl
  obtain ⟨a, ns, rfl, hS, h63, q⟩ := h
  refine ⟨_, PSs.nox (pss_cons (ps_for PassesOwn.never rfl (pi_list (pe_lc (own := [("cell", 2)]) (g := (gName 2)) (tt := tYes) (by rfl) sc_law.nd (pi_list (pe_op op_cat (pe_slice sl_list (pv 0) po_none (po_some pe_int)) (pe_lst (pa_cons pe_int pa_nil)))) (blkOk_by (N := n_law) (sc := defScope s_law) (by decide +kernel)) (fun _ _ _ _ _ => (pg_name (i := 2) sc_law.nd rfl (.inl rfl))) (fun _ _ _ _ _ => pts_nil) (fun _ _ _ _ _ => (pe_df D (hr.mono (by decide)) (pa_cons (pv 2) pa_nil))))) (pg_name (i := 1) sc_law.nd rfl (.inl rfl)) (pss_one (ps_if (PW.pt (pw_or (pt_not (pt_val (pe_dfG R hg hr (pa_cons (pv 1) pa_nil)))) (pw_or1 (pt_not (pt_val (pe_dfG R hg hr (pa_cons (pv 1) pa_nil))))))) (pss_one (ps_ret pe_bl)) pss_nil)))
 (pss_one (ps_ret pe_bl))), ?_⟩
  refine ⟨_, rfl, 6, rfl, a, _, rfl, hS, fun c1 hc1 => ?_⟩
  refine ⟨(by show 1 ≤ sizeLine; decide), fun c2 hc2 => ?_⟩
  have s1 := Same.new (o := .lst (cutV (ns.map V.int) none (some 6))) hc1
  have s2 := Same.new (o := .lst [V.int 0]) hc2
  have zl := cutV_length (ns.map V.int) none (some 6)
  rw [List.length_map] at zl
  refine ⟨c1, c2, _, _, rfl, rfl, s2 _ _ upd_same, upd_same, ?_, fun C hC => ?_⟩
  · show _ + 1 ≤ sizeLine
    exact Nat.le_of_lt (small1000 (by omega))
  have cells : ∀ x, x ∈ cutV (ns.map V.int) none (some 6) ++ [V.int 0] → ∃ z, x = V.int z := fun x hx => by
    rcases List.mem_append.mp hx with hx | hx
    · have h1 := List.mem_of_mem_take hx
      have h2 := List.mem_of_mem_drop h1
      obtain ⟨z, _, rfl⟩ := List.mem_map.mp h2
      exact ⟨z, rfl⟩
    · exact ⟨0, List.mem_singleton.mp hx⟩
  have few : (cutV (ns.map V.int) none (some 6) ++ [V.int 0]).length ≤ 64 := by
    rw [List.length_append, List.length_singleton]
    omega
  have eC : (upd (upd (upd H c1 (.lst (cutV (ns.map V.int) none (some 6)))) c2 (.lst [V.int 0])) C (.lst (cutV (ns.map V.int) none (some 6) ++ [V.int 0]))) C = some (.lst (cutV (ns.map V.int) none (some 6) ++ [V.int 0])) := upd_same
  generalize cutV (ns.map V.int) none (some 6) ++ [V.int 0] = xs at cells few eC ⊢
  generalize upd (upd (upd H c1 (.lst (cutV (ns.map V.int) none (some 6)))) c2 (.lst [V.int 0])) C (.lst xs) = H1 at eC ⊢
  refine ⟨C, rfl, ⟨_, .of eC⟩, fun M hM => ?_⟩
  refine lc_list (xs := xs) (fun i H' => ∃ ps : List Addr, Same H1 H' ∧ H' M = some (.lst (ps.map V.ref)) ∧ ps.length = i ∧ (∀ p, p ∈ ps → DrAt H' p 0 ∧ p ≠ M) ∧ ps.Nodup) ⟨[], Same.new hM, upd_same, rfl, fun p h => (by cases h), List.nodup_nil⟩ (fun i H2 _ h2 => ?_) (fun i x H2 hx h2 => ?_) (fun H2 h2 => ?_)
  · obtain ⟨_, s2, _⟩ := h2
    exact .of (s2 _ _ eC)
  · obtain ⟨ps, s2, e2, l2, hp, nd⟩ := h2
    obtain ⟨z, rfl⟩ := cells x (List.mem_of_getElem? hx)
    have hi : i < xs.length := (List.getElem?_eq_some_iff.mp hx).1
    refine ⟨rfl, ?_⟩
    refine ⟨_, rfl, z, rfl, fun H3 p s3 np d3 => ?_⟩
    have nMp : M ≠ p := ne_of_none e2 np
    refine ⟨_, s3 _ _ e2, ?_, ps ++ [p], fun b o e => ?_, ?_, ?_, fun r hr2 => ?_, ?_⟩
    · rw [List.length_map]
      exact small1000 (by omega)
    · rw [upd_ne (ne_of_none e hM)]
      exact s3 _ _ (s2 _ _ e)
    · rw [upd_same, List.map_append]
      rfl
    · rw [List.length_append, List.length_singleton, l2]
    · rcases List.mem_append.mp hr2 with q2 | q2
      · exact ⟨((hp r q2).1.same s3).put (hp r q2).2.symm, (hp r q2).2⟩
      · rw [List.mem_singleton.mp q2]
        exact ⟨d3.put nMp, nMp.symm⟩
    · refine List.nodup_append.mpr ⟨nd, List.nodup_cons.mpr ⟨List.not_mem_nil, List.nodup_nil⟩, fun x hx y hy => ?_⟩
      rw [List.mem_singleton.mp hy]
      exact ((hp x hx).1.ne np).symm
  obtain ⟨ps, s2, eM, lps, hp, nd⟩ := h2
  refine ⟨M, rfl, ⟨_, .of eM⟩, for_list (xs := ps.map V.ref) (fun i σ H' => ∃ y1 y2 : Option V, σ = [some (.ref a), y1, y2] ∧ H' M = some (.lst (ps.map V.ref)) ∧ ∀ (j : Nat) (p : Addr), i ≤ j → ps[j]? = some p → DrAt H' p 0) ⟨_, _, rfl, eM, fun j p _ e => (hp p (List.mem_of_getElem? e)).1⟩ (fun i σ H3 _ h3 => ?_) (fun i x σ H3 hx h3 => ?_) (fun σ H3 _ => q H3)⟩
  · obtain ⟨_, _, _, e3, _⟩ := h3
    exact .of e3
  · obtain ⟨y1, y2, rfl, e3, d3⟩ := h3
    rw [List.getElem?_map] at hx
    obtain ⟨p, hpi, rfl⟩ := Option.map_eq_some_iff.mp hx
    have npM := (hp p (List.mem_of_getElem? hpi)).2
    have hi := (List.getElem?_eq_some_iff.mp hpi).1
    have other : ∀ j r, i + 1 ≤ j → ps[j]? = some r → r ≠ p := fun j r hj e z => by
      have hj2 := (List.getElem?_eq_some_iff.mp e).1
      rw [z] at e
      have e1 := (List.getElem?_eq_some_iff.mp hpi).2
      have e2 := (List.getElem?_eq_some_iff.mp e).2
      have := (List.pairwise_iff_getElem.mp nd) i j hi hj2 (by omega)
      exact this (e1.trans e2.symm)
    refine ⟨_, rfl, p, 0, rfl, d3 i p (Nat.le_refl _) hpi, by omega, fun H5 k5 d5 => ⟨true, rfl, iteF ?_⟩⟩
    refine ⟨_, rfl, p, 200, rfl, d5, by omega, fun H6 k6 d6 => ⟨true, rfl, iteF ?_⟩⟩
    exact ⟨_, _, rfl, k6 _ _ npM.symm (k5 _ _ npM.symm e3), fun j r hj e => ((d3 j r (by omega) e).other k5 (other j r hj e)).other k6 (other j r hj e)⟩
end
/-! ## what the top has written -/
theorem all_mk {l : PySem.W.OpenLaw} {w : World} {K : PySem.W.Frag} {h : Heap} {mg : Str → Option Value} {fa : Addr} (X : K.In h) (G : h.Ns mainGlobals mg) (hfa : mg "law" = some (.ref fa))
    {f1 : Addr} {od1 an1 : Option Addr} {sl1 : Array (Option Value)} {oc1 kV1 dc1 pm1 cd1 ct1 : Value}
    (a1 : PySem.W.nsIn K mainGlobals "is_whole" = some (some (.ref f1))) (l1 : K.lookup f1 = some ⟨oc1, od1, .func (PySem.W.fnOf "is_whole" "is_whole" (defArgs s_is_whole) (defBody s_is_whole) (defScope s_is_whole) .none kV1 dc1 pm1 an1 cd1 ct1), sl1⟩) (c1 : PySem.W.codeIn K cd1 "is_whole" = true) (k1 : PySem.W.keepIn K (.ref f1) = true)
    {f2 : Addr} {od2 an2 : Option Addr} {sl2 : Array (Option Value)} {oc2 kV2 dc2 pm2 cd2 ct2 : Value}
    (a2 : PySem.W.nsIn K mainGlobals "is_split" = some (some (.ref f2))) (l2 : K.lookup f2 = some ⟨oc2, od2, .func (PySem.W.fnOf "is_split" "is_split" (defArgs s_is_split) (defBody s_is_split) (defScope s_is_split) .none kV2 dc2 pm2 an2 cd2 ct2), sl2⟩) (c2 : PySem.W.codeIn K cd2 "is_split" = true) (k2 : PySem.W.keepIn K (.ref f2) = true)
    {f3 : Addr} {od3 an3 : Option Addr} {sl3 : Array (Option Value)} {oc3 kV3 dc3 pm3 cd3 ct3 : Value}
    (a3 : PySem.W.nsIn K mainGlobals "check_row" = some (some (.ref f3))) (l3 : K.lookup f3 = some ⟨oc3, od3, .func (PySem.W.fnOf "check_row" "check_row" (defArgs s_check_row) (defBody s_check_row) (defScope s_check_row) .none kV3 dc3 pm3 an3 cd3 ct3), sl3⟩) (c3 : PySem.W.codeIn K cd3 "check_row" = true) (k3 : PySem.W.keepIn K (.ref f3) = true)
    {f4 : Addr} {od4 an4 : Option Addr} {sl4 : Array (Option Value)} {oc4 kV4 dc4 pm4 cd4 ct4 : Value}
    (a4 : PySem.W.nsIn K mainGlobals "halved" = some (some (.ref f4))) (l4 : K.lookup f4 = some ⟨oc4, od4, .func (PySem.W.fnOf "halved" "halved" (defArgs s_halved) (defBody s_halved) (defScope s_halved) .none kV4 dc4 pm4 an4 cd4 ct4), sl4⟩) (c4 : PySem.W.codeIn K cd4 "halved" = true) (k4 : PySem.W.keepIn K (.ref f4) = true)
    {f5 : Addr} {od5 an5 : Option Addr} {sl5 : Array (Option Value)} {oc5 kV5 dc5 pm5 cd5 ct5 : Value}
    (a5 : PySem.W.nsIn K mainGlobals "joined" = some (some (.ref f5))) (l5 : K.lookup f5 = some ⟨oc5, od5, .func (PySem.W.fnOf "joined" "joined" (defArgs s_joined) (defBody s_joined) (defScope s_joined) .none kV5 dc5 pm5 an5 cd5 ct5), sl5⟩) (c5 : PySem.W.codeIn K cd5 "joined" = true) (k5 : PySem.W.keepIn K (.ref f5) = true)
    {f6 : Addr} {od6 an6 : Option Addr} {sl6 : Array (Option Value)} {oc6 kV6 dc6 pm6 cd6 ct6 : Value}
    (a6 : PySem.W.nsIn K mainGlobals "rows_of" = some (some (.ref f6))) (l6 : K.lookup f6 = some ⟨oc6, od6, .func (PySem.W.fnOf "rows_of" "rows_of" (defArgs s_rows_of) (defBody s_rows_of) (defScope s_rows_of) .none kV6 dc6 pm6 an6 cd6 ct6), sl6⟩) (c6 : PySem.W.codeIn K cd6 "rows_of" = true) (k6 : PySem.W.keepIn K (.ref f6) = true)
    {f7 : Addr} {od7 an7 : Option Addr} {sl7 : Array (Option Value)} {oc7 kV7 dc7 pm7 cd7 ct7 : Value}
    (a7 : PySem.W.nsIn K mainGlobals "rising_row" = some (some (.ref f7))) (l7 : K.lookup f7 = some ⟨oc7, od7, .func (PySem.W.fnOf "rising_row" "rising_row" (defArgs s_rising_row) (defBody s_rising_row) (defScope s_rising_row) .none kV7 dc7 pm7 an7 cd7 ct7), sl7⟩) (c7 : PySem.W.codeIn K cd7 "rising_row" = true) (k7 : PySem.W.keepIn K (.ref f7) = true)
    {f8 : Addr} {od8 an8 : Option Addr} {sl8 : Array (Option Value)} {oc8 kV8 dc8 pm8 cd8 ct8 : Value}
    (a8 : PySem.W.nsIn K mainGlobals "most_found" = some (some (.ref f8))) (l8 : K.lookup f8 = some ⟨oc8, od8, .func (PySem.W.fnOf "most_found" "most_found" (defArgs s_most_found) (defBody s_most_found) (defScope s_most_found) .none kV8 dc8 pm8 an8 cd8 ct8), sl8⟩) (c8 : PySem.W.codeIn K cd8 "most_found" = true) (k8 : PySem.W.keepIn K (.ref f8) = true)
    {f9 : Addr} {od9 an9 : Option Addr} {sl9 : Array (Option Value)} {oc9 kV9 dc9 pm9 cd9 ct9 : Value}
    (a9 : PySem.W.nsIn K mainGlobals "are_rows" = some (some (.ref f9))) (l9 : K.lookup f9 = some ⟨oc9, od9, .func (PySem.W.fnOf "are_rows" "are_rows" (defArgs s_are_rows) (defBody s_are_rows) (defScope s_are_rows) .none kV9 dc9 pm9 an9 cd9 ct9), sl9⟩) (c9 : PySem.W.codeIn K cd9 "are_rows" = true) (k9 : PySem.W.keepIn K (.ref f9) = true)
    {f10 : Addr} {od10 an10 : Option Addr} {sl10 : Array (Option Value)} {oc10 kV10 dc10 pm10 cd10 ct10 : Value}
    (a10 : PySem.W.nsIn K mainGlobals "_law_draws" = some (some (.ref f10))) (l10 : K.lookup f10 = some ⟨oc10, od10, .func (PySem.W.fnOf "_law_draws" "_law_draws" (defArgs s_law_draws) (defBody s_law_draws) (defScope s_law_draws) .none kV10 dc10 pm10 an10 cd10 ct10), sl10⟩) (c10 : PySem.W.codeIn K cd10 "_law_draws" = true) (k10 : PySem.W.keepIn K (.ref f10) = true)
    {f11 : Addr} {od11 an11 : Option Addr} {sl11 : Array (Option Value)} {oc11 kV11 dc11 pm11 cd11 ct11 : Value}
    (a11 : PySem.W.nsIn K mainGlobals "_law_next" = some (some (.ref f11))) (l11 : K.lookup f11 = some ⟨oc11, od11, .func (PySem.W.fnOf "_law_next" "_law_next" (defArgs s_law_next) (defBody s_law_next) (defScope s_law_next) .none kV11 dc11 pm11 an11 cd11 ct11), sl11⟩) (c11 : PySem.W.codeIn K cd11 "_law_next" = true) (k11 : PySem.W.keepIn K (.ref f11) = true)
    {f12 : Addr} {od12 an12 : Option Addr} {sl12 : Array (Option Value)} {oc12 kV12 dc12 pm12 cd12 ct12 : Value}
    (a12 : PySem.W.nsIn K mainGlobals "_law_numbers" = some (some (.ref f12))) (l12 : K.lookup f12 = some ⟨oc12, od12, .func (PySem.W.fnOf "_law_numbers" "_law_numbers" (defArgs s_law_numbers) (defBody s_law_numbers) (defScope s_law_numbers) .none kV12 dc12 pm12 an12 cd12 ct12), sl12⟩) (c12 : PySem.W.codeIn K cd12 "_law_numbers" = true) (k12 : PySem.W.keepIn K (.ref f12) = true)
    {f13 : Addr} {od13 an13 : Option Addr} {sl13 : Array (Option Value)} {oc13 kV13 dc13 pm13 cd13 ct13 : Value}
    (a13 : PySem.W.nsIn K mainGlobals "_law_row_right" = some (some (.ref f13))) (l13 : K.lookup f13 = some ⟨oc13, od13, .func (PySem.W.fnOf "_law_row_right" "_law_row_right" (defArgs s_law_row_right) (defBody s_law_row_right) (defScope s_law_row_right) .none kV13 dc13 pm13 an13 cd13 ct13), sl13⟩) (c13 : PySem.W.codeIn K cd13 "_law_row_right" = true) (k13 : PySem.W.keepIn K (.ref f13) = true)
    {f14 : Addr} {od14 an14 : Option Addr} {sl14 : Array (Option Value)} {oc14 kV14 dc14 pm14 cd14 ct14 : Value}
    (a14 : PySem.W.nsIn K mainGlobals "_law_due" = some (some (.ref f14))) (l14 : K.lookup f14 = some ⟨oc14, od14, .func (PySem.W.fnOf "_law_due" "_law_due" (defArgs s_law_due) (defBody s_law_due) (defScope s_law_due) .none kV14 dc14 pm14 an14 cd14 ct14), sl14⟩) (c14 : PySem.W.codeIn K cd14 "_law_due" = true) (k14 : PySem.W.keepIn K (.ref f14) = true)
    {f15 : Addr} {od15 an15 : Option Addr} {sl15 : Array (Option Value)} {oc15 kV15 dc15 pm15 cd15 ct15 : Value}
    (a15 : PySem.W.nsIn K mainGlobals "_law_bent" = some (some (.ref f15))) (l15 : K.lookup f15 = some ⟨oc15, od15, .func (PySem.W.fnOf "_law_bent" "_law_bent" (defArgs s_law_bent) (defBody s_law_bent) (defScope s_law_bent) .none kV15 dc15 pm15 an15 cd15 ct15), sl15⟩) (c15 : PySem.W.codeIn K cd15 "_law_bent" = true) (k15 : PySem.W.keepIn K (.ref f15) = true)
    {f16 : Addr} {od16 an16 : Option Addr} {sl16 : Array (Option Value)} {oc16 kV16 dc16 pm16 cd16 ct16 : Value}
    (a16 : PySem.W.nsIn K mainGlobals "_law_right" = some (some (.ref f16))) (l16 : K.lookup f16 = some ⟨oc16, od16, .func (PySem.W.fnOf "_law_right" "_law_right" (defArgs s_law_right) (defBody s_law_right) (defScope s_law_right) .none kV16 dc16 pm16 an16 cd16 ct16), sl16⟩) (c16 : PySem.W.codeIn K cd16 "_law_right" = true) (k16 : PySem.W.keepIn K (.ref f16) = true)
    {f17 : Addr} {od17 an17 : Option Addr} {sl17 : Array (Option Value)} {oc17 kV17 dc17 pm17 cd17 ct17 : Value}
    (a17 : PySem.W.nsIn K mainGlobals "law" = some (some (.ref f17))) (l17 : K.lookup f17 = some ⟨oc17, od17, .func (PySem.W.fnOf "law" "law" (defArgs s_law) (defBody s_law) (defScope s_law) .none kV17 dc17 pm17 an17 cd17 ct17), sl17⟩) (c17 : PySem.W.codeIn K cd17 "law" = true) (k17 : PySem.W.keepIn K (.ref f17) = true)
    (z0 : PySem.W.nsIn K mainGlobals "isinstance" = some none)
    (z1 : PySem.W.nsIn K mainGlobals "int" = some none)
    (z2 : PySem.W.nsIn K mainGlobals "bool" = some none)
    (z3 : PySem.W.nsIn K mainGlobals "tuple" = some none)
    (z4 : PySem.W.nsIn K mainGlobals "list" = some none)
    (z5 : PySem.W.nsIn K mainGlobals "str" = some none)
    (z6 : PySem.W.nsIn K mainGlobals "len" = some none)
    (z7 : PySem.W.nsIn K mainGlobals "range" = some none)
    (z8 : PySem.W.nsIn K mainGlobals "enumerate" = some none)
    (z9 : PySem.W.nsIn K mainGlobals "sorted" = some none)
    (z10 : PySem.W.nsIn K mainGlobals "set" = some none)
    (z11 : PySem.W.nsIn K mainGlobals "sum" = some none)
    (z12 : PySem.W.nsIn K mainGlobals "max" = some none)
    (z13 : PySem.W.nsIn K mainGlobals "abs" = some none)
    (z14 : PySem.W.nsIn K mainGlobals "zip" = some none)
    (z15 : PySem.W.nsIn K mainGlobals "min" = some none)
    (z16 : PySem.W.nsIn K mainGlobals "repr" = some none)
    (z17 : PySem.W.nsIn K mainGlobals "all" = some none)
    : ∃ fd : FuncData, (∀ (s : Shared) (v : Value), BindsTo s fd ⟨[v], []⟩ [("script", v)]) ∧ ∀ base : Heap, K.In base → base.Ns mainGlobals mg → FnG l.prog w K mg base CX0 13 fa fd ["script"] (spLaw K) := by
  cases hfa.symm.trans (PySem.W.mg_of X G a17)
  have B : Bl mg := ⟨PySem.W.mg_none_of X G z0, PySem.W.mg_none_of X G z1, PySem.W.mg_none_of X G z2, PySem.W.mg_none_of X G z3, PySem.W.mg_none_of X G z4, PySem.W.mg_none_of X G z5, PySem.W.mg_none_of X G z6, PySem.W.mg_none_of X G z7, PySem.W.mg_none_of X G z8, PySem.W.mg_none_of X G z9, PySem.W.mg_none_of X G z10, PySem.W.mg_none_of X G z11, PySem.W.mg_none_of X G z12, PySem.W.mg_none_of X G z13, PySem.W.mg_none_of X G z14, PySem.W.mg_none_of X G z15⟩
  have A1 : At K mg "is_whole" s_is_whole := ⟨_, _, PySem.W.mg_of X G a1, fun_mk l1 c1 k1⟩
  have A2 : At K mg "is_split" s_is_split := ⟨_, _, PySem.W.mg_of X G a2, fun_mk l2 c2 k2⟩
  have A3 : At K mg "check_row" s_check_row := ⟨_, _, PySem.W.mg_of X G a3, fun_mk l3 c3 k3⟩
  have A4 : At K mg "halved" s_halved := ⟨_, _, PySem.W.mg_of X G a4, fun_mk l4 c4 k4⟩
  have A5 : At K mg "joined" s_joined := ⟨_, _, PySem.W.mg_of X G a5, fun_mk l5 c5 k5⟩
  have A6 : At K mg "rows_of" s_rows_of := ⟨_, _, PySem.W.mg_of X G a6, fun_mk l6 c6 k6⟩
  have A7 : At K mg "rising_row" s_rising_row := ⟨_, _, PySem.W.mg_of X G a7, fun_mk l7 c7 k7⟩
  have A8 : At K mg "most_found" s_most_found := ⟨_, _, PySem.W.mg_of X G a8, fun_mk l8 c8 k8⟩
  have A9 : At K mg "are_rows" s_are_rows := ⟨_, _, PySem.W.mg_of X G a9, fun_mk l9 c9 k9⟩
  have A10 : At K mg "_law_draws" s_law_draws := ⟨_, _, PySem.W.mg_of X G a10, fun_mk l10 c10 k10⟩
  have A11 : At K mg "_law_next" s_law_next := ⟨_, _, PySem.W.mg_of X G a11, fun_mk l11 c11 k11⟩
  have A12 : At K mg "_law_numbers" s_law_numbers := ⟨_, _, PySem.W.mg_of X G a12, fun_mk l12 c12 k12⟩
  have A13 : At K mg "_law_row_right" s_law_row_right := ⟨_, _, PySem.W.mg_of X G a13, fun_mk l13 c13 k13⟩
  have A14 : At K mg "_law_due" s_law_due := ⟨_, _, PySem.W.mg_of X G a14, fun_mk l14 c14 k14⟩
  have A15 : At K mg "_law_bent" s_law_bent := ⟨_, _, PySem.W.mg_of X G a15, fun_mk l15 c15 k15⟩
  have A16 : At K mg "_law_right" s_law_right := ⟨_, _, PySem.W.mg_of X G a16, fun_mk l16 c16 k16⟩
  refine ⟨PySem.W.fnOf "law" "law" (defArgs s_law) (defBody s_law) (defScope s_law) .none kV17 dc17 pm17 an17 cd17 ct17, fun s v => .of_eq rfl, fun base _ _ => ?_⟩
  have Wh := ok_whole (P := l.prog) (w := w) (base := base) B A1
  have WhX := ok_wholeX (P := l.prog) (w := w) (base := base) B A1
  have Is0 := ok_splitX B WhX A2
  have Cr := ok_chkR B Wh A3
  have Hv := ok_halved (P := l.prog) (w := w) (base := base) A4 8
  have Jo := ok_joined (P := l.prog) (w := w) (base := base) B A5 8
  have Rw := ok_rowsOf (P := l.prog) (w := w) (base := base) B A6
  have Rr := ok_risingRow (P := l.prog) (w := w) (base := base) B A7
  have Mf := ok_mostFound B Cr Rw Rr Hv Jo A8
  have Ar := okB_areRowsX B (PySem.W.mg_none_of X G z17) Cr Is0 A9
  have Dr := ok_draws (P := l.prog) (w := w) (base := base) B A10
  have N := ok_next (P := l.prog) (w := w) (base := base) B A11
  have Nu := ok_numbers B N A12
  have Rr0 := ok_rowRX (P := l.prog) (w := w) (base := base) B A13
  have Du := ok_dueRX B Rr0 A14
  have Be := ok_bent B N A15
  have R := ok_right B (PySem.W.mg_none_of X G z16) N Nu Mf Be Du Ar A16
  exact ok_law B (fun_mk l17 c17 k17) Dr R
end HSP
open PySem PySem.W PyProof.Rows
set_option maxHeartbeats 0 in
theorem PySem.Challenge.cw_halfsearch_k53_rows_judged_holds : PySem.Challenge.rw_halfsearch_k53_rows_judged.Holds := by
  w_on; o_law; k_head; (case hw => w_witness2)
  k_fill
  refine HSP.walk_ofG (l := PySem.Challenge.rw_halfsearch_k53_rows_judged) (n := 63) (k := 13) (x := "script") (sp := fun w => HSP.spLaw _) rfl (by decide) rfl ⟨rfl, by decide, by decide⟩ (fun w h Y => PySem.W.kIn_of Y) ?F (fun _ _ a ns hl _ hS => ⟨a, ns, rfl, hS, hl, fun _ => rfl⟩)
  case F =>
    intro w mg fa h KX G hmg
    refine' HSP.all_mk KX G hmg ?a1 ?l1 ?c1 ?k1 ?a2 ?l2 ?c2 ?k2 ?a3 ?l3 ?c3 ?k3 ?a4 ?l4 ?c4 ?k4 ?a5 ?l5 ?c5 ?k5 ?a6 ?l6 ?c6 ?k6 ?a7 ?l7 ?c7 ?k7 ?a8 ?l8 ?c8 ?k8 ?a9 ?l9 ?c9 ?k9 ?a10 ?l10 ?c10 ?k10 ?a11 ?l11 ?c11 ?k11 ?a12 ?l12 ?c12 ?k12 ?a13 ?l13 ?c13 ?k13 ?a14 ?l14 ?c14 ?k14 ?a15 ?l15 ?c15 ?k15 ?a16 ?l16 ?c16 ?k16 ?a17 ?l17 ?c17 ?k17 ?z0 ?z1 ?z2 ?z3 ?z4 ?z5 ?z6 ?z7 ?z8 ?z9 ?z10 ?z11 ?z12 ?z13 ?z14 ?z15 ?z16 ?z17
    (case a1 => k_is)
    (case l1 => k_is)
    (case c1 => k_is)
    (case k1 => k_is)
    (case a2 => k_is)
    (case l2 => k_is)
    (case c2 => k_is)
    (case k2 => k_is)
    (case a3 => k_is)
    (case l3 => k_is)
    (case c3 => k_is)
    (case k3 => k_is)
    (case a4 => k_is)
    (case l4 => k_is)
    (case c4 => k_is)
    (case k4 => k_is)
    (case a5 => k_is)
    (case l5 => k_is)
    (case c5 => k_is)
    (case k5 => k_is)
    (case a6 => k_is)
    (case l6 => k_is)
    (case c6 => k_is)
    (case k6 => k_is)
    (case a7 => k_is)
    (case l7 => k_is)
    (case c7 => k_is)
    (case k7 => k_is)
    (case a8 => k_is)
    (case l8 => k_is)
    (case c8 => k_is)
    (case k8 => k_is)
    (case a9 => k_is)
    (case l9 => k_is)
    (case c9 => k_is)
    (case k9 => k_is)
    (case a10 => k_is)
    (case l10 => k_is)
    (case c10 => k_is)
    (case k10 => k_is)
    (case a11 => k_is)
    (case l11 => k_is)
    (case c11 => k_is)
    (case k11 => k_is)
    (case a12 => k_is)
    (case l12 => k_is)
    (case c12 => k_is)
    (case k12 => k_is)
    (case a13 => k_is)
    (case l13 => k_is)
    (case c13 => k_is)
    (case k13 => k_is)
    (case a14 => k_is)
    (case l14 => k_is)
    (case c14 => k_is)
    (case k14 => k_is)
    (case a15 => k_is)
    (case l15 => k_is)
    (case c15 => k_is)
    (case k15 => k_is)
    (case a16 => k_is)
    (case l16 => k_is)
    (case c16 => k_is)
    (case k16 => k_is)
    (case a17 => k_is)
    (case l17 => k_is)
    (case c17 => k_is)
    (case k17 => k_is)
    (case z0 => k_is)
    (case z1 => k_is)
    (case z2 => k_is)
    (case z3 => k_is)
    (case z4 => k_is)
    (case z5 => k_is)
    (case z6 => k_is)
    (case z7 => k_is)
    (case z8 => k_is)
    (case z9 => k_is)
    (case z10 => k_is)
    (case z11 => k_is)
    (case z12 => k_is)
    (case z13 => k_is)
    (case z14 => k_is)
    (case z15 => k_is)
    (case z16 => k_is)
    (case z17 => k_is)
