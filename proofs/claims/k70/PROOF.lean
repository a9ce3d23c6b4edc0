import PyProof.Rows.All
import Wide.All
import OpenK.AllK
import Wide.FinOn
import HandS.Base
import HandS.Call
import HandS.List
import HandS.Comp
import HandS.Ends
import HandS.Dict
import HandS.Iter
import HandS.Text
import HandS.Words
import HandS.WordsList
import HandS.Wide
import HandS.Strs
import HandS.SetFor
import HandS.SortInts
import HandS.Defaults
import HandS.IsInst
import HandS.Walk
import HandS.Codes
import HandS.ForSpec
import HandS.Exc
import HandS.ExcValue
import KE.KTryMore
import HandS.ExcField
import HandS.ExcIs
import HandS.WordsExc
import HandS.ExcOwn
import HandS.ExcInit
import HandS.ForMost
import HandS.StrMore
import KE.IntTextLaws
import KE.KWords
import HandS.SortKw
import KE.DatumOrd
import HandS.FStr
import PySem.Challenge.RW_halfsearch_k70_lists_as_texts
set_option Elab.async false
set_option maxRecDepth 100000
namespace HSP
open PySem PySem.Spec PyProof.Rows L2
/-! ## trees of pairs, as they lie in the heap -/
inductive Tr where
  | nil
  | nod (l r : Tr)
  deriving DecidableEq
def Tr.size : Tr → Nat
  | .nil => 0
  | .nod l r => l.size + 1 + r.size
def Tr.ht : Tr → Nat
  | .nil => 0
  | .nod l r => max l.ht r.ht + 1
theorem Tr.ht_le : ∀ t : Tr, t.ht ≤ t.size
  | .nil => Nat.le_refl _
  | .nod l r => by
    have h1 := l.ht_le
    have h2 := r.ht_le
    simp only [Tr.ht, Tr.size]
    omega
inductive TrAt (H : Hp) : V → Tr → Prop
  | nil : TrAt H .non .nil
  | nod {a : Addr} {x y : V} {l r : Tr} : H a = some (.tup [x, y]) → TrAt H x l → TrAt H y r → TrAt H (.ref a) (.nod l r)
theorem TrAt.keep {H H' : Hp} {v : V} {t : Tr} (h : TrAt H v t) (s : ∀ a x y, H a = some (.tup [x, y]) → H' a = some (.tup [x, y])) : TrAt H' v t := by
  induction h with
  | nil => exact .nil
  | nod e _ _ ih1 ih2 => exact .nod (s _ _ _ e) ih1 ih2
theorem TrAt.same {H H' : Hp} {v : V} {t : Tr} (h : TrAt H v t) (s : Same H H') : TrAt H' v t := h.keep fun a x y e => s a _ e
/-! ## heaps: all but one place stays -/
def Keep (p : Addr) (H H' : Hp) : Prop := ∀ b o, b ≠ p → H b = some o → H' b = some o
theorem Keep.refl (p : Addr) (H : Hp) : Keep p H H := fun _ _ _ e => e
theorem Keep.trans {p : Addr} {H H1 H2 : Hp} (a : Keep p H H1) (b : Keep p H1 H2) : Keep p H H2 := fun c o n e => b c o n (a c o n e)
theorem Keep.of {p : Addr} {H H' : Hp} (s : Same H H') : Keep p H H' := fun b o _ e => s b o e
theorem Keep.at {p : Addr} {H : Hp} {o : HO} : Keep p H (upd H p o) := fun b u n e => by
  rw [upd_ne n]; exact e
theorem Keep.new {p q : Addr} {H : Hp} {o : HO} (h : H q = none) : Keep p H (upd H q o) := fun b u _ e => by
  rw [upd_ne (ne_of_none e h)]; exact e
theorem Keep.tree {p : Addr} {H H' : Hp} {v : V} {t : Tr} {xs : List V} (k : Keep p H H') (hp : H p = some (.lst xs)) (h : TrAt H v t) : TrAt H' v t :=
  h.keep fun a x y e => k a _ (fun z => by rw [z, hp] at e; cases e) e
theorem Same.new {H : Hp} {p : Addr} {o : HO} (h : H p = none) : Same H (upd H p o) := fun b u e => by
  rw [upd_ne (ne_of_none e h)]; exact e
theorem Keep.same {p : Addr} {H H1 H' : Hp} (s : Same H H1) (n : H p = none) (k : Keep p H1 H') : Same H H' := fun b o e => k b o (ne_of_none e n) (s b o e)
/-! ## powers -/
def CPowW (i j : Int) : Prop := 0 ≤ j ∧ (Builtin.Int.intBits i : Int) * j ≤ 2 ^ 27
section
variable {X : Cx}
theorem op_powW : OpR X (binaryOp .Pow) (rI CPowW fun i j => .int (i ^ j.toNat)) :=
  opI fun _ _ _ _ _ _ _ hc q => pow_int hc.1 hc.2 q
end
end HSP
namespace HSP
open PySem PySem.Spec PyProof.Rows L2
/-! ## a def of the text that keeps a promise, called by its name -/
/-- the def stands under its own name behind the top -/
def At (K : PySem.W.Frag) (mg : Str → Option Value) (x : Str) (st : Stmt) : Prop := ∃ (f : Addr) (fd : FuncData), mg x = some (.ref f) ∧ Fun K x x st f fd
structure Df (P : Program) (w : World) (K : PySem.W.Frag) (mg : Str → Option Value) (base : Heap) (x : Str) (n : Nat) (ps : List Str) (sp : Sp) : Prop where
  ex : ∃ (f : Addr) (fd : FuncData), mg x = some (.ref f) ∧ PySem.W.keepIn K (.ref f) = true ∧ Binds K fd ps [] ∧ FnOk P w K mg base CX0 n f fd ps sp
section
variable {P : Program} {w : World} {K : PySem.W.Frag} {mg : Str → Option Value} {base : Heap}
theorem Df.mk' {x : Str} {st : Stmt} {N ps : List Str} {k : Nat} {sp : Sp} (a : At K mg x st) (S : FnScope N ps (defScope st)) (len : ∀ vs H Q E, sp vs H Q E → vs.length = ps.length)
    (hb : ∀ (kV doc pm : Value) (an : Option Addr) (cdv ct : Value) (us : List Value), us.length = ps.length → bindArgs (PySem.W.fnOf x x (defArgs st) (defBody st) (defScope st) .none kV doc pm an cdv ct) ⟨us, []⟩ = pure (ps.zip us))
    (body : ∀ (f : Addr) (cdv : Value) (A : Around) (outer : List Env) (s : Shared) (H : Hp) (vs : List V) (Q : VK) (E : XK), Room k (A.deeper (envOfC x (defScope st) s.heap.objs.size f cdv)) → sp vs H Q E →
      ∃ t, PSs (cxOf CX0 P w K mg base N x (defScope st) f cdv A outer s H E).nox (defBody st) t ∧ t { nx := fun _ H' => Q .non H', rt := Q } (start N vs) H) : Df P w K mg base x (k + 1) ps sp := by
  obtain ⟨f, fd, hm, F⟩ := a
  exact ⟨f, fd, hm, F.kp, F.binds hb, F.ok S len (body f)⟩
theorem Df.mono {x : Str} {j k : Nat} {ps : List Str} {sp : Sp} (D : Df P w K mg base x j ps sp) (h : j ≤ k) : Df P w K mg base x k ps sp := by
  obtain ⟨f, fd, a, b, c, d⟩ := D.ex
  exact ⟨f, fd, a, b, c, d.mono h⟩
theorem Df.imp {x : Str} {k : Nat} {ps : List Str} {sp sp' : Sp} (D : Df P w K mg base x k ps sp) (h : ∀ vs H Q E, sp' vs H Q E → sp vs H Q E) : Df P w K mg base x k ps sp' := by
  obtain ⟨f, fd, a, b, c, d⟩ := D.ex
  exact ⟨f, fd, a, b, c, d.imp h⟩
end
section
variable {X : Cx} {k : Nat} {ps : List Str} {sp : Sp} {x : Str} {p pos : Pos} {e : Expr} {es : List Expr} {t : TA}
theorem pe_df (D : Df X.prog X.w X.K X.mg X.base x k ps sp) (hr : Room k X.A) (ha : PA X (e :: es) t) (hg : Gl X x := by rfl) (hdb : (x == ("__debug__" : Str)) = false := by decide)
    (he : starEach (e :: es) X.env = (false, eval e X.env) :: starEach es X.env := by rfl) (hpl : (backTo pos (starEach es X.env)).any (·.1) = false := by rfl) : PE X (.Call (.Name x p) (e :: es) [] pos) (tCall sp [] E0 t) := by
  obtain ⟨f, fd, hm, hk, hb, F⟩ := D.ex
  exact pe_call F hr hg hm hk hb .nil pass0 ha hdb he hpl
end
/-! ## what a test or a value is -/
theorem int_inj {i j : Int} (h : i = j) : V.int i = V.int j := by rw [h]
/-! ## the built-ins, not shadowed -/
structure Bl (mg : Str → Option Value) : Prop where
  isinstance : mg "isinstance" = none
  int : mg "int" = none
  bool : mg "bool" = none
  tuple : mg "tuple" = none
  list : mg "list" = none
  str : mg "str" = none
  len : mg "len" = none
  range : mg "range" = none
  enumerate : mg "enumerate" = none
  sorted : mg "sorted" = none
  set : mg "set" = none
  sum : mg "sum" = none
  max : mg "max" = none
  abs : mg "abs" = none
  zip : mg "zip" = none
  min : mg "min" = none
end HSP
namespace HSP
open PySem PySem.Spec PyProof.Rows L2
def topS (i : Nat) : Stmt := PySem.Challenge.pw_halfsearch_k70_lists_as_texts.main.body.getD i (.Pass ⟨0, 0, 0, 0⟩)
abbrev s_is_whole : Stmt := topS 6
abbrev p_is_whole : List Str := ["thing"]
abbrev n_is_whole : List Str := ["thing"]
abbrev s_is_tree : Stmt := topS 7
abbrev p_is_tree : List Str := ["thing"]
abbrev n_is_tree : List Str := ["thing", "waiting", "part"]
abbrev s_count_nodes : Stmt := topS 8
abbrev p_count_nodes : List Str := ["tree"]
abbrev n_count_nodes : List Str := ["tree", "many", "waiting", "part"]
abbrev s_walk : Stmt := topS 9
abbrev p_walk : List Str := ["tree"]
abbrev n_walk : List Str := ["tree", "rows", "waiting", "part", "first", "above", "left", "right", "node"]
abbrev s_paths_of : Stmt := topS 10
abbrev p_paths_of : List Str := ["tree"]
abbrev n_paths_of : List Str := ["tree", "paths", "node", "above", "_"]
abbrev s_check_tree : Stmt := topS 11
abbrev p_check_tree : List Str := ["tree"]
abbrev n_check_tree : List Str := ["tree"]
abbrev s_check_row : Stmt := topS 12
abbrev p_check_row : List Str := ["row"]
abbrev n_check_row : List Str := ["row", "node", "value"]
abbrev s_check_values : Stmt := topS 13
abbrev p_check_values : List Str := ["tree", "values"]
abbrev n_check_values : List Str := ["tree", "values"]
abbrev s_bounds_below : Stmt := topS 15
abbrev p_bounds_below : List Str := ["values", "above"]
abbrev n_bounds_below : List Str := ["values", "above", "low", "high", "node", "side"]
abbrev s_label_of : Stmt := topS 16
abbrev p_label_of : List Str := ["bounds", "value"]
abbrev n_label_of : List Str := ["bounds", "value", "low", "high"]
abbrev s_labels_of : Stmt := topS 17
abbrev p_labels_of : List Str := ["tree", "values"]
abbrev n_labels_of : List Str := ["tree", "values", "ways", "way", "value"]
abbrev s_is_number : Stmt := topS 21
abbrev p_is_number : List Str := ["word"]
abbrev n_is_number : List Str := ["word", "digits", "sign"]
abbrev s_is_line : Stmt := topS 22
abbrev p_is_line : List Str := ["words", "node"]
abbrev n_is_line : List Str := ["words", "node"]
abbrev s_format_list : Stmt := topS 23
abbrev p_format_list : List Str := ["tree", "values"]
abbrev n_format_list : List Str := ["tree", "values", "node", "label"]
abbrev s_parse_list : Stmt := topS 24
abbrev p_parse_list : List Str := ["text"]
abbrev n_parse_list : List Str := ["text", "values", "labels", "lines", "node", "line", "words"]
abbrev s_tree_of : Stmt := topS 26
abbrev p_tree_of : List Str := ["length", "rule"]
abbrev n_tree_of : List Str := ["length", "rule"]
abbrev s_halved : Stmt := topS 27
abbrev p_halved : List Str := ["length", "rule"]
abbrev n_halved : List Str := ["length", "rule", "root"]
abbrev s_law_draws : Stmt := topS 29
abbrev p_law_draws : List Str := ["cell"]
abbrev n_law_draws : List Str := ["cell"]
abbrev s_law_next : Stmt := topS 30
abbrev p_law_next : List Str := ["draws"]
abbrev n_law_next : List Str := ["draws", "k", "number"]
abbrev s_law_size : Stmt := topS 31
abbrev p_law_size : List Str := ["a_tree"]
abbrev n_law_size : List Str := ["a_tree"]
abbrev s_law_tree : Stmt := topS 32
abbrev p_law_tree : List Str := ["draws", "room"]
abbrev n_law_tree : List Str := ["draws", "room", "at"]
abbrev s_law_values : Stmt := topS 33
abbrev p_law_values : List Str := ["draws", "many"]
abbrev n_law_values : List Str := ["draws", "many", "pick", "spread", "k", "told", "at"]
abbrev s_law_visits : Stmt := topS 34
abbrev p_law_visits : List Str := ["a_tree", "a_values", "twice"]
abbrev n_law_visits : List Str := ["a_tree", "a_values", "twice", "told", "first", "node"]
abbrev s_law_probes : Stmt := topS 35
abbrev p_law_probes : List Str := ["a_values"]
abbrev n_law_probes : List Str := ["a_values", "value"]
abbrev s_law_labels : Stmt := topS 36
abbrev p_law_labels : List Str := ["a_tree", "a_values"]
abbrev n_law_labels : List Str := ["a_tree", "a_values", "seen", "told", "node", "here", "twice", "nodes"]
abbrev s_law_right : Stmt := topS 37
abbrev p_law_right : List Str := ["draws"]
abbrev n_law_right : List Str := ["draws", "a_tree", "a_values", "node", "due", "lines", "label", "a_text", "told", "first", "second", "value"]
abbrev s_law : Stmt := topS 38
abbrev p_law : List Str := ["script"]
abbrev n_law : List Str := ["script", "cell", "draws", "turn"]
end HSP
namespace HSP
open PySem PySem.Spec PyProof.Rows L2
theorem Paired.app {α β : Type} {R : α → β → Prop} : ∀ {l : List α} {m : List β} {l' : List α} {m' : List β}, Paired R l m → Paired R l' m' → Paired R (l ++ l') (m ++ m')
  | _, _, _, _, .nil, h => h
  | _, _, _, _, .cons a t, h => .cons a (Paired.app t h)
theorem ixN_in {n : Nat} {i : Int} (h0 : 0 ≤ i) (h1 : i < (n : Int)) : ixN n i = some i.toNat := by
  unfold ixN
  rw [if_pos h0, if_pos h1]
def valAt (ns : List Int) (i : Nat) : Int := ns.getD i 0
theorem valAt_get {ns : List Int} {i : Nat} (h : i < ns.length) : (ns.map V.int)[i]? = some (.int (valAt ns i)) := by
  rw [List.getElem?_map, List.getElem?_eq_getElem h, valAt, List.getD_eq_getElem?_getD, List.getElem?_eq_getElem h]
  rfl
def natV (n : Nat) : V := .int (n : Int)
theorem ite_no {c A B : Prop} [Decidable c] (h : ¬ c) (b : B) : if decide c = true then A else B := by
  rw [decide_eq_false h]
  exact iteF b
theorem ite_yes {c A B : Prop} [Decidable c] (h : c) (a : A) : if decide c = true then A else B := by
  rw [decide_eq_true h]
  exact iteT a
inductive Md where
  | fin | lft | rgt
def Md.str : Md → Str
  | .fin => "end"
  | .lft => "left"
  | .rgt => "right"
/-- where a search goes on -/
def wayOf (tw v : Int) (m : Md) : Md := if tw = 2 * v then m else if tw < 2 * v then .lft else .rgt
/-! ### the search, as a function of the tree -/
/-- how it ends: is it found, and the node or the gap -/
def sEnd (g : Nat → Int) (tw : Int) (m : Md) : Tr → Nat → Bool × Nat
  | .nil, f => (false, f)
  | .nod l r, f => match wayOf tw (g (f + l.size)) m with
    | .fin => (true, f + l.size)
    | .lft => sEnd g tw m l f
    | .rgt => sEnd g tw m r (f + l.size + 1)
theorem sEnd_nod (g : Nat → Int) (tw : Int) (m : Md) (l r : Tr) (f : Nat) : sEnd g tw m (.nod l r) f = match wayOf tw (g (f + l.size)) m with | .fin => (true, f + l.size) | .lft => sEnd g tw m l f | .rgt => sEnd g tw m r (f + l.size + 1) := rfl
/-- the nodes at which it is -/
def sPath (g : Nat → Int) (tw : Int) (m : Md) : Tr → Nat → List Nat
  | .nil, _ => []
  | .nod l r, f => (f + l.size) :: match wayOf tw (g (f + l.size)) m with
    | .fin => []
    | .lft => sPath g tw m l f
    | .rgt => sPath g tw m r (f + l.size + 1)
theorem sPath_in (g : Nat → Int) (tw : Int) (m : Md) : ∀ (t : Tr) (f i : Nat), i ∈ sPath g tw m t f → f ≤ i ∧ i < f + t.size
  | .nil, _, _, h => by cases h
  | .nod l r, f, i, h => by
    have e : sPath g tw m (.nod l r) f = (f + l.size) :: match wayOf tw (g (f + l.size)) m with | .fin => [] | .lft => sPath g tw m l f | .rgt => sPath g tw m r (f + l.size + 1) := rfl
    have z : (Tr.nod l r).size = l.size + 1 + r.size := rfl
    rw [e] at h
    rw [z]
    rcases List.mem_cons.mp h with q | q
    · omega
    · cases w : wayOf tw (g (f + l.size)) m with
      | fin => rw [w] at q; cases q
      | lft =>
        rw [w] at q
        have := sPath_in g tw m l f i q
        omega
      | rgt =>
        rw [w] at q
        have := sPath_in g tw m r (f + l.size + 1) i q
        omega
theorem sPath_len (g : Nat → Int) (tw : Int) (m : Md) : ∀ (t : Tr) (f : Nat), (sPath g tw m t f).length ≤ t.size
  | .nil, _ => Nat.le_refl _
  | .nod l r, f => by
    have e : sPath g tw m (.nod l r) f = (f + l.size) :: match wayOf tw (g (f + l.size)) m with | .fin => [] | .lft => sPath g tw m l f | .rgt => sPath g tw m r (f + l.size + 1) := rfl
    have z : (Tr.nod l r).size = l.size + 1 + r.size := rfl
    rw [e, z, List.length_cons]
    cases wayOf tw (g (f + l.size)) m with
    | fin => show 0 + 1 ≤ _; omega
    | lft => have := sPath_len g tw m l f; show (sPath g tw m l f).length + 1 ≤ _; omega
    | rgt => have := sPath_len g tw m r (f + l.size + 1); show (sPath g tw m r (f + l.size + 1)).length + 1 ≤ _; omega
def optNV : Option Nat → V
  | none => .non
  | some n => natV n
def kindV (b : Bool) : V := if b = true then .str "found" else .str "gap"
end HSP
set_option maxHeartbeats 2000000
namespace HSP
open PySem PySem.Spec PyProof.Rows L2
/-! ### try: body, except (A, B) as n: suite -/
section
variable {X : Cx}
/-- a class's name is read, the state stays -/
theorem ld_name {x : Str} {c : Value} {pins : List (Addr × Obj)} {s : Shared} {σ : L2.St} {H : Hp} {q0 : Pos} {Q : Value → Shared → Prop} {E : Value → Shared → Prop} (hc : Names X x c) (I : Inv X pins σ H s) (q : Q c s) : wpAny (model X.prog X.w) X.A (eval (.Name x q0) X.env) Q E s := by
  obtain ⟨g, nd, m | ⟨m, v, n⟩⟩ := hc
  · exact ld_glob I g m q nd
  · exact ld_blt I g m v q n nd
/-- (A, B) is made anew, the heap grows by it alone -/
theorem ld_pair {x1 x2 : Str} {c1 c2 : Value} {pins : List (Addr × Obj)} {s : Shared} {σ : L2.St} {H : Hp} {p1 p2 p3 : Pos} {kk : Nat} {Q : Value → Shared → Prop} {E : Value → Shared → Prop} (h1 : Names X x1 c1) (h2 : Names X x2 c2) (I : Inv X pins σ H s)
    (q : Q (.ref s.heap.objs.size) { s with heap := s.heap.push { cls := .type "tuple", data := .seq [c1, c2].toArray } }) : wpAny (model X.prog X.w) X.A (eval (.Tuple [.Name x1 p1, .Name x2 p2] kk p3) X.env) Q E s := by
  refine wpAny_Tuple_spliced ?_
  show wpAny _ _ (spliced ((false, eval (.Name x1 p1) X.env) :: backTo p3 (starEach [.Name x2 p2] X.env))) _ _ s
  refine Calls.spliced_cons (ld_name h1 I ?_)
  show wpAny _ _ (spliced ((false, eval (.Name x2 p2) X.env) :: backTo p3 (starEach [] X.env))) _ _ s
  refine Calls.spliced_cons (ld_name h2 I ?_)
  exact Calls.spliced_nil ⟨(by show 2 ≤ sizeLine; decide), q⟩
theorem flying_push {B : Heap} {l : List Env} {e : Addr} {Z : Obj → Prop} {h : Heap} (o : Obj) (f : HandSPX.FlyingZ B l e Z h) : HandSPX.FlyingZ B l e Z (h.push o) := by
  obtain ⟨f1, f2, f3, oe, vs, T, oT, ts, g1, g2, g3, g4, g5, g6, g7, g8, g9⟩ := f
  exact ⟨fun b u z => Heap.get?_push_of_some _ (f1 b u z), f2, Heap.FunFrames.of_keeps (fun b u z _ => ⟨u, Heap.get?_push_of_some _ z, rfl⟩) f3, oe, vs, T, oT, ts, Heap.get?_push_of_some _ g1, g2, g3, g4, g5, g6, Heap.get?_push_of_some _ g7, g8, g9⟩
end
/-- a caught exception that is kept: its class, its dict -/
def exK (cls : Value) (d : Option Addr) (e : Addr) : HO := .ext fun h => ∃ (o : Obj) (vs : Array Value), h.get? e = some o ∧ Zc cls d o ∧ o.data = .fields vs
theorem exK_ok {P : Program} {w : World} {H : Hp} {h : Heap} {e : Addr} {cls : Value} {d : Option Addr} {o : Obj} {vs : Array Value} (g : h.get? e = some o) (z : Zc cls d o) (f : o.data = .fields vs) : ObjOk P w H h e (exK cls d e) :=
  ⟨⟨o, vs, g, z, f⟩, ⟨o, g⟩, fun h1 h2 q same => by
    obtain ⟨o1, v1, g1, z1, f1⟩ := q
    exact ⟨o1, v1, same o1 g1, z1, f1⟩⟩
theorem exK_at {P : Program} {w : World} {H : Hp} {h : Heap} {e : Addr} {cls : Value} {d : Option Addr} (ok : HOk P w H h) (q : H e = some (exK cls d e)) : ∃ (o : Obj) (vs : Array Value), h.get? e = some o ∧ Zc cls d o ∧ o.data = .fields vs := (ok e _ q).1
/-- what the clause wishes, the exception kept in the heap -/
def wKeep2 (K : PySem.W.Frag) (c1 c2 : Value) (i : Nat) (ts : Addr → TS) (Wo : WX) (D : Ends) : WX := fun cls d σ H =>
  ∃ b, PySem.W.exmAny K cls [c1, c2] = some b ∧
    (b = true → ∀ a, H a = none → ts a ⟨fun τ G => D.nx (τ.set i none) G, D.rt, fun τ G => D.bk (τ.set i none) G, fun τ G => D.ct (τ.set i none) G⟩ (σ.set i (some (.ref a))) (upd H a (exK cls d a))) ∧ (b = false → Wo cls d σ H)
section
variable {X : Cx} {pins : List (Addr × Obj)} {σ : L2.St} {H : Hp} {s s' sI : Shared} {B : Heap}
theorem _root_.L2.Inv.bareSuite (I : L2.Inv X pins σ H s) (e : Addr) : L2.Inv (X.suite e (X.pn ++ pins)) [] σ H s :=
  ⟨I.ok.suite _ _, I.os, I.bare, I.base, I.loc, I.cell, I.free, I.freeC, fun p hp => I.pin p (by rw [List.append_nil] at hp; exact hp), I.hok, I.len⟩
theorem _root_.L2.Inv.offSuite {e : Addr} {pn' : List (Addr × Obj)} (I : L2.Inv (X.suite e (X.pn ++ pins)) pn' σ H s) (ok : X.Ok) : L2.Inv X pins σ H s :=
  ⟨ok, I.os, I.bare, I.base, I.loc, I.cell, I.free, I.freeC, fun p hp => I.pin p (List.mem_append_left _ hp), I.hok, I.len⟩
/-- back on the ground, and the exception is of our heap -/
theorem _root_.L2.Inv.keptNew {e : Addr} {o : HO} (I : L2.Inv X pins σ H sI) (nb : ∀ b u, sI.heap.get? b = some u → b ∉ frs X.stack → B.get? b = some u) (st : B.StaysIn s'.heap) (up : sI.heap.UpToSlots s'.heap) (os : s'.os = sI.os) (ag : AllBare s'.gens)
    (new : sI.heap.get? e = none) (ne : H e = none) (k : ObjOk X.prog X.w (upd H e o) s'.heap e o) : L2.Inv X pins σ (upd H e o) s' := by
  have frame : ∀ b ∈ frs X.stack, ∀ u, sI.heap.get? b = some u → ∃ sl, s'.heap.get? b = some { u with slots := sl } := fun b m u g => by
    obtain ⟨_, u', g', plain⟩ := I.stack.mem m
    rw [g] at g'
    cases g'
    exact up b u g plain
  have other : ∀ b u, sI.heap.get? b = some u → b ≠ e := fun b u g z => by rw [z, new] at g; cases g
  have was : HOk X.prog X.w H s'.heap := (I.inGround nb).kept st
  have J := I.call (ch := []) (h' := s'.heap) (g' := s'.gens) (t' := s'.toks) (d' := s'.drawn) (H' := upd H e o)
    ⟨fun b u g _ m _ => st b u (nb b u g m), fun b u g _ m _ => frame b m u g, fun b u g n _ => by rw [upd_ne (other b u g)]; exact n, fun b u g _ => by
      by_cases m : b ∈ frs X.stack
      · exact ⟨_, (frame b m u g).choose_spec⟩
      · exact ⟨u, st b u (nb b u g m)⟩, fun b xs q => by rw [upd_ne (ne_of_none q ne)]; exact q, fun b u xs q => by rw [upd_ne (ne_of_none q ne)]; exact q, fun b ps q => ⟨#[], by rw [upd_ne (ne_of_none q ne), q]; simp⟩⟩
    (was.laidN (fun _ _ q => q) ne k) ag (fun _ z => nomatch z)
  obtain ⟨a1, a2, a3, a4, a5⟩ := s'
  have e5 : a5 = sI.os := os
  subst e5
  exact J
end
section
variable {X : Cx}
variable {x1 x2 n : Str} {c1 c2 : Value} {i kk : Nat} {body suite : List Stmt} {b₀ : Stmt} {p1 p2 p3 pos pos' : Pos} {tb : WX → TS} {ts : Addr → TS} {Wo : WX}
theorem ps_try_keep2 (stk : X.stack = X.env :: X.outer) (fr : X.env.frame = some X.env.locals) (nod : X.N.Nodup) (at_i : X.N[i]? = some n) (lc : X.env.kindOf n = some .local) (nm1 : Names X x1 c1) (nm2 : Names X x2 c2) (out : Takes X Wo)
    (does : ∀ (W : WX) (pn : List (Addr × Obj)) (xe : Value → Shared → Prop), Takes (X.tr pn xe) W → PassesOwn (model X.prog X.w) X.A X.env xe → PSs (X.tr pn xe) body (tb W))
    (then_ : ∀ (e : Addr) (pn : List (Addr × Obj)), PSs (X.suite e pn) (b₀ :: suite) (ts e)) :
    PS X (.Try body [.ExceptHandler (some (.Tuple [.Name x1 p1, .Name x2 p2] kk p3)) (some n) (b₀ :: suite) pos'] [] [] pos) (fun D σ H => tb (wKeep2 X.K c1 c2 i ts Wo D) D σ H) := by
  refine ⟨fun pins s σ H D I rd => ?_⟩
  have okX := I.ok
  have frs0 : X.A.frames = some (X.env :: X.outer) := okX.frames.trans (congrArg some stk)
  refine wpAny_Try_except ?_
  have run := (does (wKeep2 X.K c1 c2 i ts Wo D) (X.pn ++ pins) (fun v z => wpAny (model X.prog X.w) X.A (noteFrame v X.env) (fun _ z2 => wpAny (model X.prog X.w) X.A (setFlight v none) (fun _ z3 =>
    wpAny (model X.prog X.w) X.A (handleBy v X.env [.ExceptHandler (some (.Tuple [.Name x1 p1, .Name x2 p2] kk p3)) (some n) (b₀ :: suite) pos']) (SP X pins D) X.xe z3) X.xe z2) X.xe z)
    (fun u z flown => ?caught) PassesOwn.looking).run [] s σ H D (I.toTry _) rd
  case caught =>
    obtain ⟨e, B, z0, pins', τ, G, cls, d, rfl, J0, nb, up0, sky0, ne, os0, bare0, b, hit, yes, no⟩ := flown
    have J := J0.ofTry okX
    rw [show (X.tr (X.pn ++ pins) _).stack = X.env :: X.outer from stk] at sky0
    refine Sky.land Zc.steady frs0 fr sky0 fun g fl upg => ?_
    have Jg := J.landed (s' := { z with heap := g }) nb fl.1 (up0.trans upg) os0 bare0
    obtain ⟨o3, v3, got3, z3, dat3⟩ := fl.there
    have off : ∀ {h : Heap} {o : Obj} {vs : Array Value}, h.FunFrames B (X.env :: X.outer) → h.get? e = some o → o.data = .fields vs → ¬ e ∈ frs (X.env :: X.outer) := fun {h o vs} ff ge dd m => by
      obtain ⟨_, o', ge', bad⟩ := ff.mem m
      rw [ge] at ge'
      cases ge'
      exact bad vs dd
    have none_of := off fl.2.2.1 got3 dat3
    have n1 : e ≠ X.env.locals := fun z => none_of (List.mem_filterMap.mpr ⟨X.env, List.mem_cons_self, fr.trans (congrArg some z.symm)⟩)
    have n2 : e ∉ X.fs := fun m => by
      obtain ⟨y, my, ey⟩ := List.mem_filterMap.mp m
      exact none_of (List.mem_filterMap.mpr ⟨y, List.mem_cons_of_mem _ my, ey⟩)
    have Sg := Jg.suite got3 dat3 ne n1 n2
    refine wpAny_handleBy_cons (codeAny_handlers_test ?_) (fun q => by cases q)
    refine ld_pair (X := X.suite e ((e, o3) :: (X.pn ++ pins))) nm1 nm2 Sg ?_
    have keeps : ∀ b o, g.get? b = some o → (g.push { cls := .type "tuple", data := .seq [c1, c2].toArray }).get? b = some o := fun b o q => Heap.get?_push_of_some _ q
    have fl' := flying_push { cls := .type "tuple", data := .seq [c1, c2].toArray } fl
    have upg' : z.heap.UpToSlots (g.push { cls := .type "tuple", data := .seq [c1, c2].toArray }) := upg.trans (fun b o q _ => ⟨o.slots, keeps b o q⟩)
    have looks : PySem.W.Looks (model X.prog X.w) (g.push { cls := .type "tuple", data := .seq [c1, c2].toArray }) (typeOf (.ref e)) cls := fun _ _ _ _ k q => wpAny_typeOf_ref (k _ _ (keeps _ _ got3)) (by rw [z3.1]; exact q)
    have hits := PySem.W.exm_tup2 (M := model X.prog X.w) (Jg.kIn.keeps keeps) looks (Heap.get?_push_size _ rfl) hit
    refine hits.here ?_
    generalize g.push { cls := .type "tuple", data := .seq [c1, c2].toArray } = g' at keeps fl' upg' hits ⊢
    cases b with
    | true =>
      refine codeAny_handlers_suite_as ?_
      refine HandSPX.lands_againZ fl' fun g4 fl4 up4 => ?_
      have J4 := J.landed (s' := { z with heap := g4 }) nb fl4.1 ((up0.trans upg').trans up4) os0 bare0
      obtain ⟨o4, v4, got4, z4, dat4⟩ := fl4.there
      have new0 : z0.heap.get? e = none := by
        cases q : z0.heap.get? e with
        | none => rfl
        | some o =>
          have := nb e o q (by rw [show (X.tr (X.pn ++ pins) _).stack = X.env :: X.outer from stk]; exact none_of)
          rw [fl.2.1] at this
          cases this
      have K4 := J.keptNew (s' := { z with heap := g4 }) nb fl4.1 ((up0.trans upg').trans up4) os0 bare0 new0 ne (exK_ok got4 z4 dat4)
      have S4 := K4.bareSuite e
      refine store_ok (X := X.suite e (X.pn ++ pins)) (v := .ref e) S4 nod at_i (.inl lc) rfl (fun z5 S5 => ?_) (.inr lc)
      refine wpAny_mono ((then_ e (X.pn ++ pins)).run [] z5 _ (upd G e (exK cls d e)) _ S5 (yes rfl e ne)) (fun fw z6 fin => ?_) (fun _ _ q => q.elim)
      have over : ∀ {τ6 : L2.St} {G6 : Hp} {Q : Shared → Prop}, L2.Inv (X.suite e (X.pn ++ pins)) [] τ6 G6 z6 → (∀ z7, L2.Inv X pins (τ6.set i none) G6 z7 → Q z7) → wpAny (model X.prog X.w) X.A (do bindName X.env n .none; unbindBehindTheSuite X.env n pos') (fun _ z7 => Q z7) X.xe z6 :=
        fun {τ6 G6 Q} S6 q => gone_ok (S6.offSuite okX) nod at_i lc q
      cases fw with
      | ret u =>
        obtain ⟨v6, τ6, G6, S6, r6, q6⟩ := fin
        exact over S6 fun z7 J7 => ⟨_, _, _, J7, r6, q6⟩
      | _ =>
        obtain ⟨τ6, G6, S6, q6⟩ := fin
        exact over S6 fun z7 J7 => ⟨_, _, J7, q6⟩
    | false =>
      show wpAny _ X.A (handleBy (.ref e) X.env []) _ _ _
      refine wpAny_handleBy_nil ?_
      obtain ⟨_, _, _, o5, v5, T, oT, w5, got5, _, dat5, tr5, _⟩ := id fl'
      unfold PySem.passOn
      refine wpAny_bind (wpAny_field got5 dat5 tr5 ?_)
      rw [if_neg (by simp : ¬ ((Value.ref T == Value.none) = true))]
      have flies : wpAny (model X.prog X.w) X.A (setFlight (.ref e) X.env.frame) (fun _ z4 => wpAny (model X.prog X.w) X.A (throw (.ref e) : Sem Flow) (SP X pins D) X.xe z4) X.xe { z with heap := g' } := by
        rw [fr]
        exact HandSPX.setFlight_upZ fl' fun g4 held up4 => wpAny_throw (out _ _ ⟨e, B, z0, pins, τ, G, cls, d, rfl, J, nb, (up0.trans upg').trans up4, .inr (.inr (by rw [stk]; exact held)), ne, os0, bare0, no rfl⟩)
      first
        | exact wpAny_bind (wpAny_pure (wpAny_bind flies))
        | exact wpAny_bind flies
  refine wpAny_mono run (fun fw z6 fin => ?_) (fun v z6 q => q)
  cases fw with
  | next =>
    obtain ⟨τ, G, J, q⟩ := fin
    exact wpAny_execs_nil ⟨τ, G, J.ofTry okX, q⟩
  | ret u =>
    obtain ⟨v, τ, G, J, r, q⟩ := fin
    exact ⟨v, τ, G, J.ofTry okX, r, q⟩
  | _ =>
    obtain ⟨τ, G, J, q⟩ := fin
    exact ⟨τ, G, J.ofTry okX, q⟩
end
end HSP
set_option maxHeartbeats 2000000
namespace HSP
open PySem PySem.Spec PyProof.Rows L2
/-! ### a kept exception: its fields, its class -/
/-! the class of an exception that has its dict -/
section
open PySem.W PySem.Calls
variable {prog : Program} {w : World} {A : Around} {E : Value → Shared → Prop} {z : Shared} {K : Frag} {x D : Addr} {o : Obj} {od : Option Obj}
theorem found_class (C : ExcC K D) : findObj K D od "__class__" = some (.bind (.builtin "getset_descriptor.__get__") (.builtin "object.__class__")) := by
  obtain ⟨cd, hc, _⟩ := any_some C.hd
  unfold findObj
  rw [hc, Option.bind_some, C.ha, Option.bind_some]
  dsimp only
  rw [C.hn, Option.bind_some]
  dsimp only
  rw [C.ht, Option.bind_some]
theorem asked_class {Q : Option Value → Shared → Prop} (C : ExcC K D) (I : K.In z.heap) (J : InstAt z.heap x o D od) (q : Q (some (.ref D)) { z with toks := z.toks + 1 }) : wpAny (model prog w) A (getAttr? (.ref x) "__class__") Q E z := by
  have found := found_class (od := od) C
  obtain ⟨h, gs, dr, tk, os⟩ := z
  have type := J.type (M := model prog w)
  have by1 := looks_findIn (M := model prog w) I C.hg
  have by2 := looks_findIn (M := model prog w) I C.hk
  have by3 := looks_find (M := model prog w) I J found
  have isExc : Looks (model prog w) h (isInstance (.ref x) (.type "BaseException")) true := type.andThen (looks_subIn I C.hs)
  have no1 : (Value.builtin "BaseException.__getattribute__" == Value.builtin "object.__getattribute__") = false := by decide +kernel
  have no2 : (onTheHeap (Value.ref D) && Value.builtin "BaseException.__getattribute__" == Value.builtin "object.__getattribute__") = false := by rw [no1] <;> rfl
  have no3 : (false && onTheHeap (Value.builtin "BaseException.__getattribute__")) = false := rfl
  unfold getAttr? getAttrBy? getAttrBy
  refine wpAny_bind (wpAny_mkText (wpAny_bind (wpAny_attempt (wpAny_holding (wpAny_bind (type.at (wpAny_bind (by1.at ?_))))))))
  show wpAny _ _ (if (onTheHeap (Value.ref D) && Value.builtin "BaseException.__getattribute__" == Value.builtin "object.__getattribute__") = true then _ else _) _ _ _
  rw [no2, if_neg (fun q => nomatch q)]
  unfold getAttrByItsOwn hookBefore
  refine wpAny_bind ?_
  rw [if_pos (by rfl : onTheHeap (Value.ref D) = true)]
  refine by2.at (wpAny_bind (wpAny_attempt (wpAny_holding ?_)))
  unfold callGetattribute
  rw [no3, if_neg (fun q => nomatch q)]
  unfold boundAndCalled
  rw [PySem.F.excAttr_ValueError.ga.bind (Value.ref x)]
  refine wpAny_bind (wpAny_pure (show wpAny _ _ (call (.builtin "BaseException.__getattribute__") [.ref x, .str "__class__" tk]) _ _ _ from wpAny_call (codeAny_call_builtin PySem.F.excAttr_ValueError.ga.plain PySem.F.entry_bexc_ga ?_)))
  have kind := PySem.F.args_bexc_ga (.ref x) (.str "__class__" tk)
  refine @check_slot (model prog w) _ _ ⟨h, gs, dr, tk + 1, os⟩
    "BaseException.__getattribute__" "BaseException"
    "__getattribute__" (.ref x)
    [.str "__class__" tk] [] _ (by decide +kernel) (by decide +kernel)
    isExc kind ?_
  unfold Builtin.«object.__getattribute__»
  refine wpAny_bind (wpAny_of_eq (a := ((Value.ref x : Value), [Value.str "__class__" tk])) (by first | rfl | (simp only [slotArgs]; rfl)) (wpAny_bind (wpAny_pure (wpAny_bind (type.at (wpAny_bind (by3.at ?_)))))))
  show wpAny _ _ (holding [Value.builtin "object.__class__"] (call (.builtin "getset_descriptor.__get__") [.builtin "object.__class__", .ref x, .ref D]) >>= ret) _ _ _
  refine wpAny_bind (wpAny_holding (wpAny_call (class_get (s := ⟨h, gs, dr, tk + 1, os⟩) (ox := o) (od := od) I J C.hm (wpAny_pure ?_))))
  show wpAny _ _ (handedOut (.ref D)) _ _ _
  rw [handedOut_of (v := Value.ref D) rfl]
  first
    | exact wpAny_pure (wpAny_pure q)
    | exact wpAny_pure q
    | exact wpAny_pure (wpAny_bind (wpAny_pure (wpAny_pure q)))
theorem kitK (C : ExcC K D) : KitX K (.ref x) (.ref D) (fun h => InstAt h x o D od) where
  ty := fun _ _ _ J => J.type
  it := fun _ _ I _ => by
    obtain ⟨cd, is, _⟩ := any_some C.hd
    unfold clsIn at is
    split at is
    case h_2 => cases is
    case h_1 there =>
      intro A0 Q0 E0 s0 k q
      unfold isType loadHead
      exact wpAny_bind (wpAny_loadPart (k _ _ (I _ _ there)) (wpAny_pure q))
  ne := (handS_kitx_exc (x := x) (ox := o) C.hg C.hk C.hs C.hd C.ha C.hn C.ht C.hm).ne
  ca := fun I J q => asked_class C I J q
end
section
variable {X : Cx}
/-- e.f of a kept exception of the class C -/
def tXfK (K : PySem.W.Frag) (f : Str) (te : TE) : TE := fun σ H Q => te σ H fun x G => ∃ (e C dd : Addr) (fs : List (Str × V)) (v : V), x = .ref e ∧ G e = some (exK (.ref C) (some dd) e) ∧ XfC K C ∧ PySem.W.findIn K (.ref C) f = some none ∧ G dd = some (.xd fs) ∧ fs.lookup f = some v ∧ Q v G
theorem pe_xfK {b : Expr} {te : TE} {pos : Pos} {f : Str} (hb : PE X b te) (base : attributeBase b f X.env (eval b X.env) = eval b X.env := by rfl) : PE X (.Attribute b f pos) (tXfK X.K f te) := by
  refine ⟨fun pins s σ H Q I rd => ?_⟩
  refine attr_of base (thn (hb.run pins s σ H _ I rd) fun u z got => ?_)
  obtain ⟨x, G, J, ru, e, C, dd, fs, v, rfl, here, T, free, own, has, q⟩ := got
  cases (show u = Value.ref e from ru)
  obtain ⟨o, vs, go, ⟨cl, di⟩, da⟩ := exK_at J.hok here
  obtain ⟨mA, ns, vals⟩ : ObjOk X.prog X.w G z.heap dd (.xd fs) := J.hok dd _ own
  obtain ⟨od, god, look⟩ := lookIn_ns ns
  obtain ⟨y, ey, ry⟩ := RelO.some_of (v := v) (o := mA f) (has ▸ vals f)
  have inst : PySem.W.InstAt z.heap e o C (some od) := ⟨go, cl, by unfold PySem.W.notCls; rw [da] <;> rfl, by rw [di]; exact god⟩
  exact HandSPX.exc_get J.kIn inst T.ga T.gg T.exC (PySem.W.findObj_own T.hdC free rfl ((look f).trans (congrArg some ey))) (handed_of ry) ⟨v, G, J.tok _, ry, q⟩
/-- isinstance(e, c) of a kept exception of the class D; a dict that it has is in our heap -/
def rIsK (K : PySem.W.Frag) : List V → Hp → VK → Prop := fun xs H Q => ∃ (e D : Addr) (c : V) (cv : Value) (b : Bool), xs = [.ref e, c] ∧ (∃ d, H e = some (exK (.ref D) d e) ∧ ∀ dd, d = some dd → ∃ fs, H dd = some (.xd fs)) ∧ ExcC K D ∧ (∀ u, RelV c u → u = cv) ∧ PySem.W.kitOne K (.ref D) cv = some b ∧ Q (.bl b) H
theorem call_isK : CallR X (.builtin "isinstance") (rIsK X.K) := by
  intro pins s σ H xs us Q I r rd
  obtain ⟨e, D, c, cv, b, rfl, ⟨d, here, own⟩, C, only, says, q⟩ := rd
  obtain ⟨u1, u2, rfl, r1, r2⟩ := vals2 r
  cases (show u1 = Value.ref e from r1)
  cases only _ r2
  obtain ⟨o, vs, go, ⟨cl, di⟩, da⟩ := exK_at I.hok here
  obtain ⟨od, inst⟩ : ∃ od, PySem.W.InstAt s.heap e o D od := by
    cases d with
    | none => exact ⟨none, go, cl, by unfold PySem.W.notCls; rw [da] <;> rfl, by rw [di]; trivial⟩
    | some dd =>
      obtain ⟨fs, has⟩ := own dd rfl
      obtain ⟨mA, ns, _⟩ : ObjOk X.prog X.w H s.heap dd (.xd fs) := I.hok dd _ has
      obtain ⟨od, god, _⟩ := lookIn_ns ns
      exact ⟨some od, go, cl, by unfold PySem.W.notCls; rw [da] <;> rfl, by rw [di]; exact god⟩
  exact PySem.W.kia_one (kitK C) I.kIn inst says (fun z => nomatch z) fun tk => ⟨.bl b, H, I.kept (t' := tk) fun _ _ z => z, rfl, q⟩
end
end HSP
namespace HSP
open PySem PySem.Spec PyProof.Rows L2
/-! ## a def that may raise, called by its name -/
structure DfX (P : Program) (w : World) (K : PySem.W.Frag) (mg : Str → Option Value) (base : Heap) (x : Str) (n : Nat) (ps : List Str) (sp : Sp) : Prop where
  ex : ∃ (f : Addr) (fd : FuncData), mg x = some (.ref f) ∧ PySem.W.keepIn K (.ref f) = true ∧ Binds K fd ps [] ∧ FnOk P w K mg base (L2.CX P w) n f fd ps sp
section
variable {P : Program} {w : World} {K : PySem.W.Frag} {mg : Str → Option Value} {base : Heap}
theorem DfX.mk' {x : Str} {st : Stmt} {N ps : List Str} {k : Nat} {sp : Sp} (a : At K mg x st) (S : FnScope N ps (defScope st)) (len : ∀ vs H Q E, sp vs H Q E → vs.length = ps.length)
    (hb : ∀ (kV doc pm : Value) (an : Option Addr) (cdv ct : Value) (us : List Value), us.length = ps.length → bindArgs (PySem.W.fnOf x x (defArgs st) (defBody st) (defScope st) .none kV doc pm an cdv ct) ⟨us, []⟩ = pure (ps.zip us))
    (body : ∀ (f : Addr) (cdv : Value) (A : Around) (outer : List Env) (s : Shared) (H : Hp) (vs : List V) (Q : VK) (E : XK), Room k (A.deeper (envOfC x (defScope st) s.heap.objs.size f cdv)) → sp vs H Q E →
      ∃ t, PSs (cxOf (L2.CX P w) P w K mg base N x (defScope st) f cdv A outer s H E) (defBody st) t ∧ t { nx := fun _ H' => Q .non H', rt := Q } (start N vs) H) : DfX P w K mg base x (k + 1) ps sp := by
  obtain ⟨f, fd, named, F⟩ := a
  exact ⟨f, fd, named, F.kp, F.binds hb, F.okX S len (body f)⟩
theorem DfX.mono {x : Str} {j k : Nat} {ps : List Str} {sp : Sp} (D : DfX P w K mg base x j ps sp) (h : j ≤ k) : DfX P w K mg base x k ps sp := by
  obtain ⟨f, fd, a, b, c, d⟩ := D.ex
  exact ⟨f, fd, a, b, c, d.mono h⟩
end
section
variable {X : Cx} {k : Nat} {ps : List Str} {sp : Sp} {x : Str} {p pos : Pos} {e : Expr} {es : List Expr} {t : TA} {W : WX}
theorem pe_dfX (D : DfX X.prog X.w X.K X.mg X.base x k ps sp) (hr : Room k X.A) (tk : Takes X W) (ha : PA X (e :: es) t) (hg : Gl X x := by rfl) (hdb : (x == ("__debug__" : Str)) = false := by decide)
    (he : starEach (e :: es) X.env = (false, eval e X.env) :: starEach es X.env := by rfl) (hpl : (backTo pos (starEach es X.env)).any (·.1) = false := by rfl) : PE X (.Call (.Name x p) (e :: es) [] pos) (tCallS sp (WE W) t) := by
  obtain ⟨f, fd, named, kept, binds, F⟩ := D.ex
  exact pe_callS F hr hg named kept binds (fun σ => passAt tk σ) ha hdb he hpl
end
end HSP
namespace HSP
open PySem PySem.Spec PyProof.Rows L2
/-! ### InvalidText(node) -/
def clsBodyT : Stmt → List Stmt
  | .ClassDef (body := b) .. => b
  | _ => []
abbrev s_itInit : Stmt := (clsBodyT (topS 4)).getD 0 (.Pass ⟨0, 0, 0, 0⟩)
abbrev n_itInit : List Str := ["self", "line"]
section
variable {P : Program} {w : World} {K : PySem.W.Frag} {mg : Str → Option Value} {base : Heap}
theorem sc_itInit : FnScope ["self", "line"] ["self", "line"] (defScope s_itInit) := ⟨rfl, rfl, rfl, by decide +kernel, rfl, by decide +kernel, by decide +kernel⟩
def spItInit (K : PySem.W.Frag) : Sp := fun vs H Q _ => ∃ (a C : Addr) (v : V), vs = [.ref a, v] ∧ OexC K C ∧ PySem.W.findIn K (.ref C) "line" = some none ∧ H a = some (exo a C none) ∧ ∀ dx, H dx = none → dx ≠ a → Q .non (upd (upd H dx (exd dx [("line", v)])) a (exo a C (some dx)))
theorem ok_itInit {f : Addr} {fd : FuncData} (hv : mg "ValueError" = none) (vV : PySem.W.findCls K (.type "ValueError") (.type "type") "__init__" = some (.val (.builtin "ValueError.__init__"))) (F : Fun K "__init__" "InvalidText.__init__" s_itInit f fd) : FnOk P w K mg base CX0 1 f fd ["self", "line"] (spItInit K) := by
  refine F.ok sc_itInit (fun vs H Q E h => ?_) (fun cdv A outer s H vs Q E hr h => ?_)
  · obtain ⟨a, C, v, rfl, _⟩ := h
    rfl
  obtain ⟨a, C, v, rfl, T, no, e, q⟩ := h
  refine ⟨_, pss_cons (ps_expr (pe_veinit (by rfl) hv vV (pa_cons (pv 0) (pa_cons pe_str pa_nil)))) (pss_one (ps_ost (pv 0) (pv 1))), ?_⟩
  refine ⟨_, rfl, a, C, _, rfl, (by show 1 ≤ 1000; decide), T, e, ?_⟩
  exact ⟨_, rfl, _, rfl, a, C, rfl, T, no, .inl ⟨e, q⟩⟩
/-- what raising InvalidText asks -/
structure OwnT (K : PySem.W.Frag) (mg : Str → Option Value) (C fI : Addr) (fd : FuncData) : Prop where
  g : mg "InvalidText" = some (.ref C)
  T : OexC K C
  i : PySem.W.findIn K (.ref C) "__init__" = some (some (.ref fI))
  t : PySem.W.typeIn K (.ref fI) = some (.type "function")
  no : PySem.W.findIn K (.ref C) "line" = some none
  F : Fun K "__init__" "InvalidText.__init__" s_itInit fI fd
  b : Binds K fd ["self", "line"] []
  v : mg "ValueError" = none
  vV : PySem.W.findCls K (.type "ValueError") (.type "type") "__init__" = some (.val (.builtin "ValueError.__init__"))
def ET (C : Addr) (E : XK) (H : Hp) (v : V) : Prop := ∀ (H' : Hp) (dd : Addr), Same H H' → H' dd = some (.xd [("line", v)]) → E (.ref C) (some dd) H'
theorem ET.same {C : Addr} {E : XK} {H H1 : Hp} {v : V} (s : Same H H1) (h : ET C E H v) : ET C E H1 v := fun H' dd s' e => h H' dd (s.trans s') e
theorem mk_it {C : Addr} (T : OexC K C) (no : PySem.W.findIn K (.ref C) "line" = some none) {E : XK} {H : Hp} {v : V} (h : ET C E H v) :
    [v].length ≤ 1000 ∧ ∀ a, H a = none → spItInit K (.ref a :: ([v] ++ [])) (upd H a (exo a C none)) (fun x H2 => x = .non ∧ ∃ (d : Addr) (fs : List (Str × V)), H2 a = some (exo a C (some d)) ∧ H2 d = some (exd d fs) ∧ H d = none ∧ E (.ref C) (some d) (upd (del H2 a) d (.xd fs))) (fun _ _ _ => False) := by
  refine ⟨(by show 1 ≤ 1000; decide), fun a na => ⟨a, C, v, rfl, T, no, upd_same, fun dx nd ne => ?_⟩⟩
  rw [upd_ne ne] at nd
  refine ⟨rfl, dx, [("line", v)], upd_same, (upd_ne ne).trans upd_same, nd, h _ dx (fun b o e => ?_) upd_same⟩
  have b1 : b ≠ dx := fun z => by rw [z, nd] at e; cases e
  have b2 : b ≠ a := fun z => by rw [z, na] at e; cases e
  rw [upd_ne b1, del_ne b2, upd_ne b2, upd_ne b1, upd_ne b2]
  exact e
end
end HSP
namespace HSP
open PySem L2 TL
/-! ## joined words -/
/-- a word without blanks -/
def Word (s : Str) : Prop := s.length ≠ 0 ∧ ∀ c, c ∈ tl s → Unicode.isSpace c = false
theorem fold_word : ∀ (l : List Nat) (ws : List Str) (r : Str), (∀ c, c ∈ l → Unicode.isSpace c = false) → l.foldl KWd.step (ws, r) = (ws, r ++ ⟨l.toArray⟩)
  | [], ws, r, _ => by
    show (ws, r) = (ws, r ++ ⟨#[]⟩)
    rw [ext_tl (x := r ++ ⟨#[]⟩) (y := r) (by rw [tl_append]; exact List.append_nil _)]
  | c :: l, ws, r, h => by
    rw [List.foldl_cons]
    have e : KWd.step (ws, r) c = (ws, r ++ ⟨#[c]⟩) := by
      unfold KWd.step
      rw [if_neg (by rw [h c List.mem_cons_self]; decide)]
    rw [e, fold_word l ws _ fun x hx => h x (List.mem_cons_of_mem _ hx)]
    congr 1
    refine ext_tl ?_
    rw [tl_append, tl_append, tl_append, List.append_assoc]
    rfl
def fin2 (st : KWd.St) : List Str := KWd.fin st
theorem fold_join : ∀ (ls : List Str) (ws : List Str), (∀ s, s ∈ ls → Word s) → KWd.fin ((joinL [32] (ls.map tl)).foldl KWd.step (ws, Str.empty)) = ws ++ ls
  | [], ws, _ => by
    show (if Str.empty.length = 0 then ws else ws ++ [Str.empty]) = ws ++ []
    rw [if_pos (show Str.empty.length = 0 from rfl), List.append_nil]
  | [p], ws, h => by
    obtain ⟨h1, h2⟩ := h p (List.mem_singleton.mpr rfl)
    show KWd.fin ((tl p).foldl KWd.step (ws, Str.empty)) = ws ++ [p]
    rw [fold_word _ _ _ h2, mk_tl]
    have e : Str.empty ++ p = p := ext_tl (by rw [tl_append]; rfl)
    rw [e]
    show (if p.length = 0 then ws else ws ++ [p]) = _
    rw [if_neg h1]
  | p :: q :: r, ws, h => by
    obtain ⟨h1, h2⟩ := h p List.mem_cons_self
    show KWd.fin ((tl p ++ ([32] ++ joinL [32] ((q :: r).map tl))).foldl KWd.step (ws, Str.empty)) = _
    rw [List.foldl_append, fold_word _ _ _ h2, mk_tl, List.foldl_append]
    have e : Str.empty ++ p = p := ext_tl (by rw [tl_append]; rfl)
    rw [e]
    have e2 : List.foldl KWd.step (ws, p) [32] = (ws ++ [p], Str.empty) := by
      show KWd.step (ws, p) 32 = _
      unfold KWd.step
      rw [if_pos (by decide +kernel), if_neg h1]
    rw [e2, fold_join (q :: r) (ws ++ [p]) fun s hs => h s (List.mem_cons_of_mem _ hs), List.append_assoc]
    rfl
theorem words_join {ls : List Str} (h : ∀ s, s ∈ ls → Word s) : Txt.words (Txt.join (" " : Str) ls) = ls := by
  rw [KWd.words_scan, join_eq]
  have e : (Str.join (" " : Str) ls).cps.toList = joinL [32] (ls.map tl) := tl_join _ _
  unfold KWd.scan
  rw [e, fold_join ls [] h]
  rfl
/-! ### joined texts of as many parts are equal only if the parts are -/
theorem joinL_count (s : Nat) : ∀ ps : List (List Nat), (joinL [s] ps).count s = (ps.map (·.count s)).sum + (ps.length - 1)
  | [] => rfl
  | [p] => by simp [joinL]
  | p :: q :: r => by
    have ih := joinL_count s (q :: r)
    have e : joinL [s] (p :: q :: r) = p ++ ([s] ++ joinL [s] (q :: r)) := rfl
    rw [e, List.count_append, List.count_append, ih, List.map_cons (l := q :: r), List.sum_cons, List.length_cons (as := q :: r), List.length_cons]
    have : List.count s [s] = 1 := by simp
    rw [this]
    omega
theorem joinL_len (s : Nat) {c : Nat} : ∀ ps : List (List Nat), (∀ p, p ∈ ps → p.length ≤ c) → (joinL [s] ps).length ≤ (c + 1) * ps.length
  | [], _ => Nat.zero_le _
  | [p], h => by
    have := h p (List.mem_singleton.mpr rfl)
    show p.length ≤ (c + 1) * 1
    omega
  | p :: q :: r, h => by
    have ih := joinL_len s (q :: r) fun x hx => h x (List.mem_cons_of_mem _ hx)
    have := h p List.mem_cons_self
    have e : joinL [s] (p :: q :: r) = p ++ ([s] ++ joinL [s] (q :: r)) := rfl
    rw [e, List.length_append, List.length_append, List.length_cons (as := q :: r), Nat.mul_succ]
    show p.length + (1 + _) ≤ _
    omega
theorem join_len {ls : List Str} {c : Nat} (h : ∀ s, s ∈ ls → s.length ≤ c) : (Txt.join (" " : Str) ls).length ≤ (c + 1) * ls.length := by
  rw [join_eq, len_tl, tl_join]
  have e : tl (" " : Str) = [32] := by decide +kernel
  rw [e]
  have := joinL_len 32 (c := c) (ls.map tl) fun p hp => by
    obtain ⟨s, hs, rfl⟩ := List.mem_map.mp hp
    rw [← len_tl]
    exact h s hs
  rw [List.length_map] at this
  exact this
theorem sum_zero : ∀ {l : List Nat}, l.sum = 0 → ∀ x, x ∈ l → x = 0
  | a :: r, h, x, hx => by
    rw [List.sum_cons] at h
    rcases List.mem_cons.mp hx with e | e
    · omega
    · exact sum_zero (by omega) x e
theorem join_inj {as bs : List Str} (l : as.length = bs.length) (hb : ∀ s, s ∈ bs → 32 ∉ tl s) (h : Txt.join (" " : Str) as = Txt.join (" " : Str) bs) : as = bs := by
  have h1 : joinL [32] (as.map tl) = joinL [32] (bs.map tl) := by
    have e := congrArg tl h
    rw [join_eq, join_eq, tl_join, tl_join] at e
    exact e
  have c1 := joinL_count 32 (as.map tl)
  have c2 := joinL_count 32 (bs.map tl)
  rw [h1, c2, List.length_map, List.length_map, l] at c1
  have z : ((bs.map tl).map (·.count 32)).sum = 0 := by
    have : ∀ l : List Str, (∀ s, s ∈ l → 32 ∉ tl s) → ((l.map tl).map (·.count 32)).sum = 0 := fun l => by
      induction l with
      | nil => exact fun _ => rfl
      | cons a r ih =>
        intro hl
        rw [List.map_cons, List.map_cons, List.sum_cons, ih fun s hs => hl s (List.mem_cons_of_mem _ hs), List.count_eq_zero.mpr (hl a List.mem_cons_self)]
    exact this bs hb
  have za := sum_zero (l := (as.map tl).map (·.count 32)) (by omega)
  have ha : ∀ s, s ∈ as → 32 ∉ tl s := fun s hs => List.count_eq_zero.mp (za _ (List.mem_map.mpr ⟨tl s, List.mem_map.mpr ⟨s, hs, rfl⟩, rfl⟩))
  by_cases c : bs = []
  · rw [c] at l
    rw [c, List.length_eq_zero_iff.mp l]
  · have ey : tl (" " : Str) = 32 :: [] := by decide +kernel
    have hk : (" " : Str).cps.all (· < 256) = true := by decide +kernel
    rw [← split_join ey hk (parts := as) (fun e => c (by rw [e] at l; exact List.length_eq_zero_iff.mp l.symm)) ha, h, split_join ey hk c hb]
end HSP
namespace HSP
open PySem L2 TL
/-! ## numbers in texts -/
def restL : List Nat → List Nat
  | 45 :: r => r
  | l => l
def digB (c : Nat) : Bool := decide (48 ≤ c) && decide (c ≤ 57)
def numT (l : List Nat) : Bool := !(restL l).isEmpty && (restL l).all digB && (decide (l = [48]) || !decide ((restL l).head? = some 48))
theorem one_len (c : Nat) : (⟨#[c]⟩ : Str).length = 1 := rfl
theorem sub_zero {x : Str} (c : Nat) : Builtin.Str.subAt x ⟨#[c]⟩ 0 = decide ((tl x).head? = some c) := by
  rw [StrLaws.subAt_eq, one_len]
  show (((tl x).drop 0).take 1 == [c]) = _
  rw [List.drop_zero]
  cases tl x with
  | nil => rfl
  | cons d r =>
    show ([d] == [c]) = decide (some d = some c)
    by_cases h : d = c
    · subst h; simp
    · rw [decide_eq_false (fun z => h (Option.some.inj z))]
      simp [h]
theorem pre_signs (x : Str) : tl (Txt.removeprefix x ("-" : Str)) = restL (tl x) := by
  have e : ("-" : Str) = ⟨#[45]⟩ := by decide +kernel
  unfold Txt.removeprefix
  rw [e, sub_zero]
  by_cases h : (tl x).head? = some 45
  · rw [decide_eq_true h, if_pos rfl]
    show tl (if x.length - 1 == x.length then x else Builtin.Str.strSub x 1 x.length) = _
    have hl : 0 < x.length := by
      rw [len_tl]
      cases hx : tl x with
      | nil => rw [hx] at h; cases h
      | cons d r => exact Nat.succ_pos _
    rw [if_neg (by rw [beq_iff_eq]; omega), tl_strSub]
    cases hx : tl x with
    | nil => rw [hx] at h; cases h
    | cons d r =>
      rw [hx] at h
      cases h
      rw [len_tl, hx]
      show List.take (r.length + 1 - 1) r = r
      exact List.take_of_length_le (by omega)
  · rw [decide_eq_false h, if_neg (by decide)]
    show tl x = restL (tl x)
    unfold restL
    split
    · rename_i r e
      rw [e] at h
      exact absurd rfl h
    · rfl
theorem starts_zero (x : Str) : Txt.startswith x ("0" : Str) = decide ((tl x).head? = some 48) := by
  have e : ("0" : Str) = ⟨#[48]⟩ := by decide +kernel
  unfold Txt.startswith
  rw [e, sub_zero, one_len, len_tl]
  cases tl x with
  | nil => rfl
  | cons d r =>
    rw [decide_eq_true (show 0 + 1 ≤ (d :: r).length by rw [List.length_cons]; omega), Bool.true_and]
theorem cut_tl (x : Str) (lo hi : Option Int) : tl (cutS x lo hi) = ((tl x).drop (HT.sIx x.length 0 lo)).take (HT.sIx x.length x.length hi - HT.sIx x.length 0 lo) := rfl
theorem cut_rest (x : Str) : tl (cutS x (some 1) none) = (tl x).drop 1 := by
  rw [cut_tl, HT.sIx_none, show (1 : Int) = ((1 : Nat) : Int) from rfl, HT.sIx_nat, len_tl]
  cases tl x with
  | nil => rfl
  | cons d r =>
    have e : min 1 (d :: r).length = 1 := by rw [List.length_cons]; omega
    rw [e]
    exact List.take_of_length_le (by rw [List.length_drop]; exact Nat.le_refl _)
theorem cut_first (x : Str) : tl (cutS x none (some 1)) = (tl x).take 1 := by
  rw [cut_tl, HT.sIx_none, show (1 : Int) = ((1 : Nat) : Int) from rfl, HT.sIx_nat, len_tl]
  cases tl x with
  | nil => rfl
  | cons d r =>
    have e : min 1 (d :: r).length = 1 := by rw [List.length_cons]; omega
    rw [e]
    rfl
theorem restL_len (l : List Nat) : (restL l).length ≤ l.length := by
  unfold restL
  split
  · exact Nat.le_succ _
  · exact Nat.le_refl _
theorem num_val {x : Str} (h : numT (tl x) = true) (l : x.length ≤ 640) : ∃ n, intText? x = some n ∧ n.natAbs < 10 ^ x.length := by
  unfold numT at h
  rw [Bool.and_eq_true, Bool.and_eq_true] at h
  obtain ⟨⟨h1, h2⟩, _⟩ := h
  have h1 : restL (tl x) ≠ [] := fun z => by rw [z] at h1; cases h1
  have ad : NumText.AllDigits (restL (tl x)) := fun c hc => by
    have := List.all_eq_true.mp h2 c hc
    unfold digB at this
    rw [Bool.and_eq_true, decide_eq_true_iff, decide_eq_true_iff] at this
    exact this
  have bound : ∀ (cs : List Nat) (a : Nat), NumText.AllDigits cs → cs.foldl (fun acc c => acc * 10 + (c - 48)) a < (a + 1) * 10 ^ cs.length := fun cs => by
    induction cs with
    | nil => intro a _; show a < (a + 1) * 1; omega
    | cons c r ih =>
      intro a hd
      have h1 := ih (a * 10 + (c - 48)) hd.tail
      have h2 := hd.head
      rw [List.foldl_cons, List.length_cons, Nat.pow_succ]
      refine Nat.lt_of_lt_of_le h1 ?_
      rw [Nat.mul_comm (10 ^ r.length) 10, ← Nat.mul_assoc]
      exact Nat.mul_le_mul_right _ (by omega)
  have b2 : NumText.digitsVal (restL (tl x)) < 10 ^ x.length := by
    have h3 := bound (restL (tl x)) 0 ad
    rw [Nat.zero_add, Nat.one_mul] at h3
    refine Nat.lt_of_lt_of_le h3 (Nat.pow_le_pow_right (by decide) ?_)
    rw [len_tl]
    exact restL_len _
  by_cases c : ∃ r, tl x = 45 :: r
  · obtain ⟨r, e⟩ := c
    have er : restL (tl x) = r := by rw [e]; rfl
    rw [er] at ad h1 b2
    exact ⟨_, intText_neg e ad h1 (by omega), by rw [Int.natAbs_neg]; exact b2⟩
  · have er : restL (tl x) = tl x := by
      unfold restL
      split
      · rename_i r e
        exact absurd ⟨r, e⟩ c
      · rfl
    rw [er] at ad h1 b2
    exact ⟨_, intText_digits ad h1 (by omega), b2⟩
/-! ## parts of a text -/
theorem join_weight (y : Str) : ∀ l : List Str, (l.map (·.length)).sum + (l.length - 1) * y.length ≤ (Str.join y l).length
  | [] => by simp
  | [a] => by
    show a.length + 0 + 0 * y.length ≤ a.length
    omega
  | a :: b :: r => by
    have ih := join_weight y (b :: r)
    have e : (Str.join y (a :: b :: r)).length = a.length + y.length + (Str.join y (b :: r)).length := by
      show (a ++ y ++ Str.join y (b :: r)).length = _
      rw [len_tl, tl_append, tl_append, List.length_append, List.length_append, ← len_tl, ← len_tl, ← len_tl]
    rw [e, List.map_cons, List.sum_cons]
    have h1 : (a :: b :: r).length - 1 = (b :: r).length - 1 + 1 := by simp
    rw [h1, Nat.succ_mul]
    omega
theorem split_part {x y s : Str} (h : s ∈ Txt.split x y) : s.length ≤ x.length := by
  have h1 := join_weight y (Txt.split x y)
  rw [StrLaws.join_split] at h1
  have h2 : ∀ l : List Nat, ∀ a, a ∈ l → a ≤ l.sum := fun l => by
    induction l with
    | nil => exact fun a h => nomatch h
    | cons b r ih =>
      intro a ha
      rw [List.sum_cons]
      rcases List.mem_cons.mp ha with e | e
      · omega
      · have := ih a e; omega
  have := h2 ((Txt.split x y).map (·.length)) s.length (List.mem_map.mpr ⟨s, h, rfl⟩)
  omega
theorem split_few {x y : Str} (hy : 1 ≤ y.length) : (Txt.split x y).length ≤ x.length + 1 := by
  have h1 := join_weight y (Txt.split x y)
  rw [StrLaws.join_split] at h1
  have : (Txt.split x y).length - 1 ≤ ((Txt.split x y).length - 1) * y.length := Nat.le_mul_of_pos_right _ hy
  omega
end HSP
namespace HSP
open PySem PySem.Spec PyProof.Rows L2
/-! ## defs that may show an object: nothing is being shown around them -/
structure FnG (P : Program) (w : World) (K : PySem.W.Frag) (mg : Str → Option Value) (base : Heap) (CX : CXT) (k : Nat) (f : Addr) (fd : FuncData) (ps : List Str) (sp : Sp) : Prop where
  len : ∀ vs H Q E, sp vs H Q E → vs.length = ps.length
  run : ∀ (A : Around) (outer : List Env) (s : Shared) (H : Hp) (args : Args) (us : List Value) (vs : List V) (Q : VK) (E : XK), A.guards = some [] → Room k A → Env0 P w K mg base A outer s H → BindsTo s fd args (ps.zip us) → Vals vs us → sp vs H Q E →
    codeAny (model P w) A (.call (.ref f) args) (CR CX outer P w H s Q E) s
section
variable {P : Program} {w : World} {K : PySem.W.Frag} {mg : Str → Option Value} {base : Heap}
theorem FnG.of {CX : CXT} {k : Nat} {f : Addr} {fd : FuncData} {ps : List Str} {sp : Sp} (F : FnOk P w K mg base CX k f fd ps sp) : FnG P w K mg base CX k f fd ps sp :=
  ⟨F.len, fun A outer s H args us vs Q E _ hr e hb hv hs => F.run A outer s H args us vs Q E hr e hb hv hs⟩
theorem FnG.mk' {CX : CXT} {x qual : Str} {st : Stmt} {f : Addr} {fd : FuncData} {N ps : List Str} {k : Nat} {sp : Sp} (F : Fun K x qual st f fd) (S : FnScope N ps (defScope st)) (len : ∀ vs H Q E, sp vs H Q E → vs.length = ps.length)
    (body : ∀ (cdv : Value) (A : Around) (outer : List Env) (s : Shared) (H : Hp) (vs : List V) (Q : VK) (E : XK), A.guards = some [] → Room k (A.deeper (envOfC qual (defScope st) s.heap.objs.size f cdv)) → sp vs H Q E →
      ∃ t, PSs (cxOf CX P w K mg base N qual (defScope st) f cdv A outer s H E) (defBody st) t ∧ t { nx := fun _ H' => Q .non H', rt := Q } (start N vs) H) : FnG P w K mg base CX (k + 1) f fd ps sp := by
  obtain ⟨oc, od, kV, doc, pm, an, cdv, ct, osl, e1, lk, hcd⟩ := F.ex
  subst e1
  refine ⟨len, fun A outer s H args us vs Q E hg hr e0 hb rv hs => ?_⟩
  have kin : K.In s.heap := e0.mod.kin.keeps fun b o e => (e0.bs b o e).1
  have nol : s.heap.NoLimit := e0.mod.nolimit.keeps fun b o e => (e0.bs b o e).1
  have kinds : ∀ y ∈ ps.zip us, (defScope st).names.lookup y.1 = some .local ∨ ((defScope st).names.lookup y.1 = some .cell ∧ ((cellsFrom (s.heap.objs.size + 1) (defScope st).names []).lookup y.1).isSome = true) := by
    intro y hy
    refine (S.par y.1 (List.of_mem_zip (a := y.1) (b := y.2) hy).1).imp id fun c => ⟨c, PySem.W.cellsFrom_some _ _ _ (.inl c)⟩
  refine codeAny_call_function hr.depth (kin _ _ lk) rfl S.co S.gen rfl (PySem.W.codeRec_of kin hcd) (hb _ _ _ _ (wpAny_newFunctionEnv_cells S.kind kinds fun env he s1 x => ?_))
  subst he
  obtain ⟨t, ht, hq⟩ := body cdv A outer s H vs Q E hg (hr.deeper _) hs
  have I := inv_start (CX := CX) (E := E) S hr.hd e0 (len _ _ _ _ hs) rv x
  refine ⟨nol.keeps x.toInCall.keep, codeAny_func (wpAny_mono (ht.run [] s1 (start N vs) H _ I hq) (fun fl s' q => ?_) fun _ _ q => q)⟩
  match fl, q with
  | .ret u, ⟨v, σ', H', J, r, q⟩ => exact ⟨v, H', J.os, J.bare, J.base, J.hok, r, q⟩
  | .next, ⟨σ', H', J, q⟩ => exact ⟨.non, H', J.os, J.bare, J.base, J.hok, rfl, q⟩
  | .brk, ⟨_, _, _, q⟩ => exact q.elim
  | .cont, ⟨_, _, _, q⟩ => exact q.elim
end
end HSP
namespace HSP
open PySem PySem.Spec PyProof.Rows L2
theorem deeper_guards (A : Around) (env : Env) : (A.deeper env).guards = A.guards := rfl
/-! ### calls of such defs -/
structure DfG (P : Program) (w : World) (K : PySem.W.Frag) (mg : Str → Option Value) (base : Heap) (x : Str) (n : Nat) (ps : List Str) (sp : Sp) : Prop where
  ex : ∃ (f : Addr) (fd : FuncData), mg x = some (.ref f) ∧ PySem.W.keepIn K (.ref f) = true ∧ Binds K fd ps [] ∧ FnG P w K mg base CX0 n f fd ps sp
section
variable {P : Program} {w : World} {K : PySem.W.Frag} {mg : Str → Option Value} {base : Heap}
theorem DfG.mk' {x : Str} {st : Stmt} {N ps : List Str} {k : Nat} {sp : Sp} (a : At K mg x st) (S : FnScope N ps (defScope st)) (len : ∀ vs H Q E, sp vs H Q E → vs.length = ps.length)
    (hb : ∀ (kV doc pm : Value) (an : Option Addr) (cdv ct : Value) (us : List Value), us.length = ps.length → bindArgs (PySem.W.fnOf x x (defArgs st) (defBody st) (defScope st) .none kV doc pm an cdv ct) ⟨us, []⟩ = pure (ps.zip us))
    (body : ∀ (f : Addr) (cdv : Value) (A : Around) (outer : List Env) (s : Shared) (H : Hp) (vs : List V) (Q : VK) (E : XK), A.guards = some [] → Room k (A.deeper (envOfC x (defScope st) s.heap.objs.size f cdv)) → sp vs H Q E →
      ∃ t, PSs (cxOf CX0 P w K mg base N x (defScope st) f cdv A outer s H E).nox (defBody st) t ∧ t { nx := fun _ H' => Q .non H', rt := Q } (start N vs) H) : DfG P w K mg base x (k + 1) ps sp := by
  obtain ⟨f, fd, hm, F⟩ := a
  refine ⟨f, fd, hm, F.kp, F.binds hb, FnG.mk' F S len fun cdv A outer s H vs Q E hg hr hs => ?_⟩
  obtain ⟨t, h1, h2⟩ := body f cdv A outer s H vs Q E hg hr hs
  exact ⟨t, h1.nox, h2⟩
end
section
variable {X : Cx} {k n : Nat} {ps ks : List Str} {sp : Sp} {x : Str} {p pos : Pos} {e : Expr} {es : List Expr} {kws : List Keyword} {t tk : TA} {f : Addr} {fd : FuncData} {ds : List Value} {dvs : List V} {g : List Value → List Value → List Value} {gV : List V → List V → List V}
theorem pe_dfG (D : DfG X.prog X.w X.K X.mg X.base x k ps sp) (hgd : X.A.guards = some []) (hr : Room k X.A) (ha : PA X (e :: es) t) (hg : Gl X x := by rfl) (hdb : (x == ("__debug__" : Str)) = false := by decide)
    (he : starEach (e :: es) X.env = (false, eval e X.env) :: starEach es X.env := by rfl) (hpl : (backTo pos (starEach es X.env)).any (·.1) = false := by rfl) : PE X (.Call (.Name x p) (e :: es) [] pos) (tCall sp [] E0 t) := by
  obtain ⟨f, fd, hm, hk, hb, F⟩ := D.ex
  refine ⟨fun pins s σ H Q I h => wpAny_Call_Name_kw (ld_glob I hg hm ?_ hdb)⟩
  refine PySem.W.callWith_K (h₀ := X.base) I.ok.mod.kin hk (thn (ha.run pos pins s σ H _ I h) fun us s1 z => ?_) he hpl
  obtain ⟨vs, H1, I1, r, q⟩ := z
  refine ⟨I1.kIn, ?_⟩
  have q' : sp vs H1 Q E0 := by
    have z : sp (vs ++ []) H1 Q E0 := q
    rw [List.append_nil] at z
    exact z
  have l1 : (us ++ []).length = ps.length := by rw [List.append_nil, ← r.length]; exact F.len _ _ _ _ q'
  have hb' := hb s1 us I1.kIn l1
  rw [List.append_nil] at hb'
  refine wpAny_call (codeAny_mono (F.run X.A X.stack s1 H1 ⟨us, []⟩ us vs Q E0 hgd hr I1.env0 hb' r q') fun res s' hq => ?_)
  match res, hq with
  | .error _, hq => exact (show False from hq).elim
  | .ok (.ret u), hq => exact I1.after hq
/-- f(k = v, ..): keywords alone -/
theorem pe_callK0 {CX : CXT} {E : XK} (F : FnOk X.prog X.w X.K X.mg X.base CX k f fd ps sp) (hr : Room k X.A) (hg : Gl X x) (hm : X.mg x = some (.ref f)) (hk : PySem.W.keepIn X.K (.ref f) = true) (hb : KBn X.K fd ps 0 ks g gV) (hx : Passes CX X E) (hkw : PK X kws tk)
    (hall : (backToKw pos (keywordEach kws X.env)).all (·.1.isSome) = true := by rfl) (hks : (backToKw pos (keywordEach kws X.env)).filterMap (·.1) = ks := by rfl) (hdb : (x == ("__debug__" : Str)) = false := by decide)
    (hpl : (backToKw pos (keywordEach kws X.env)).any (·.1.isNone) = false := by rfl) : PE X (.Call (.Name x p) [] kws pos) (tCallN 0 ks.length sp gV E tNil tk) := by
  refine ⟨fun pins s σ H Q I h => wpAny_Call_Name_kw (ld_glob I hg hm ?_ hdb)⟩
  refine PySem.W.callWith_KW0 (h₀ := X.base) I.ok.mod.kin hk hall (thn (hkw.run pos pins s σ H _ I h) fun ws s1 z => ?_) hpl
  obtain ⟨zs, H1, I1, rz, l1, l2, q⟩ := z
  rw [hks]
  exact ⟨I1.kIn, run_fnN (us := []) F hr hb hx I1 .nil rz l1 l2 q⟩
/-! ### repr of data -/
def rReprD (K : PySem.W.Frag) : List V → Hp → VK → Prop := fun vs H Q => ∃ (a : Addr) (d : PyData), vs = [.ref a] ∧ Dp K H (.ref a) d ∧ d.showable = true ∧ d.hasDict = false ∧ d.depth ≤ 60 ∧ d.shown.length ≤ sizeLine ∧ Q (.str d.shown) H
theorem cr_reprD (hgd : X.A.guards = some []) (hu : X.A.units + 64 < cLine) : CallR X (.builtin "repr") (rReprD X.K) := by
  intro pins s σ H vs us Q I r h
  obtain ⟨a, d, rfl, hd, hs, hn, h60, hz, q⟩ := h
  rw [Vals.ref1 r]
  obtain ⟨as, rd⟩ := Dp.reads I d (.ref a) (.ref a) hd rfl
  exact repr_of_reads' rd hs (fun z => by rw [hn] at z; cases z) hgd (by omega) (fun _ _ e => e) (fun h' u tk kp => ⟨.str _, H, I.kept kp, ⟨u, rfl⟩, q⟩) hz
end
end HSP
namespace HSP
open PySem PySem.Spec PyProof.Rows L2
/-! ## defs that are also called by name, the names the other way round -/
structure DfB (P : Program) (w : World) (K : PySem.W.Frag) (mg : Str → Option Value) (base : Heap) (x : Str) (n : Nat) (ps ks : List Str) (sp : Sp) : Prop where
  ex : ∃ (f : Addr) (fd : FuncData), mg x = some (.ref f) ∧ PySem.W.keepIn K (.ref f) = true ∧ Binds K fd ps [] ∧ KBn K fd ps 0 ks (fun _ ws => ws.reverse) (fun _ zs => zs.reverse) ∧ FnOk P w K mg base CX0 n f fd ps sp
section
variable {P : Program} {w : World} {K : PySem.W.Frag} {mg : Str → Option Value} {base : Heap}
theorem DfB.df {x : Str} {n : Nat} {ps ks : List Str} {sp : Sp} (D : DfB P w K mg base x n ps ks sp) : Df P w K mg base x n ps sp := by
  obtain ⟨f, fd, h1, h2, h3, _, h5⟩ := D.ex
  exact ⟨f, fd, h1, h2, h3, h5⟩
theorem Vals.rev {vs : List V} {us : List Value} (r : Vals vs us) : Vals vs.reverse us.reverse := by
  induction r with
  | nil => exact .nil
  | cons h t ih =>
    rw [List.reverse_cons, List.reverse_cons]
    exact ih.append (.cons h .nil)
theorem DfB.mk' {x : Str} {st : Stmt} {N ps ks : List Str} {k : Nat} {sp : Sp} (a : At K mg x st) (S : FnScope N ps (defScope st)) (len : ∀ vs H Q E, sp vs H Q E → vs.length = ps.length)
    (hb : ∀ (kV doc pm : Value) (an : Option Addr) (cdv ct : Value) (us : List Value), us.length = ps.length → bindArgs (PySem.W.fnOf x x (defArgs st) (defBody st) (defScope st) .none kV doc pm an cdv ct) ⟨us, []⟩ = pure (ps.zip us))
    (hk : ∀ (kV doc pm : Value) (an : Option Addr) (cdv ct : Value) (ws : List Value), ws.length = ks.length → bindArgs (PySem.W.fnOf x x (defArgs st) (defBody st) (defScope st) .none kV doc pm an cdv ct) ⟨[], ks.zip ws⟩ = pure (ps.zip ws.reverse))
    (body : ∀ (f : Addr) (cdv : Value) (A : Around) (outer : List Env) (s : Shared) (H : Hp) (vs : List V) (Q : VK) (E : XK), Room k (A.deeper (envOfC x (defScope st) s.heap.objs.size f cdv)) → sp vs H Q E →
      ∃ t, PSs (cxOf CX0 P w K mg base N x (defScope st) f cdv A outer s H E).nox (defBody st) t ∧ t { nx := fun _ H' => Q .non H', rt := Q } (start N vs) H) : DfB P w K mg base x (k + 1) ps ks sp := by
  obtain ⟨f, fd, hm, F⟩ := a
  refine ⟨f, fd, hm, F.kp, F.binds hb, ⟨fun s us ws _ h1 h2 => ?_, fun _ r => HSP.Vals.rev r⟩, F.ok S len (body f)⟩
  obtain ⟨oc, od, kV, doc, pm, an, cdv, ct, osl, rfl, _⟩ := F.ex
  rw [List.length_eq_zero_iff.mp h1]
  exact .of_eq (hk kV doc pm an cdv ct ws h2)
end
section
variable {X : Cx} {k : Nat} {ps ks : List Str} {sp : Sp} {x : Str} {p pos : Pos} {kws : List Keyword} {tk : TA}
theorem pe_dfK (D : DfB X.prog X.w X.K X.mg X.base x k ps ks sp) (hr : Room k X.A) (hkw : PK X kws tk) (hg : Gl X x := by rfl) (hall : (backToKw pos (keywordEach kws X.env)).all (·.1.isSome) = true := by rfl) (hks : (backToKw pos (keywordEach kws X.env)).filterMap (·.1) = ks := by rfl)
    (hdb : (x == ("__debug__" : Str)) = false := by decide) (hpl : (backToKw pos (keywordEach kws X.env)).any (·.1.isNone) = false := by rfl) : PE X (.Call (.Name x p) [] kws pos) (tCallN 0 ks.length sp (fun _ zs => zs.reverse) E0 tNil tk) := by
  obtain ⟨f, fd, hm, hk, _, kb, F⟩ := D.ex
  exact pe_callK0 F hr hg hm hk kb pass0 hkw hall hks hdb hpl
end
end HSP
namespace HSP
open PySem PySem.Spec PyProof.Rows L2
/-! ## a def that may raise, called by place or by name -/
structure DfBX (P : Program) (w : World) (K : PySem.W.Frag) (mg : Str → Option Value) (base : Heap) (x : Str) (n : Nat) (ps ks : List Str) (sp : Sp) : Prop where
  ex : ∃ (f : Addr) (fd : FuncData), mg x = some (.ref f) ∧ PySem.W.keepIn K (.ref f) = true ∧ Binds K fd ps [] ∧ KBn K fd ps 0 ks (fun _ ws => ws.reverse) (fun _ zs => zs.reverse) ∧ FnOk P w K mg base (L2.CX P w) n f fd ps sp
section
variable {P : Program} {w : World} {K : PySem.W.Frag} {mg : Str → Option Value} {base : Heap}
theorem DfBX.dfx {x : Str} {n : Nat} {ps ks : List Str} {sp : Sp} (D : DfBX P w K mg base x n ps ks sp) : DfX P w K mg base x n ps sp := by
  obtain ⟨f, fd, h1, h2, h3, _, h5⟩ := D.ex
  exact ⟨f, fd, h1, h2, h3, h5⟩
theorem fn_calm {k : Nat} {f : Addr} {fd : FuncData} {ps : List Str} {sp : Sp} (F : FnOk P w K mg base (L2.CX P w) k f fd ps sp) : FnOk P w K mg base CX0 k f fd ps (fun vs H Q _ => sp vs H Q fun _ _ _ => False) := by
  refine ⟨fun vs H Q E q => F.len vs H Q _ q, fun A outer s H args us vs Q E hr he hb hv hs => ?_⟩
  refine codeAny_mono (F.run A outer s H args us vs Q (fun _ _ _ => False) hr he hb hv hs) fun r s' hq => ?_
  cases r with
  | error e =>
    obtain ⟨_, _, _, _, _, _, _, _, _, _, _, _, h⟩ := hq
    exact h.elim
  | ok fl => cases fl <;> exact hq
theorem DfBX.calm {x : Str} {n : Nat} {ps ks : List Str} {sp : Sp} (D : DfBX P w K mg base x n ps ks sp) : DfB P w K mg base x n ps ks (fun vs H Q _ => sp vs H Q fun _ _ _ => False) := by
  obtain ⟨f, fd, h1, h2, h3, h4, h5⟩ := D.ex
  exact ⟨f, fd, h1, h2, h3, h4, fn_calm h5⟩
theorem DfBX.mk' {x : Str} {st : Stmt} {N ps ks : List Str} {k : Nat} {sp : Sp} (a : At K mg x st) (S : FnScope N ps (defScope st)) (len : ∀ vs H Q E, sp vs H Q E → vs.length = ps.length)
    (hb : ∀ (kV doc pm : Value) (an : Option Addr) (cdv ct : Value) (us : List Value), us.length = ps.length → bindArgs (PySem.W.fnOf x x (defArgs st) (defBody st) (defScope st) .none kV doc pm an cdv ct) ⟨us, []⟩ = pure (ps.zip us))
    (hk : ∀ (kV doc pm : Value) (an : Option Addr) (cdv ct : Value) (ws : List Value), ws.length = ks.length → bindArgs (PySem.W.fnOf x x (defArgs st) (defBody st) (defScope st) .none kV doc pm an cdv ct) ⟨[], ks.zip ws⟩ = pure (ps.zip ws.reverse))
    (body : ∀ (f : Addr) (cdv : Value) (A : Around) (outer : List Env) (s : Shared) (H : Hp) (vs : List V) (Q : VK) (E : XK), Room k (A.deeper (envOfC x (defScope st) s.heap.objs.size f cdv)) → sp vs H Q E →
      ∃ t, PSs (cxOf (L2.CX P w) P w K mg base N x (defScope st) f cdv A outer s H E) (defBody st) t ∧ t { nx := fun _ H' => Q .non H', rt := Q } (start N vs) H) : DfBX P w K mg base x (k + 1) ps ks sp := by
  obtain ⟨f, fd, named, F⟩ := a
  refine ⟨f, fd, named, F.kp, F.binds hb, ⟨fun s us ws _ h1 h2 => ?_, fun _ r => HSP.Vals.rev r⟩, F.okX S len (body f)⟩
  obtain ⟨oc, od, kV, doc, pm, an, cdv, ct, osl, rfl, _⟩ := F.ex
  rw [List.length_eq_zero_iff.mp h1]
  exact .of_eq (hk kV doc pm an cdv ct ws h2)
end
end HSP
namespace HSP
open PySem PySem.Spec PyProof.Rows L2
/-! ## sum(rows, start): lists put behind one another -/
/-- a list object with these items -/
def LO (its : List Value) (n : Nat) : Obj := { cls := .type "list", data := .seq its.toArray n }
section
variable {prog : Program} {w : World} {A : Around}
theorem sumL_loop {I S : Addr} {fp wr : List Addr} {n : Nat} {Pv : Nat → Value → Prop} {St : Nat → Heap → Prop} (W : Walks prog w A.in1 I fp wr n Pv St) (hS : S ∉ fp) (row : Nat → Addr) (part : Nat → List Value) (hv : ∀ i v, Pv i v → v = .ref (row i)) (R : Result → Shared → Prop)
    (most : Nat) (hmost : most ≤ sizeLine) (hfp : ∀ i h, St i h → ∀ b ∈ fp, b < h.objs.size) :
    ∀ (k i : Nat) (s : Shared) (T : Addr) (acc : List Value) (c cT : Nat), n - i = k → i ≤ n → St i s.heap → s.heap.get? S = some (LO [.ref T] c) → s.heap.get? T = some (LO acc cT) → T ≠ S → T ∉ wr →
      (∀ j, j < n → row j ≠ S ∧ row j ∉ wr ∧ ∃ m, s.heap.get? (row j) = some (LO (part j) m)) → acc.length + (((List.range n).drop i).map fun j => (part j).length).sum ≤ most →
      (∀ (s' : Shared) (T' : Addr) (c' : Nat), (∀ b o, b ∉ wr → b ≠ S → s.heap.get? b = some o → s'.heap.get? b = some o) → s'.gens = s.gens → s'.drawn = s.drawn → s'.os = s.os →
        s'.heap.get? T' = some (LO (acc ++ (((List.range n).drop i).map part).flatten) c') → T' ≠ S → T' ∉ wr → (i = n ∧ T' = T ∨ s.heap.get? T' = none) → R (.ok (.ret (.ref T'))) s') →
      codeAny (model prog w) A (.builtin "sum.loop" ⟨[.ref I, .ref S, rawInt 2, rawInt 0], []⟩) R s := by
  have hSw : S ∉ wr := fun h => hS (W.sub _ h)
  intro k
  induction k with
  | zero =>
    intro i s T acc c cT hk hi hst eS eT nTS nTw rows hz hR
    obtain rfl : i = n := by omega
    refine codeAny_builtin F.entry_sum_loop ?_
    rw [Around.under_plainId F.plain_sum_loop _]
    show wpAny _ A.in1 (seqItems? (.ref S) >>= _) _ _ s
    refine wpAny_bind (wpAny_seqItems eS rfl (wpAny_bind (wpAny_tryCatch (W.done s _ _ hst fun h' tk kp => ?_))))
    have e0 : ((List.range i).drop i) = [] := List.drop_eq_nil_of_le (by rw [List.length_range]; exact Nat.le_refl _)
    refine wpAny_pure (hR { s with heap := h', toks := tk } T cT (fun b o n1 _ e => kp b o n1 e) rfl rfl rfl ?_ nTS nTw (.inl ⟨rfl, rfl⟩))
    rw [e0, List.map_nil, List.flatten_nil, List.append_nil]
    exact kp T _ nTw eT
  | succ k ih =>
    intro i s T acc c cT hk hi hst eS eT nTS nTw rows hz hR
    have hlt : i < n := by omega
    have ed : (List.range n).drop i = i :: (List.range n).drop (i + 1) := by
      have q := List.drop_eq_getElem_cons (l := List.range n) (i := i) (by rw [List.length_range]; exact hlt)
      rw [List.getElem_range] at q
      exact q
    rw [ed, List.map_cons, List.sum_cons] at hz
    refine codeAny_builtin F.entry_sum_loop ?_
    rw [Around.under_plainId F.plain_sum_loop _]
    show wpAny _ A.in1 (seqItems? (.ref S) >>= _) _ _ s
    refine wpAny_bind (wpAny_seqItems eS rfl (wpAny_bind (wpAny_tryCatch (W.item i s _ _ hlt hst fun v h1 tk hp hst1 kp => ?_))))
    obtain rfl := hv i v hp
    obtain ⟨nrS, nrw, m, er⟩ := rows i hlt
    have eS1 := kp S _ hSw eS
    have eT1 := kp T _ nTw eT
    have er1 := kp (row i) _ nrw er
    show wpAny _ A.in1 ((holding [Value.ref (row i)] (binaryOp .Add (.ref T) (.ref (row i)))).attempt >>= _) _ _ _
    refine wpAny_bind (wpAny_attempt (wpAny_holding (PySem.P.add_list eT1 er1 ?_ (by rw [List.size_toArray, List.size_toArray]; omega))))
    dsimp only
    have z1 : h1.objs.size ≠ S := fun z => by
      have q : S < h1.objs.size := Heap.lt_size eS1
      rw [z] at q
      exact Nat.lt_irrefl _ q
    have eS2 := Heap.get?_push_of_some ({ cls := .type "list", data := .seq (acc.toArray ++ (part i).toArray) } : Obj) eS1
    refine wpAny_bind (wpAny_updateSeq eS2 rfl ?_)
    have eS3 := Heap.get?_update_self (Obj.mapSeq fun _ => #[Value.ref h1.objs.size]) eS2 rfl
    refine wpAny_bind (wpAny_letGo (wpAny_bind (wpAny_updateSeq eS3 rfl ?_)))
    have eS4 := Heap.get?_update_self (Obj.mapSeq fun _ => #[Value.ref h1.objs.size]) eS3 rfl
    have kk : ∀ b o, b ≠ S → h1.get? b = some o → (((h1.push ({ cls := .type "list", data := .seq (acc.toArray ++ (part i).toArray) } : Obj)).update S (Obj.mapSeq fun _ => #[Value.ref h1.objs.size])).update S (Obj.mapSeq fun _ => #[Value.ref h1.objs.size])).get? b = some o := fun b o nb e =>
      (Heap.get?_update_other _ _ (Ne.symm nb)).trans ((Heap.get?_update_other _ _ (Ne.symm nb)).trans (Heap.get?_push_of_some _ e))
    have eN : (((h1.push ({ cls := .type "list", data := .seq (acc.toArray ++ (part i).toArray) } : Obj)).update S (Obj.mapSeq fun _ => #[Value.ref h1.objs.size])).update S (Obj.mapSeq fun _ => #[Value.ref h1.objs.size])).get? h1.objs.size = some (LO (acc ++ part i) 0) := by
      rw [Heap.get?_update_other _ _ (Ne.symm z1), Heap.get?_update_other _ _ (Ne.symm z1), Heap.get?_push_size _ rfl]
      unfold LO
      rw [List.append_toArray]
    refine wpAny_pure ⟨plainId_quiet F.plain_sum_loop _, ih (i + 1) _ h1.objs.size (acc ++ part i) _ 0 (by omega) hlt (W.frame _ _ _ hst1 fun b hb o e => kk b o (fun z => hS (z ▸ hb)) e) eS4 eN z1 (fun z => Nat.lt_irrefl _ (hfp _ _ hst1 _ (W.sub _ z))) (fun j hj => ?_) ?_ fun s' T' c' kp' g' d' o' e' m1 m2 m3 => ?_⟩
    · obtain ⟨n1, n2, m', e1⟩ := rows j hj
      exact ⟨n1, n2, m', kk _ _ n1 (kp _ _ n2 e1)⟩
    · rw [List.length_append]
      omega
    · refine hR s' T' c' (fun b o n1 n2 e => kp' b o n1 n2 (kk b o n2 (kp b o n1 e))) g' d' o' ?_ m1 m2 (.inr ?_)
      · rw [e', ed, List.map_cons, List.flatten_cons, List.append_assoc]
      · cases eo : s.heap.get? T' with
        | none => rfl
        | some o =>
          have e1 := kp T' o m2 eo
          rcases m3 with ⟨_, z⟩ | z
          · rw [z] at e1
            exact absurd (Heap.lt_size e1) (Nat.lt_irrefl _)
          · rw [kk T' o m1 e1] at z
            cases z
end
section
variable {prog : Program} {w : World} {A : Around} {E : Value → Shared → Prop} {s : Shared}
theorem args_sum2 (a b : Value) : argsOk "sum" ⟨[a, b], []⟩ := by
  unfold argsOk
  kernel_rfl
theorem sumL_call {l s0 : Addr} {rows : List Addr} {lits : List Value} {nl n0 : Nat} {parts : Nat → List Value} {acc : List Value} {Q : Value → Shared → Prop} (hh : A.handled = none)
    (el : s.heap.get? l = some (LO lits nl)) (hl : lits = rows.map Value.ref) (e0 : s.heap.get? s0 = some (LO acc n0)) (hr : ∀ j (h : j < rows.length), ∃ m, s.heap.get? rows[j] = some (LO (parts j) m))
    (hz : acc.length + ((List.range rows.length).map fun j => (parts j).length).sum ≤ sizeLine)
    (h : ∀ (s' : Shared) (T : Addr) (c : Nat), (∀ b o, s.heap.get? b = some o → s'.heap.get? b = some o) → s'.gens = s.gens → s'.os = s.os → s'.heap.get? T = some (LO (acc ++ ((List.range rows.length).map parts).flatten) c) → (rows = [] ∧ T = s0 ∨ s.heap.get? T = none) → Q (.ref T) s') :
    wpAny (model prog w) A (call (.builtin "sum") [.ref l, .ref s0]) Q E s := by
  have hlen : lits.toArray.size = rows.length := by rw [hl, List.size_toArray, List.length_map]
  refine call_function_tree F.kind_sum F.plain_sum F.entry_sum (args_sum2 _ _) ?_
  unfold Builtin.«sum»
  simp only [List.length_cons, List.length_nil]
  rw [if_neg (by decide)]
  refine wpAny_bind (wpAny_of_eq (show Builtin.Builtins.bindParams "sum" ["start"] 0 ⟨[.ref s0], []⟩ = pure [some (.ref s0)] from rfl) ?_)
  have hL : s.heap.IsList l lits.toArray := ⟨_, el, rfl, nl, rfl⟩
  refine wpAny_bind (wpAny_pyIter_list hL ?_)
  have lt1 : l < s.heap.objs.size := Heap.lt_size el
  have lt0 : s0 < s.heap.objs.size := Heap.lt_size e0
  have e1 := Heap.get?_push_of_some ({ cls := .type "list_iterator", data := .fields #[.ref l, .int 0 0] } : Obj) e0
  have tL : Shared.TypeIs { s with heap := s.heap.push { cls := .type "list_iterator", data := .fields #[.ref l, .int 0 0] } } (.ref s0) "list" := ⟨_, e1, rfl⟩
  refine wpAny_bind (wpAny_pure ?_)
  simp only [List.forIn_cons, List.forIn_nil]
  refine wpAny_bind (wpAny_bind (wpAny_bind (wpAny_isInstance (T := "list") (b := false) tL PySem.F.sub_list_str ?_)))
  simp only [Bool.false_eq_true, if_false]
  refine wpAny_pure (wpAny_bind (wpAny_bind (wpAny_isInstance (T := "list") (b := false) tL PySem.F.sub_list_bytes ?_)))
  simp only [Bool.false_eq_true, if_false]
  refine wpAny_pure (wpAny_bind (wpAny_bind (wpAny_isInstance (T := "list") (b := false) tL PySem.F.sub_list_bytearray ?_)))
  simp only [Bool.false_eq_true, if_false]
  refine wpAny_pure (wpAny_pure (wpAny_bind (wpAny_newObj_type ?_)))
  have sz1 : (s.heap.push ({ cls := .type "list_iterator", data := .fields #[.ref l, .int 0 0] } : Obj)).objs.size = s.heap.objs.size + 1 := Heap.size_push ..
  have nlI : l ≠ s.heap.objs.size := Nat.ne_of_lt lt1
  have kp : ∀ b o, s.heap.get? b = some o → ((s.heap.push ({ cls := .type "list_iterator", data := .fields #[.ref l, .int 0 0] } : Obj)).push (LO [.ref s0] 0)).get? b = some o := fun b o e => Heap.get?_push_of_some _ (Heap.get?_push_of_some _ e)
  refine wpAny_pure ⟨plainId_quiet F.plain_sum_loop _, sumL_loop (Walks.list (A := A.in1) (by simp [hh]) s.heap.objs.size l nlI lits.toArray) (S := (s.heap.push ({ cls := .type "list_iterator", data := .fields #[.ref l, .int 0 0] } : Obj)).objs.size) ?_ (fun j => rows.getD j 0) parts ?_ _ sizeLine (Nat.le_refl _) ?_
    (rows.length - 0) 0 _ s0 acc 0 n0 (by rw [hlen]) (Nat.zero_le _) ⟨⟨_, Heap.get?_push_of_some _ (Heap.get?_push_size _ rfl), rfl, rfl⟩, (hL.push _).push _⟩ ?_ (kp _ _ e0) (by rw [sz1]; exact Nat.ne_of_lt (Nat.lt_succ_of_lt lt0)) ?_ ?_ ?_ ?_⟩
  · rw [sz1]
    intro z
    rcases List.mem_cons.mp z with z | z
    · exact absurd z (Nat.ne_of_gt (Nat.lt_succ_self _))
    · exact absurd (List.mem_singleton.mp z) (Nat.ne_of_gt (Nat.lt_succ_of_lt lt1))
  · intro i v hv
    rw [List.getElem?_toArray, hl, List.getElem?_map] at hv
    cases hr2 : rows[i]? with
    | none => rw [hr2] at hv; cases hv
    | some b =>
      rw [hr2] at hv
      cases hv
      rw [List.getD_eq_getElem?_getD, hr2]
      rfl
  · intro i h st b hb
    rcases List.mem_cons.mp hb with z | z
    · obtain ⟨⟨o, ho, _⟩, _⟩ := st
      rw [z]
      exact Heap.lt_size ho
    · obtain ⟨_, ⟨o, ho, _⟩⟩ := st
      rw [List.mem_singleton.mp z]
      exact Heap.lt_size ho
  · exact Heap.get?_push_size _ rfl
  · intro z
    exact absurd (List.mem_singleton.mp z) (Nat.ne_of_lt lt0)
  · intro j hj
    rw [hlen] at hj
    obtain ⟨m, e⟩ := hr j hj
    have eg : rows.getD j 0 = rows[j] := by
      rw [List.getD_eq_getElem?_getD, List.getElem?_eq_getElem hj]
      rfl
    have lt2 : rows[j] < s.heap.objs.size := Heap.lt_size e
    refine ⟨?_, ?_, m, ?_⟩
    · rw [eg, sz1]; exact Nat.ne_of_lt (Nat.lt_succ_of_lt lt2)
    · rw [eg]; exact fun z => absurd (List.mem_singleton.mp z) (Nat.ne_of_lt lt2)
    · rw [eg]; exact kp _ _ e
  · rw [hlen, List.drop_zero]
    exact hz
  · intro s' T' c' k1 g1 d1 o1 e' m1 m2 m3
    rw [hlen, List.drop_zero] at e'
    refine h s' T' c' (fun b o e => ?_) g1 o1 e' (m3.imp (fun z => ⟨List.eq_nil_of_length_eq_zero (by rw [← hlen]; exact z.1.symm), z.2⟩) fun z => ?_)
    rotate_left
    · cases eo : s.heap.get? T' with
      | none => rfl
      | some o =>
        cases (kp _ _ eo).symm.trans z
    have lt3 : b < s.heap.objs.size := Heap.lt_size e
    exact k1 b o (fun z => absurd (List.mem_singleton.mp z) (Nat.ne_of_lt lt3)) (by rw [sz1]; exact Nat.ne_of_lt (Nat.lt_succ_of_lt lt3)) (kp _ _ e)
end
section
variable {X : Cx}
/-- sum(a list of lists of ints, a list of ints) -/
def rSumL (K : PySem.W.Frag) : List V → Hp → VK → Prop := fun vs H Q => ∃ (a b : Addr) (rows : List Addr) (parts : List (List Int)) (ms : List Int), vs = [V.ref a, V.ref b] ∧ H a = some (.lst (rows.map V.ref)) ∧ H b = some (.lst (ms.map V.int)) ∧
  Paired (fun r ns => H r = some (.lst (ns.map V.int))) rows parts ∧ ms.length + parts.flatten.length ≤ sizeLine ∧ ∀ (H' : Hp) (p : Addr), Same H H' → H' p = some (.lst ((ms ++ parts.flatten).map V.int)) → Q (.ref p) H'
theorem refs_of : ∀ {rows : List Addr} {its : List Value}, Vals (rows.map V.ref) its → its = rows.map Value.ref
  | [], _, .nil => rfl
  | a :: r, _, .cons q t => by rw [List.map_cons, ← refs_of t, (show _ = Value.ref a from q)]
theorem Paired.at' {α β : Type} {R : α → β → Prop} : ∀ {l : List α} {m : List β}, Paired R l m → ∀ j (h : j < l.length) (h' : j < m.length), R l[j] m[j]
  | _, _, .cons q _, 0, _, _ => q
  | _, _, .cons _ t, j + 1, h, h' => Paired.at' t j (Nat.lt_of_succ_lt_succ h) (Nat.lt_of_succ_lt_succ h')
theorem range_map {α β : Type} (f : α → β) (d : α) : ∀ l : List α, (List.range l.length).map (fun j => f (l.getD j d)) = l.map f := by
  intro l
  apply List.ext_getElem
  · rw [List.length_map, List.length_map, List.length_range]
  · intro i h1 h2
    rw [List.length_map] at h2
    rw [List.getElem_map, List.getElem_map, List.getElem_range, List.getD_eq_getElem?_getD, List.getElem?_eq_getElem h2]
    rfl
theorem rows_of {P : Program} {w : World} {H : Hp} {h : Heap} (ok : HOk P w H h) : ∀ {rows : List Addr} {parts : List (List Int)}, Paired (fun r ns => H r = some (.lst (ns.map V.int))) rows parts →
    ∃ pits : List (List Value), pits.length = rows.length ∧ (∀ j (hj : j < rows.length), ∃ m, h.get? rows[j] = some (LO (pits.getD j []) m)) ∧ Vals (parts.flatten.map V.int) pits.flatten ∧ (pits.map List.length).sum = parts.flatten.length
  | [], [], .nil => ⟨[], rfl, fun j hj => absurd hj (Nat.not_lt_zero j), .nil, rfl⟩
  | r :: rows, ns :: parts, .cons e t => by
    obtain ⟨pits, h1, h2, h3, h4⟩ := rows_of ok t
    obtain ⟨z, its, n, v, g⟩ : ObjOk P w H h r (.lst (ns.map V.int)) := ok r _ e
    refine ⟨its :: pits, by rw [List.length_cons, h1, List.length_cons], fun j hj => ?_, ?_, ?_⟩
    · cases j with
      | zero => exact ⟨n, g⟩
      | succ j => exact h2 j (Nat.lt_of_succ_lt_succ hj)
    · rw [List.flatten_cons, List.map_append, List.flatten_cons]
      exact v.append h3
    · rw [List.map_cons, List.sum_cons, h4, List.flatten_cons, List.length_append, ← v.length, List.length_map]
theorem cr_sumL (hc : X.calm = true) : CallR X (.builtin "sum") (rSumL X.K) := by
  intro pins s σ H vs us Q I r h
  obtain ⟨a, b, rows, parts, ms, rfl, ha, hb, hp, hz, q⟩ := h
  cases r with
  | cons r1 t1 =>
    cases t1 with
    | cons r2 t2 =>
      cases t2
      cases r1
      cases r2
      obtain ⟨za, its, n, va, ea⟩ : ObjOk X.prog X.w H s.heap a (.lst (rows.map V.ref)) := I.hok a _ ha
      obtain ⟨zb, it0, n0, vb, eb⟩ : ObjOk X.prog X.w H s.heap b (.lst (ms.map V.int)) := I.hok b _ hb
      obtain ⟨pits, hl2, hg2, hv2, hn2⟩ := rows_of I.hok hp
      have e1 : (List.range rows.length).map (fun j => pits.getD j []) = pits := by
        have q := range_map (fun x : List Value => x) [] pits
        rw [List.map_id', hl2] at q
        exact q
      have e2 : ((List.range rows.length).map fun j => (pits.getD j []).length).sum = parts.flatten.length := by
        have q := range_map (fun x : List Value => x.length) [] pits
        rw [hl2] at q
        rw [q, hn2]
      refine sumL_call (I.ok.hd hc) (lits := its) (acc := it0) (parts := fun j => pits.getD j []) ea (refs_of va) eb hg2 (by rw [e2, ← vb.length, List.length_map]; exact hz) fun s' T c kp hg ho hT hw => ?_
      rw [e1] at hT
      have hvals : Vals ((ms ++ parts.flatten).map V.int) (it0 ++ pits.flatten) := by
        rw [List.map_append]
        exact vb.append hv2
      rcases hw with ⟨z1, z2⟩ | hnew
      · subst z1
        cases hp
        refine ⟨.ref T, H, I.call' (ch := []) ho (Un.kept kp) (I.hok.kept kp) (by rw [hg]; exact I.bare) (fun _ z => nomatch z), rfl, q H T (Same.refl H) ?_⟩
        rw [z2, hb, List.flatten_nil, List.append_nil]
      · have hn : H T = none := by
          cases eo : H T with
          | none => rfl
          | some o =>
            obtain ⟨u, hu⟩ := objOk_get (I.hok T o eo)
            rw [hnew] at hu
            cases hu
        refine ⟨.ref T, upd H T (.lst ((ms ++ parts.flatten).map V.int)), I.call' (ch := []) ho (Un.laidN kp hnew hn) (I.hok.laidN kp hn ⟨?_, _, c, hvals, hT⟩) (by rw [hg]; exact I.bare) (fun _ z => nomatch z), rfl, q _ T (Same.new hn) upd_same⟩
        rw [List.length_map, List.length_append]
        exact hz
end
end HSP
namespace HSP
open PySem PySem.Spec PyProof.Rows L2
theorem cut_last (xs : List V) (y : V) : cutV (xs ++ [y]) none (some (-1)) = xs := by
  unfold cutV
  have e : HT.sIx (xs ++ [y]).length (xs ++ [y]).length (some (-1)) = xs.length := by
    show (if (-1 : Int) < 0 then ((-1 : Int) + ((xs ++ [y]).length : Int)).toNat else min (-1 : Int).toNat (xs ++ [y]).length) = xs.length
    rw [if_pos (by decide), List.length_append, List.length_singleton]
    omega
  rw [e, HT.sIx_none, List.drop_zero, Nat.sub_zero, List.take_left]
theorem inV_nat (i : Nat) : ∀ xs : List Nat, inV (natV i) (xs.map natV) = decide (i ∈ xs)
  | [] => rfl
  | x :: r => by
    have ih := inV_nat i r
    have e : inV (natV i) ((x :: r).map natV) = (eqV (natV x) (natV i) || inV (natV i) (r.map natV)) := rfl
    rw [e, ih]
    have e2 : eqV (natV x) (natV i) = decide ((x : Int) = (i : Int)) := rfl
    rw [e2]
    by_cases c : i = x
    · rw [decide_eq_true (show (x : Int) = (i : Int) by omega), Bool.true_or, decide_eq_true (List.mem_cons.mpr (.inl c))]
    · rw [decide_eq_false (show ¬ (x : Int) = (i : Int) by omega), Bool.false_or]
      by_cases d : i ∈ r
      · rw [decide_eq_true d, decide_eq_true (List.mem_cons_of_mem _ d)]
      · rw [decide_eq_false d, decide_eq_false (fun z => (List.mem_cons.mp z).elim c d)]
theorem inV_int (i : Int) : ∀ xs : List Int, inV (.int i) (xs.map V.int) = decide (i ∈ xs)
  | [] => rfl
  | x :: r => by
    have ih := inV_int i r
    have e : inV (.int i) ((x :: r).map V.int) = (eqV (.int x) (.int i) || inV (.int i) (r.map V.int)) := rfl
    rw [e, ih]
    have e2 : eqV (.int x) (.int i) = decide (x = i) := rfl
    rw [e2]
    by_cases c : i = x
    · rw [decide_eq_true c.symm, Bool.true_or, decide_eq_true (List.mem_cons.mpr (.inl c))]
    · rw [decide_eq_false (show ¬ x = i by omega), Bool.false_or]
      by_cases d : i ∈ r
      · rw [decide_eq_true d, decide_eq_true (List.mem_cons_of_mem _ d)]
      · rw [decide_eq_false d, decide_eq_false (fun z => (List.mem_cons.mp z).elim c d)]
theorem flat_nats : ∀ xs : List Nat, (xs.map natV).all flatV = true
  | [] => rfl
  | x :: r => by
    rw [List.map_cons, List.all_cons, flat_nats r]
    rfl
theorem flat_ints : ∀ xs : List Int, (xs.map V.int).all flatV = true
  | [] => rfl
  | x :: r => by
    rw [List.map_cons, List.all_cons, flat_ints r]
    rfl
/-! ### lists of ints as data -/
def intsD (l : List Int) : PyData := .list (l.map PyData.int)
theorem ints_can : ∀ l : List Int, PyData.canLayAll0 (l.map PyData.int) = true
  | [] => by simp [PyData.canLayAll0]
  | z :: r => by
    have ih := ints_can r
    simp only [List.map_cons, PyData.canLayAll0, PyData.canLay0, ih, Bool.and_self]
theorem ints_deep : ∀ l : List Int, PyData.depthAll (l.map PyData.int) ≤ 1
  | [] => by simp [PyData.depthAll]
  | z :: r => by
    have ih := ints_deep r
    simp only [List.map_cons, PyData.depthAll, PyData.depth]
    omega
theorem ints_shaped (l : List Int) : SeqAt.shaped (intsD l) = true := by
  unfold SeqAt.shaped intsD
  have h1 := ints_can l
  have h2 := ints_deep l
  rw [Bool.and_eq_true]
  refine ⟨by simp only [PyData.canLay0]; exact h1, decide_eq_true ?_⟩
  simp only [PyData.depth]
  omega
theorem ints_dpAll {K : PySem.W.Frag} {H : Hp} : ∀ l : List Int, DpAll K H (l.map V.int) (l.map PyData.int)
  | [] => .nil
  | z :: r => .cons (.int z) (ints_dpAll r)
theorem ints_none (l : List Int) : PyData.eqv (intsD l) (intsD []) = decide (l = []) := by
  cases l with
  | nil => rw [decide_eq_true rfl]; exact SeqAt.eqv_refl _ (by unfold intsD; simp only [PyData.canLay0]; exact ints_can [])
  | cons x r =>
    rw [decide_eq_false (List.cons_ne_nil _ _)]
    unfold intsD
    simp [PyData.eqv, PyData.eqvAll]
end HSP
namespace HSP
open PySem PySem.Spec PyProof.Rows L2
/-! ## heaps: all but some places stay -/
def Stay (X : List Addr) (H H' : Hp) : Prop := ∀ b o, b ∉ X → H b = some o → H' b = some o
theorem Stay.refl (X : List Addr) (H : Hp) : Stay X H H := fun _ _ _ e => e
theorem Stay.trans {X : List Addr} {H H1 H2 : Hp} (a : Stay X H H1) (b : Stay X H1 H2) : Stay X H H2 := fun c o n e => b c o n (a c o n e)
theorem Stay.of {X : List Addr} {H H' : Hp} (s : Same H H') : Stay X H H' := fun b o _ e => s b o e
theorem Stay.new {X : List Addr} {H : Hp} {p : Addr} {o : HO} (h : H p = none) : Stay X H (upd H p o) := fun b u _ e => by
  rw [upd_ne (ne_of_none e h)]; exact e
theorem Stay.at {X : List Addr} {H : Hp} {p : Addr} {o : HO} (h : p ∈ X) : Stay X H (upd H p o) := fun b u n e => by
  rw [upd_ne (fun z : b = p => n (by rw [z]; exact h))]; exact e
theorem Stay.mono {X Y : List Addr} {H H' : Hp} (a : Stay X H H') (h : ∀ x, x ∈ X → x ∈ Y) : Stay Y H H' := fun b o n e => a b o (fun z => n (h b z)) e
theorem Stay.then {X : List Addr} {H H1 H2 : Hp} (a : Stay X H H1) (b : Same H1 H2) : Stay X H H2 := a.trans (.of b)
theorem Stay.anew {X : List Addr} {H H1 : Hp} {p : Addr} {o : HO} (a : Stay X H H1) (h : H1 p = none) : Stay X H (upd H1 p o) := a.trans (.new h)
theorem Stay.put {X : List Addr} {H H1 : Hp} {p : Addr} {o : HO} (a : Stay X H H1) (h : p ∈ X) : Stay X H (upd H1 p o) := a.trans (.at h)
theorem Stay.free {X : List Addr} {H H' : Hp} {b : Addr} (a : Stay X H H') (n : b ∉ X) (h : H' b = none) : H b = none := by
  cases e : H b with
  | none => rfl
  | some o => cases h.symm.trans (a b o n e)
/-- what was not tracked at first may be written -/
theorem Stay.same {X : List Addr} {H H1 H' : Hp} (s : Same H H1) (n : ∀ x, x ∈ X → H x = none) (k : Stay X H1 H') : Same H H' := fun b o e => k b o (fun z => by rw [n b z] at e; cases e) (s b o e)
theorem no2 {a b c : Addr} (h1 : a ≠ b) (h2 : a ≠ c) : a ∉ [b, c] := fun z => by
  rcases List.mem_cons.mp z with q | q
  · exact h1 q
  · exact h2 (List.mem_singleton.mp q)
theorem no1 {a b : Addr} (h1 : a ≠ b) : a ∉ [b] := fun z => h1 (List.mem_singleton.mp z)
theorem in2l {a b : Addr} : a ∈ [a, b] := List.mem_cons_self
theorem in2r {a b : Addr} : b ∈ [a, b] := List.mem_cons_of_mem _ List.mem_cons_self
theorem in1 {a : Addr} : a ∈ [a] := List.mem_cons_self
theorem tup_ne {H : Hp} {a b : Addr} {xs ys : List V} (h : H a = some (.tup xs)) (h2 : H b = some (.lst ys)) : a ≠ b := fun z => by
  rw [z, h2] at h; cases h
theorem TrAt.stay {X : List Addr} {H H' : Hp} {v : V} {t : Tr} (h : TrAt H v t) (k : Stay X H H') (n : ∀ x, x ∈ X → ∃ ys, H x = some (.lst ys)) : TrAt H' v t :=
  h.keep fun a x y e => k a _ (fun z => by
    obtain ⟨ys, q⟩ := n a z
    rw [q] at e
    cases e) e
theorem valAt_mem {ns : List Int} {i : Nat} (h : i < ns.length) : valAt ns i ∈ ns := by
  have e : valAt ns i = ns[i] := by
    unfold valAt
    rw [List.getD_eq_getElem?_getD, List.getElem?_eq_getElem h]
    rfl
  rw [e]
  exact List.getElem_mem h
theorem TrAt.put {H : Hp} {v : V} {t : Tr} {a : Addr} {xs : List V} {o : HO} (h : TrAt H v t) (e : H a = some (.lst xs)) : TrAt (upd H a o) v t := by
  refine h.keep fun b x y eb => ?_
  rw [upd_ne]
  · exact eb
  · intro z
    rw [z, e] at eb
    cases eb
theorem Keep.free {p q : Addr} {H H' : Hp} (k : Keep p H H') (n : q ≠ p) (h : H' q = none) : H q = none := by
  cases e : H q with
  | none => rfl
  | some o => cases h.symm.trans (k q o n e)
theorem Paired.getL {α β : Type} {R : α → β → Prop} : ∀ {l : List α} {m : List β} {i : Nat} {x : α}, Paired R l m → l[i]? = some x → ∃ y, m[i]? = some y ∧ R x y
  | _, _, i, _, .nil, e => by simp at e
  | _, _, 0, _, .cons h _, e => by
    cases Option.some.inj (show some _ = some _ from e)
    exact ⟨_, rfl, h⟩
  | _, _, i + 1, _, .cons _ t, e => Paired.getL (i := i) t e
end HSP
namespace HSP
open PySem PySem.Spec PyProof.Rows L2
theorem dig_mem (c : Nat) : decide (c ∈ TL.tl ("0123456789" : Str)) = digB c := by
  have e : TL.tl ("0123456789" : Str) = [48, 49, 50, 51, 52, 53, 54, 55, 56, 57] := by decide +kernel
  rw [e]
  unfold digB
  rw [Bool.eq_iff_iff, decide_eq_true_iff, Bool.and_eq_true, decide_eq_true_iff, decide_eq_true_iff]
  simp only [List.mem_cons, List.not_mem_nil, or_false]
  omega
theorem str_nil (d : Str) : decide (V.str d = V.str "") = (TL.tl d).isEmpty := by
  have e : TL.tl ("" : Str) = [] := by decide +kernel
  rw [Bool.eq_iff_iff, decide_eq_true_iff, List.isEmpty_iff]
  constructor
  · intro h
    rw [V.str.inj h, e]
  · intro h
    exact congrArg V.str (TL.ext_tl (h.trans e.symm))
theorem in_strs (s : Str) : ∀ l : List Str, inV (V.str s) (l.map V.str) = decide (s ∈ l)
  | [] => by simp [inV]
  | x :: r => by
    have ih := in_strs s r
    have e : inV (V.str s) ((x :: r).map V.str) = ((x == s) || inV (V.str s) (r.map V.str)) := rfl
    rw [e, ih, Bool.eq_iff_iff, Bool.or_eq_true, beq_iff_eq, decide_eq_true_iff, decide_eq_true_iff, List.mem_cons]
    exact ⟨fun h => h.elim (fun z => .inl z.symm) .inr, fun h => h.elim (fun z => .inl z.symm) .inr⟩
def strG (ws : List Str) (i : Nat) : Str := ws.getD i ""
section
variable {P : Program} {w : World} {K : PySem.W.Frag} {mg : Str → Option Value} {base : Heap}
theorem yes_lcT {σ : L2.St} {H : Hp} {A C : Hp → Prop} (h : A H) : tYes σ H fun b H3 => if b = true then A H3 else C H3 := by
  show if true = true then A H else C H
  exact iteT h
theorem sc_is_number : FnScope n_is_number ["word"] (defScope s_is_number) := ⟨rfl, rfl, rfl, by decide +kernel, rfl, by decide +kernel, by decide +kernel⟩
def spNum : Sp := fun vs H Q _ => ∃ x : Str, vs = [.str x] ∧ x.length ≤ 1000 ∧ ∀ H', Same H H' → Q (.bl (numT (TL.tl x))) H'
theorem ok_num {tk : Tok} (B : Bl mg) (Al : mg "all" = none) (Dg : mg "DIGITS" = some (.str "0123456789" tk)) (a : At K mg "is_number" s_is_number) : Df P w K mg base "is_number" 1 ["word"] spNum := by
  refine Df.mk' a sc_is_number (fun vs H Q E h => ?_) (fun _ _ _ _ _ _ us hl => match us, hl with | [_], _ => rfl) (fun f cdv A outer s H vs Q E hr h => ?_)
  · obtain ⟨_, rfl, _⟩ := h
    rfl
  obtain ⟨x, rfl, hx, q⟩ := h
  refine ⟨_, (pss_cons (ps_set (i := 1) sc_is_number.nd rfl (.inl rfl) (pe_m1 PySem.F.slot_str_removeprefix PySem.F.type_str_removeprefix mt_removeprefix (pv 0) pe_str))
 (pss_cons (ps_if (PW.pt (pw_or (pt_cmpR op_eq (pv 1) pe_str (nomark _)) (pw_or1 (pt_not (pt_val (pe_callB (cr_all rfl) (by rfl) Al (by decide +kernel) (pa_cons (pe_lc (own := [("sign", 2)]) (g := (gName 2)) (tt := tYes) (by rfl) sc_is_number.nd (pi_str (pv 1)) (blkOk_by (N := n_is_number) (sc := defScope s_is_number) (by decide +kernel)) (fun _ _ _ _ _ => (pg_name (i := 2) sc_is_number.nd rfl (.inl rfl))) (fun _ _ _ _ _ => pts_nil) (fun _ _ _ _ _ => (pe_cmpR op_in_sign (pv 2) (pe_glob (v := .str "0123456789") (by rfl) Dg ⟨_, rfl⟩) (by rfl)))) pa_nil))))))) (pss_one (ps_ret pe_bl)) pss_nil)
 (pss_one (ps_ret (pe_or (pe_cmpR op_eq (pv 0) pe_str (nomark _)) (pe_one (pe_not (pe_m1 PySem.F.slot_str_startswith PySem.F.type_str_startswith mt_startswith (pv 1) pe_str)))))))), ?_⟩
  have line : sizeLine = 16777216 := rfl
  refine ⟨_, rfl, ⟨_, rfl⟩, _, _, rfl, rfl, by omega, ?_⟩
  have ed := pre_signs x
  generalize Txt.removeprefix x ("-" : Str) = d at ed
  have ld : (TL.tl d).length ≤ 1000 := by
    rw [ed]
    have h1 := restL_len (TL.tl x)
    have h2 := TL.len_tl x
    omega
  refine ⟨_, rfl, rfl, _, rfl, ?_⟩
  rw [str_nil d]
  have nt : numT (TL.tl x) = (!(TL.tl d).isEmpty && (TL.tl d).all digB && (decide (TL.tl x = [48]) || !decide ((TL.tl d).head? = some 48))) := by
    rw [ed]
    rfl
  cases c1 : (TL.tl d).isEmpty with
  | true =>
    refine iteT ?_
    have := q H (Same.refl _)
    rw [nt, c1] at this
    exact this
  | false =>
    refine iteF ⟨_, rfl, _, rfl, fun L hL => ?_⟩
    refine lc_it walk_str (fun i H' => Same H H' ∧ H' L = some (.lst ((((TL.tl d).take i).map digB).map V.bl))) ⟨Same.new hL, upd_same⟩ (fun _ _ _ _ => trivial) (fun i y H1 H2 hi h1 hy => ?_) (fun H1 h1 => ?_)
    · obtain ⟨s1, e1⟩ := h1
      obtain ⟨rfl, c, hc, rfl⟩ := hy
      refine ⟨rfl, yes_lcT ?_⟩
      refine ⟨_, rfl, c, _, rfl, rfl, _, e1, ?_, fun b o eb => ?_, ?_⟩
      · rw [List.length_map, List.length_map, List.length_take]
        have := TL.len_tl d
        omega
      · rw [upd_ne (ne_of_none eb hL)]
        exact s1 _ _ eb
      · have hc : (TL.tl d)[i]? = some c := by
          rw [← hc]
          exact Array.getElem?_toList
        rw [upd_same, List.take_add_one, hc, List.map_append, List.map_append, show decide (c ∈ ("0123456789" : Str).cps.toList) = digB c from dig_mem c]
        rfl
    · obtain ⟨s1, e1⟩ := h1
      rw [List.take_of_length_le (show (TL.tl d).length ≤ d.cps.size by rw [← TL.len_tl]; exact Nat.le_refl _)] at e1
      refine ⟨L, _, rfl, .of e1, _, rfl, ?_⟩
      have ea : (((TL.tl d).map digB).all id) = (TL.tl d).all digB := by rw [List.all_map]; rfl
      rw [ea]
      cases c2 : (TL.tl d).all digB with
      | false =>
        refine iteT ?_
        have := q H1 s1
        rw [nt, c1, c2] at this
        exact this
      | true =>
        refine iteF ⟨_, rfl, rfl, _, rfl, ?_⟩
        have := q H1 s1
        rw [nt, c1, c2] at this
        have e48 : TL.tl ("0" : Str) = [48] := by decide +kernel
        have ex : decide (V.str x = V.str ("0" : Str)) = decide (TL.tl x = [48]) := by
          rw [Bool.eq_iff_iff, decide_eq_true_iff, decide_eq_true_iff]
          exact ⟨fun h => by rw [V.str.inj h, e48], fun h => congrArg V.str (TL.ext_tl (h.trans e48.symm))⟩
        rw [ex]
        cases c3 : decide (TL.tl x = [48]) with
        | true =>
          refine iteT ?_
          rw [c3] at this
          exact this
        | false =>
          refine iteF ⟨_, rfl, ⟨_, rfl⟩, _, _, rfl, rfl, _, rfl, ?_⟩
          rw [starts_zero]
          rw [c3] at this
          exact this
/-! ### is_line -/
def labelL : List Str := ["dead", "found", "high", "low"]
/-- LABELS -/
def LabsAt (K : PySem.W.Frag) (mg : Str → Option Value) : Prop := ∃ a, mg "LABELS" = some (.ref a) ∧ ∀ H : Hp, SqT K H a (labelL.map V.str)
def numS (i : Nat) : Str := Str.ofString (toString ((i : Nat) : Int))
def lineOk (ws : List Str) (i : Nat) : Bool := decide (ws.length = 3) && (decide (strG ws 0 = numS i) && (numT (TL.tl (strG ws 1)) && decide (strG ws 2 ∈ labelL)))
theorem sc_is_line : FnScope n_is_line ["words", "node"] (defScope s_is_line) := ⟨rfl, rfl, rfl, by decide +kernel, rfl, by decide +kernel, by decide +kernel⟩
def spLine : Sp := fun vs H Q _ => ∃ (p : Addr) (ws : List Str) (i : Nat), vs = [.ref p, natV i] ∧ H p = some (.lst (ws.map V.str)) ∧ (∀ s, s ∈ ws → s.length ≤ 1000) ∧ i ≤ 1000 ∧ ∀ H', Same H H' → Q (.bl (lineOk ws i)) H'
theorem ok_line (B : Bl mg) (Ls : LabsAt K mg) (Nm : Df P w K mg base "is_number" 1 ["word"] spNum) (a : At K mg "is_line" s_is_line) : Df P w K mg base "is_line" 2 ["words", "node"] spLine := by
  obtain ⟨la, Gla, sla⟩ := Ls
  refine Df.mk' a sc_is_line (fun vs H Q E h => ?_) (fun _ _ _ _ _ _ us hl => match us, hl with | [_, _], _ => rfl) (fun f cdv A outer s H vs Q E hr h => ?_)
  · obtain ⟨_, _, _, rfl, _⟩ := h
    rfl
  obtain ⟨p, ws, i, rfl, ep, hw, hi, q⟩ := h
  refine ⟨_, (pss_one (ps_ret (pe_and (pe_cmpR op_eq (pe_callB call_len_seq (by rfl) B.len PySem.boot_len (pa_cons (pv 0) pa_nil)) pe_int (nomark _)) (pe_and (pe_cmpR op_eq (pe_ix ix_list (pv 0) pe_int (fun _ _ => rfl)) (pe_callTy call_str_int (by rfl) B.str (by decide +kernel) (pa_cons (pv 1) pa_nil)) (nomark _)) (pe_and (pe_df Nm hr (pa_cons (pe_ix ix_list (pv 0) pe_int (fun _ _ => rfl)) pa_nil)) (pe_one (pe_cmpR op_in_seq (pe_ix ix_list (pv 0) pe_int (fun _ _ => rfl)) (pe_glob (v := .ref la) (by rfl) Gla rfl) (by rfl)))))))), ?_⟩
  have nm : ws.length = (ws.map V.str).length := (List.length_map _).symm
  have big : ((i : Nat) : Int).natAbs.log2 < 1920 := by
    show i.log2 < 1920
    by_cases c : i = 0
    · rw [c]; decide
    · exact (Nat.log2_lt c).mpr (Nat.lt_of_le_of_lt hi (by decide +kernel))
  refine ⟨_, rfl, p, _, rfl, .inl (.of ep), rfl, _, rfl, ?_⟩
  have e3 : decide (V.int (((ws.map V.str).length : Nat) : Int) = V.int 3) = decide (ws.length = 3) := by
    rw [List.length_map, Bool.eq_iff_iff, decide_eq_true_iff, decide_eq_true_iff]
    exact ⟨fun h => by have := V.int.inj h; omega, fun h => by rw [h]; rfl⟩
  rw [e3]
  cases c1 : decide (ws.length = 3) with
  | false =>
    refine iteF ?_
    have := q H (Same.refl _)
    unfold lineOk at this
    rw [c1] at this
    exact this
  | true =>
    have l3 := of_decide_eq_true c1
    have at_ : ∀ k, k < 3 → (ws.map V.str)[k]? = some (V.str (strG ws k)) := fun k hk => by
      unfold strG
      rw [List.getElem?_map, List.getD_eq_getElem?_getD, List.getElem?_eq_getElem (by omega)]
      rfl
    have ln : ∀ k, k < 3 → (strG ws k).length ≤ 1000 := fun k hk => by
      unfold strG
      rw [List.getD_eq_getElem?_getD, List.getElem?_eq_getElem (by omega)]
      exact hw _ (List.getElem_mem _)
    refine iteT ⟨_, rfl, p, _, _, _, rfl, rfl, .of ep, atI_nat (j := 0) (at_ 0 (by decide)), _, rfl, _, rfl, big, rfl, _, rfl, ?_⟩
    have e4 : decide (V.str (strG ws 0) = V.str (Str.ofString (toString ((i : Nat) : Int)))) = decide (strG ws 0 = numS i) := decide_eq_decide.mpr ⟨fun h => V.str.inj h, fun h => congrArg V.str h⟩
    rw [e4]
    cases c2 : decide (strG ws 0 = numS i) with
    | false =>
      refine iteF ?_
      have := q H (Same.refl _)
      unfold lineOk at this
      rw [c1, c2] at this
      exact this
    | true =>
      refine iteT ⟨_, rfl, p, _, _, _, rfl, rfl, .of ep, atI_nat (j := 1) (at_ 1 (by decide)), strG ws 1, rfl, ln 1 (by decide), fun H1 s1 => ⟨_, rfl, ?_⟩⟩
      have := q H1 s1
      unfold lineOk at this
      rw [c1, c2] at this
      cases c3 : numT (TL.tl (strG ws 1)) with
      | false =>
        refine iteF ?_
        rw [c3] at this
        exact this
      | true =>
        rw [c3] at this
        refine iteT ⟨_, rfl, p, _, _, _, rfl, rfl, .of (s1 _ _ ep), atI_nat (j := 2) (at_ 2 (by decide)), la, _, rfl, .inr (sla H1), rfl, by decide, ?_⟩
        rw [show inV (V.str (strG ws 2)) (labelL.map V.str) = decide (strG ws 2 ∈ labelL) from in_strs _ _]
        exact this
/-! ### parse_list -/
def linesT (x : Str) : List Str := if x = ("" : Str) then [] else Txt.split x ("\n" : Str)
def wordsT (l : Str) : List Str := Txt.split l (" " : Str)
def okT (ls : List Str) (i : Nat) : Bool := lineOk (wordsT (strG ls i)) i
def valT (l : Str) : Int := (intText? (strG (wordsT l) 1)).getD 0
/-- the first line that is not well written -/
def badT (ls : List Str) : Option Nat := (List.range ls.length).find? fun i => !okT ls i
theorem sc_parse_list : FnScope n_parse_list ["text"] (defScope s_parse_list) := ⟨rfl, rfl, rfl, by decide +kernel, rfl, by decide +kernel, by decide +kernel⟩
theorem lines_600 {x : Str} (hx : x.length ≤ 600) : (linesT x).length ≤ 601 ∧ ∀ l, l ∈ linesT x → l.length ≤ 600 := by
  unfold linesT
  by_cases c : x = ("" : Str)
  · rw [if_pos c]
    exact ⟨Nat.zero_le _, fun l h => nomatch h⟩
  · rw [if_neg c]
    have h1 := split_few (x := x) (y := ("\n" : Str)) (by decide +kernel)
    exact ⟨by omega, fun l h => by have := split_part h; omega⟩
def spParse (C : Addr) : Sp := fun vs H Q E => ∃ x : Str, vs = [.str x] ∧ x.length ≤ 4200 ∧ (linesT x).length ≤ 601 ∧ (∀ l, l ∈ linesT x → l.length ≤ 600) ∧
  (badT (linesT x) = none → ∀ (H' : Hp) (r a b : Addr), Same H H' → H r = none → H a = none → H b = none → H' r = some (.tup [.ref a, .ref b]) → H' a = some (.lst (((linesT x).map valT).map V.int)) → H' b = some (.lst (((linesT x).map fun l => strG (wordsT l) 2).map V.str)) → a ≠ b → Q (.ref r) H') ∧
  (∀ i, badT (linesT x) = some i → ET C E H (natV (i + 1)))
theorem ok_parse {C fI : Addr} {fd : FuncData} (B : Bl mg) (O : OwnT K mg C fI fd) (Ln : Df P w K mg base "is_line" 2 ["words", "node"] spLine) (a : At K mg "parse_list" s_parse_list) : DfBX P w K mg base "parse_list" 3 ["text"] ["text"] (spParse C) := by
  refine DfBX.mk' a sc_parse_list (fun vs H Q E h => ?_) (fun _ _ _ _ _ _ us hl => match us, hl with | [_], _ => rfl) (fun _ _ _ _ _ _ us hl => match us, hl with | [_], _ => rfl) (fun f cdv A outer s H vs Q E hr h => ?_)
  · obtain ⟨_, rfl, _⟩ := h
    rfl
  obtain ⟨x, rfl, hx, ln1, ln2, good, bad⟩ := h
  refine ⟨_, (pss_cons (ps_set (i := 1) sc_parse_list.nd rfl (.inl rfl) (pe_lst pa_nil))
 (pss_cons (ps_set (i := 2) sc_parse_list.nd rfl (.inl rfl) (pe_lst pa_nil))
 (C8.pss_cut (ps_set (i := 3) sc_parse_list.nd rfl (.inl rfl) (pe_ifExp (pt_cmpR op_ne (pv 0) pe_str (nomark _)) (pe_split (pv 0) pe_str) (pe_lst pa_nil)))
 (pss_cons (ps_for (passes_of rfl) rfl (pi_enum (by rfl) B.enumerate (pa_cons (pv 3) pa_nil)) (pg_tup rfl (pgs_cons (pg_name (i := 4) sc_parse_list.nd rfl (.inl rfl)) (pgs_cons (pg_name (i := 5) sc_parse_list.nd rfl (.inl rfl)) pgs_nil))) (pss_cons (ps_set (i := 6) sc_parse_list.nd rfl (.inl rfl) (pe_split (pv 5) pe_str))
 (pss_cons (ps_if (pt_not (pt_val (pe_df Ln hr (pa_cons (pv 6) (pa_cons (pv 4) pa_nil))))) (pss_one (ps_raise rfl (takes_of rfl rfl rfl rfl) (pmk_oex O.T O.i O.t (ok_itInit O.v O.vV O.F) (hr.mono (by decide)) O.b .nil pass0 rfl O.g (pa_cons (pe_op op_add (pv 4) pe_int) pa_nil)))) pss_nil)
 (pss_cons (ps_expr (pe_bm PySem.F.plainAttrs_list PySem.F.slot_list_append PySem.F.type_list_append mt_append (pv 1) (pa_cons (pe_callTy call_int_str (by rfl) B.int (by decide +kernel) (pa_cons (pe_ix ix_list (pv 6) pe_int (fun _ _ => rfl)) pa_nil)) pa_nil)))
 (pss_one (ps_expr (pe_bm PySem.F.plainAttrs_list PySem.F.slot_list_append PySem.F.type_list_append mt_append (pv 2) (pa_cons (pe_ix ix_list (pv 6) pe_int (fun _ _ => rfl)) pa_nil))))))))
 (pss_one (ps_ret (pe_tup (pa_cons (pv 1) (pa_cons (pv 2) pa_nil))))))))), ?_⟩
  have line : sizeLine = 16777216 := rfl
  refine ⟨Nat.zero_le _, fun A1 hA1 => ?_⟩
  have sA := Same.new (o := .lst []) hA1
  have eA : (upd H A1 (.lst [])) A1 = some (.lst (([] : List Int).map V.int)) := upd_same
  generalize upd H A1 (.lst []) = HA at sA eA ⊢
  refine ⟨Nat.zero_le _, fun B1 hB1 => ?_⟩
  have sB := Same.new (o := .lst []) hB1
  have eB : (upd HA B1 (.lst [])) B1 = some (.lst (([] : List Str).map V.str)) := upd_same
  have eA2 := sB _ _ eA
  have nAB : A1 ≠ B1 := ne_of_none eA hB1
  have nB0 : H B1 = none := sA.free hB1
  have sAB := sA.trans sB
  generalize upd HA B1 (.lst []) = HB at sB eB eA2 sAB ⊢
  refine ⟨fun σ H' => ∃ L : Addr, σ = [some (.str x), some (.ref A1), some (.ref B1), some (.ref L), none, none, none] ∧ Same HB H' ∧ H' L = some (.lst ((linesT x).map V.str)) ∧ HB L = none, ?_, fun σ H1 hX => ?_⟩
  · have e0 : decide (V.str x = V.str ("" : Str)) = decide (x = ("" : Str)) := decide_eq_decide.mpr ⟨fun h => V.str.inj h, fun h => congrArg V.str h⟩
    refine ⟨_, rfl, rfl, _, rfl, ?_⟩
    rw [e0]
    cases c : decide (x = ("" : Str)) with
    | true =>
      refine iteF ⟨Nat.zero_le _, fun L hL => ⟨L, rfl, Same.new hL, ?_, hL⟩⟩
      rw [upd_same]
      unfold linesT
      rw [if_pos (of_decide_eq_true c)]
      rfl
    | false =>
      refine iteT ⟨_, rfl, ⟨_, rfl⟩, _, _, rfl, rfl, by decide +kernel, by omega, fun L hL => ⟨L, rfl, Same.new hL, ?_, hL⟩⟩
      rw [upd_same]
      unfold linesT
      rw [if_neg (of_decide_eq_false c)]
  obtain ⟨L, rfl, s1, eL, nL⟩ := hX
  have nLA : L ≠ A1 := fun z => by rw [z, eA2] at nL; cases nL
  have nLB : L ≠ B1 := fun z => by rw [z, eB] at nL; cases nL
  have eA3 := s1 _ _ eA2
  have eB3 := s1 _ _ eB
  generalize linesT x = ls at good bad eL ln1 ln2
  refine ⟨_, rfl, L, _, rfl, .of eL, for_it (walk_enum (K := K) (a := L) (xs := ls.map V.str)) (fun i σ H' => (∃ y4 y5 y6 : Option V, σ = [some (.str x), some (.ref A1), some (.ref B1), some (.ref L), y4, y5, y6]) ∧ Stay [A1, B1] H1 H' ∧ (∀ j, j < i → okT ls j = true) ∧ H' A1 = some (.lst (((ls.take i).map valT).map V.int)) ∧ H' B1 = some (.lst (((ls.take i).map fun l => strG (wordsT l) 2).map V.str))) ⟨⟨_, _, _, rfl⟩, .refl _ _, fun _ h => absurd h (Nat.not_lt_zero _), eA3, eB3⟩ (fun i σ H' _ h' => .of (h'.2.1 _ _ (no2 nLA nLB) eL)) (fun i y σ H2 H3 hi h2 hy => ?_) (fun σ H2 h2 => ?_)⟩
  · obtain ⟨⟨y4, y5, y6, rfl⟩, st, ok, eA4, eB4⟩ := h2
    obtain ⟨T, x1, x2, rfl, nT, rfl, g1, g2⟩ := hy
    rw [List.length_map] at hi
    have g2 : (ls.map V.str)[i]? = some x2 := g2
    rw [List.getElem?_map, List.getElem?_eq_getElem hi] at g2
    cases g2
    cases (show some (V.int ((i : Nat) : Int)) = some x1 from g1)
    have hl : ls[i]? = some ls[i] := List.getElem?_eq_getElem hi
    have hg : strG ls i = ls[i] := by
      unfold strG
      rw [List.getD_eq_getElem?_getD, hl]
      rfl
    have l6 := ln2 _ (List.getElem_mem hi)
    generalize ls[i] = l at hl hg l6
    have sT := Same.new (o := .tup [V.int ((i : Nat) : Int), V.str l]) nT
    have eT : (upd H2 T (.tup [V.int ((i : Nat) : Int), V.str l])) T = some (.tup [V.int ((i : Nat) : Int), V.str l]) := upd_same
    have eA5 := sT _ _ eA4
    have eB5 := sT _ _ eB4
    have st3 := st.then sT
    generalize upd H2 T (.tup [V.int ((i : Nat) : Int), V.str l]) = H3 at eT eA5 eB5 st3 ⊢
    refine ⟨T, _, rfl, .of eT, rfl, _, _, rfl, _, [], rfl, rfl, ?_⟩
    refine ⟨_, rfl, ⟨_, rfl⟩, _, _, rfl, rfl, by decide +kernel, by omega, fun W hW => ?_⟩
    have sW := Same.new (o := .lst ((Txt.split l (" " : Str)).map V.str)) hW
    have eW : (upd H3 W (.lst ((Txt.split l (" " : Str)).map V.str))) W = some (.lst ((wordsT l).map V.str)) := upd_same
    have eA6 := sW _ _ eA5
    have eB6 := sW _ _ eB5
    have st4 := st3.then sW
    generalize upd H3 W (.lst ((Txt.split l (" " : Str)).map V.str)) = H4 at eW eA6 eB6 st4 ⊢
    have wl : ∀ s, s ∈ wordsT l → s.length ≤ 600 := fun s hs => Nat.le_trans (split_part hs) l6
    have sH : Same H H4 := Stay.same (X := [A1, B1]) (sAB.trans s1) (fun y hy => by
      rcases List.mem_cons.mp hy with z | z
      · exact z ▸ hA1
      · exact (List.mem_singleton.mp z) ▸ nB0) st4
    refine ⟨_, rfl, _, rfl, W, wordsT l, i, rfl, eW, fun s hs => Nat.le_trans (wl s hs) (by decide), by omega, fun H5 s5 => ⟨_, rfl, ?_⟩⟩
    have ek : lineOk (wordsT l) i = okT ls i := by
      unfold okT
      rw [hg]
    rw [ek]
    cases c : okT ls i with
    | false =>
      refine iteT ⟨_, rfl, _, _, rfl, rfl, ?_⟩
      have eb : badT ls = some i := by
        unfold badT
        refine List.find?_range_eq_some.mpr ⟨by rw [c]; rfl, List.mem_range.mpr hi, fun j hj => by rw [ok j hj]; rfl⟩
      exact mk_it O.T O.no ((bad i eb).same (sH.trans s5))
    | true =>
      have lk : lineOk (wordsT l) i = true := by rw [ek, c]
      unfold lineOk at lk
      rw [Bool.and_eq_true, Bool.and_eq_true, Bool.and_eq_true, decide_eq_true_iff] at lk
      obtain ⟨l3, _, nm, _⟩ := lk
      have at_ : ∀ k, k < 3 → ((wordsT l).map V.str)[k]? = some (V.str (strG (wordsT l) k)) := fun k hk => by
        unfold strG
        rw [List.getElem?_map, List.getD_eq_getElem?_getD, List.getElem?_eq_getElem (by omega)]
        rfl
      have lw : (strG (wordsT l) 1).length ≤ 640 := by
        unfold strG
        rw [List.getD_eq_getElem?_getD, List.getElem?_eq_getElem (by omega)]
        have := wl _ (List.getElem_mem (show 1 < (wordsT l).length by omega))
        show (wordsT l)[1].length ≤ 640
        omega
      obtain ⟨n, en, _⟩ := num_val nm lw
      have ev : valT l = n := by
        unfold valT
        rw [en]
        rfl
      have eW5 := s5 _ _ eW
      refine iteF ⟨_, rfl, .inl ⟨rfl, _, .of (s5 _ _ eA6)⟩, _, rfl, W, _, _, _, rfl, rfl, .of eW5, atI_nat (j := 1) (at_ 1 (by decide)), _, n, rfl, en, lw, A1, _, _, rfl, rfl, s5 _ _ eA6, ?_, ?_⟩
      · rw [List.length_map, List.length_map, List.length_take]
        exact small1000 (by omega)
      have nWA : W ≠ A1 := (ne_of_none eA5 hW).symm
      have nWB : W ≠ B1 := (ne_of_none eB5 hW).symm
      have eB7 : (upd H5 A1 (.lst (((ls.take i).map valT).map V.int ++ [V.int n]))) B1 = some (.lst (((ls.take i).map fun l => strG (wordsT l) 2).map V.str)) := by
        rw [upd_ne nAB.symm]
        exact s5 _ _ eB6
      refine ⟨_, rfl, .inl ⟨rfl, _, .of eB7⟩, _, rfl, W, _, _, _, rfl, rfl, .of ((upd_ne nWA).trans eW5), atI_nat (j := 2) (at_ 2 (by decide)), B1, _, _, rfl, rfl, eB7, ?_, ?_⟩
      · rw [List.length_map, List.length_map, List.length_take]
        exact small1000 (by omega)
      refine ⟨⟨_, _, _, rfl⟩, ((st4.then s5).put (List.mem_cons_self)).put (List.mem_cons_of_mem _ List.mem_cons_self), fun j hj => ?_, ?_, ?_⟩
      · by_cases d : j = i
        · rw [d]; exact c
        · exact ok j (by omega)
      · rw [upd_ne nAB, upd_same, List.take_add_one, hl, List.map_append, List.map_append]
        show _ = some (HO.lst (_ ++ [V.int (valT l)]))
        rw [ev]
      · rw [upd_same, List.take_add_one, hl, List.map_append, List.map_append]
        rfl
  · obtain ⟨⟨y4, y5, y6, rfl⟩, st, ok, eA4, eB4⟩ := h2
    rw [List.length_map] at ok eA4 eB4
    rw [List.take_length] at eA4 eB4
    have sH : Same H H2 := Stay.same (X := [A1, B1]) (sAB.trans s1) (fun y hy => by
      rcases List.mem_cons.mp hy with z | z
      · exact z ▸ hA1
      · exact (List.mem_singleton.mp z) ▸ nB0) st
    have eb : badT ls = none := by
      unfold badT
      rw [List.find?_eq_none]
      intro j hj z
      rw [ok j (List.mem_range.mp hj)] at z
      cases z
    refine ⟨_, rfl, _, rfl, (by show 2 ≤ sizeLine; decide), fun R hR => ?_⟩
    have sR := Same.new (o := .tup [V.ref A1, V.ref B1]) hR
    exact good eb _ R A1 B1 (sH.trans sR) (sH.free hR) hA1 nB0 upd_same (sR _ _ eA4) (sR _ _ eB4) nAB
end
end HSP
namespace HSP
open PySem PySem.Spec PyProof.Rows L2
section
variable {P : Program} {w : World} {K : PySem.W.Frag} {mg : Str → Option Value} {base : Heap}
/-! ### count_nodes -/
/-- what waits: trees of together n nodes -/
inductive Waits (H : Hp) : List V → List Tr → Prop
  | nil : Waits H [] []
  | cons {v : V} {t : Tr} {vs : List V} {ts : List Tr} : TrAt H v t → Waits H vs ts → Waits H (v :: vs) (t :: ts)
theorem Waits.len {H : Hp} {vs : List V} {ts : List Tr} (h : Waits H vs ts) : vs.length = ts.length := by
  induction h with
  | nil => rfl
  | cons _ _ ih => rw [List.length_cons, List.length_cons, ih]
def sizes : List Tr → Nat
  | [] => 0
  | t :: r => t.size + sizes r
def turns : List Tr → Nat
  | [] => 0
  | t :: r => 2 * t.size + 1 + turns r
/-- the list on which they wait, the last one first -/
theorem last_rev {v : V} {vs : List V} : (v :: vs).reverse[(v :: vs).reverse.length - 1]? = some v := by
  rw [List.reverse_cons, List.length_append, List.length_singleton, Nat.add_sub_cancel, List.getElem?_append_right (Nat.le_refl _), Nat.sub_self]
  all_goals rfl
theorem drop_rev {v : V} {vs : List V} : (v :: vs).reverse.dropLast = vs.reverse := by
  rw [List.reverse_cons, List.dropLast_concat]
theorem rev_push {v : V} {vs : List V} : vs.reverse ++ [v] = (v :: vs).reverse := by rw [List.reverse_cons]
theorem rev_empty {vs : List V} : (!vs.reverse.isEmpty) = !vs.isEmpty := by
  cases vs with
  | nil => rfl
  | cons v r =>
    rw [List.reverse_cons]
    cases r.reverse <;> rfl
def spCount : Sp := fun vs H Q _ => ∃ (v : V) (t : Tr), vs = [v] ∧ TrAt H v t ∧ t.size ≤ 1000 ∧ ∀ H', Same H H' → Q (.int t.size) H'
theorem sc_count : FnScope n_count_nodes ["tree"] (defScope s_count_nodes) := ⟨rfl, rfl, rfl, by decide +kernel, rfl, by decide +kernel, by decide +kernel⟩
theorem ok_count (a : At K mg "count_nodes" s_count_nodes) : Df P w K mg base "count_nodes" 1 ["tree"] spCount := by
  refine Df.mk' a sc_count (fun vs H Q E h => ?_) (fun _ _ _ _ _ _ us hl => match us, hl with | [_], _ => rfl) (fun f cdv A outer s H vs Q E hr h => ?_)
  · obtain ⟨v, t, rfl, _⟩ := h
    rfl
  obtain ⟨v, t, rfl, ht, hz, q⟩ := h
  refine ⟨_, pss_cons (ps_set (i := 1) sc_count.nd rfl (.inl rfl) pe_int)
    (pss_cons (ps_set (i := 2) sc_count.nd rfl (.inl rfl) (pe_lst (pa_cons (pv 0) pa_nil)))
    (pss_cons (ps_while PassesOwn.never (pt_truth (pv 2) (by intro _; rfl))
      (pss_cons (ps_set (i := 3) sc_count.nd rfl (.inl rfl) (pe_bm0 PySem.F.plainAttrs_list PySem.F.slot_list_pop PySem.F.type_list_pop mt_pop (pv 2)))
      (pss_one (ps_if (pt_cmpR op_notN (pv 3) pe_non (nomark _))
        (pss_cons (ps_aug (i := 1) sc_count.nd rfl (.inl rfl) pe_int ip_add)
        (pss_cons (ps_expr (pe_bm PySem.F.plainAttrs_list PySem.F.slot_list_append PySem.F.type_list_append mt_append (pv 2) (pa_cons (pe_ix ix_tup (pv 3) pe_int (fun _ _ => rfl)) pa_nil)))
        (pss_one (ps_expr (pe_bm PySem.F.plainAttrs_list PySem.F.slot_list_append PySem.F.type_list_append mt_append (pv 2) (pa_cons (pe_ix ix_tup (pv 3) pe_int (fun _ _ => rfl)) pa_nil)))))) pss_nil))))
    (pss_one (ps_ret (pv 1))))), ?_⟩
  refine ⟨v, rfl, (by show 1 ≤ sizeLine; decide), fun l hl => ?_⟩
  have s0 : Same H (upd H l (.lst [v])) := Same.new hl
  refine ⟨fun m σ H1 => ∃ (vs : List V) (ts : List Tr) (n : Nat) (y : Option V), σ = [some v, some (.int n), some (.ref l), y] ∧ Same H H1 ∧ H1 l = some (.lst vs.reverse) ∧ Waits H vs ts ∧ n + sizes ts = t.size ∧ vs.length ≤ n + 1 ∧ m = turns ts,
    ⟨_, [v], [t], 0, none, rfl, s0, upd_same, .cons ht .nil, by show 0 + (t.size + 0) = t.size; omega, by show 1 ≤ 0 + 1; omega, rfl⟩, fun m σ H1 hW => ?_⟩
  obtain ⟨vs, ts, n, y, rfl, sm, el, hw, hn, hlen, rfl⟩ := hW
  refine ⟨.ref l, rfl, !vs.reverse.isEmpty, .inl ⟨_, .of el, rfl⟩, ?_⟩
  rw [rev_empty]
  cases hw with
  | nil =>
    refine iteF ?_
    exact ⟨_, rfl, by rw [show ((n : Nat) : Int) = ((t.size : Nat) : Int) from congrArg _ hn]; exact q _ sm⟩
  | @cons x u xs us hx hxs =>
    refine iteT ⟨fun σ' H' => ∃ m', m' < turns (u :: us) ∧ ∃ (vs : List V) (ts : List Tr) (n : Nat) (y : Option V), σ' = [some v, some (.int n), some (.ref l), y] ∧ Same H H' ∧ H' l = some (.lst vs.reverse) ∧ Waits H vs ts ∧ n + sizes ts = t.size ∧ vs.length ≤ n + 1 ∧ m' = turns ts,
      fun σ' H' hN => hN, ?_⟩
    refine ⟨.ref l, rfl, .inl ⟨rfl, _, .of el⟩, l, _, x, rfl, rfl, el, last_rev, ?_⟩
    rw [drop_rev]
    have sm2 : Same H (upd H1 l (.lst xs.reverse)) := fun b o e => by rw [upd_ne (ne_of_none e hl)]; exact sm b o e
    refine ⟨x, rfl, rfl, _, rfl, ?_⟩
    cases hx with
    | nil =>
      refine iteF ?_
      refine ⟨_, ?_, xs, us, n, _, rfl, sm2, upd_same, hxs, ?_, ?_, rfl⟩
      · show turns us < 2 * 0 + 1 + turns us; omega
      · have : 0 + sizes us = sizes (Tr.nil :: us) := rfl
        omega
      · rw [List.length_cons] at hlen; omega
    | @nod a x1 y1 l1 r1 ea hl1 hr1 =>
      refine iteT ?_
      refine ⟨_, rfl, _, _, rfl, rfl, ?_⟩
      have e2 : (upd H1 l (.lst xs.reverse)) a = some (.tup [x1, y1]) := sm2 _ _ ea
      refine ⟨_, rfl, .inl ⟨rfl, _, .of upd_same⟩, _, rfl, a, _, _, y1, rfl, rfl, .of e2, atI_nat (j := 1) rfl, l, _, _, rfl, rfl, upd_same, ?_, ?_⟩
      · rw [List.length_reverse]
        rw [List.length_cons] at hlen
        exact small1000 (by omega)
      refine ⟨_, rfl, .inl ⟨rfl, _, .of upd_same⟩, _, rfl, a, _, _, x1, rfl, rfl, .of (by rw [upd_ne (ne_of_none ea hl)]; exact e2), atI_nat (xs := [x1, y1]) (j := 0) rfl, l, _, _, rfl, rfl, upd_same, ?_, ?_⟩
      · rw [List.length_append, List.length_reverse, List.length_singleton]
        rw [List.length_cons] at hlen
        have e1 : sizes (Tr.nod l1 r1 :: us) = (l1.size + 1 + r1.size) + sizes us := rfl
        exact small1000 (by omega)
      rw [rev_push, rev_push]
      refine ⟨_, ?_, x1 :: y1 :: xs, l1 :: r1 :: us, n + 1, _, rfl, fun b o e => ?_, upd_same, .cons hl1 (.cons hr1 hxs), ?_, ?_, rfl⟩
      · show 2 * l1.size + 1 + (2 * r1.size + 1 + turns us) < 2 * (l1.size + 1 + r1.size) + 1 + turns us
        omega
      · rw [upd_ne (ne_of_none e hl), upd_ne (ne_of_none e hl)]
        exact sm2 b o e
      · have e1 : sizes (Tr.nod l1 r1 :: us) = (l1.size + 1 + r1.size) + sizes us := rfl
        show n + 1 + (l1.size + (r1.size + sizes us)) = t.size
        omega
      · rw [List.length_cons] at hlen
        show xs.length + 1 + 1 ≤ n + 1 + 1
        omega
end
end HSP
namespace HSP
open PySem PySem.Spec PyProof.Rows L2
section
variable {P : Program} {w : World} {K : PySem.W.Frag} {mg : Str → Option Value} {base : Heap}
/-! ### is_whole -/
def spWhole : Sp := fun vs H Q _ => ∃ i : Int, vs = [.int i] ∧ Q (.bl true) H
theorem sc_whole : FnScope n_is_whole ["thing"] (defScope s_is_whole) := ⟨rfl, rfl, rfl, by decide +kernel, rfl, by decide +kernel, by decide +kernel⟩
theorem ok_whole (B : Bl mg) (a : At K mg "is_whole" s_is_whole) : Df P w K mg base "is_whole" 1 ["thing"] spWhole := by
  refine Df.mk' a sc_whole (fun vs H Q E h => ?_) (fun _ _ _ _ _ _ us hl => match us, hl with | [_], _ => rfl) (fun f cdv A outer s H vs Q E hr h => ?_)
  · obtain ⟨v, rfl, _⟩ := h
    rfl
  obtain ⟨i, rfl, q⟩ := h
  refine ⟨_, pss_one (ps_ret (pe_and (pe_callB call_isi (by rfl) B.isinstance (by decide +kernel) (pa_cons (pv 0) (pa_cons (pe_bltn (v := .ty "int") (by rfl) B.int (by decide +kernel) rfl) pa_nil)))
    (pe_one (pe_not (pe_callB call_isi (by rfl) B.isinstance (by decide +kernel) (pa_cons (pv 0) (pa_cons (pe_bltn (v := .ty "bool") (by rfl) B.bool (by decide +kernel) rfl) pa_nil))))))), ?_⟩
  refine ⟨_, rfl, _, _, _, _, true, rfl, .ty "int", .base (.int i), rfl, true, rfl, iteT ?_⟩
  exact ⟨_, rfl, _, _, _, _, false, rfl, .ty "bool", .base (.int i), rfl, false, rfl, q⟩
end
end HSP
namespace HSP
open PySem PySem.Spec PyProof.Rows L2
section
variable {P : Program} {w : World} {K : PySem.W.Frag} {mg : Str → Option Value} {base : Heap}
/-! ### is_tree -/
def spTree : Sp := fun vs H Q _ => ∃ (v : V) (t : Tr), vs = [v] ∧ TrAt H v t ∧ t.size ≤ 1000 ∧ ∀ H', Same H H' → Q (.bl true) H'
theorem sc_tree : FnScope n_is_tree ["thing"] (defScope s_is_tree) := ⟨rfl, rfl, rfl, by decide +kernel, rfl, by decide +kernel, by decide +kernel⟩
theorem ok_tree (B : Bl mg) (a : At K mg "is_tree" s_is_tree) : Df P w K mg base "is_tree" 1 ["thing"] spTree := by
  refine Df.mk' a sc_tree (fun vs H Q E h => ?_) (fun _ _ _ _ _ _ us hl => match us, hl with | [_], _ => rfl) (fun f cdv A outer s H vs Q E hr h => ?_)
  · obtain ⟨v, t, rfl, _⟩ := h
    rfl
  obtain ⟨v, t, rfl, ht, hz, q⟩ := h
  refine ⟨_, pss_cons (ps_set (i := 1) sc_tree.nd rfl (.inl rfl) (pe_lst (pa_cons (pv 0) pa_nil)))
    (pss_cons (ps_while PassesOwn.never (pt_truth (pv 1) (by intro _; rfl))
      (pss_cons (ps_set (i := 2) sc_tree.nd rfl (.inl rfl) (pe_bm0 PySem.F.plainAttrs_list PySem.F.slot_list_pop PySem.F.type_list_pop mt_pop (pv 1)))
      (pss_one (ps_if (pt_cmpR op_notN (pv 2) pe_non (nomark _))
        (pss_cons (ps_if (PW.pt (pw_or (pt_not (pt_val (pe_callB call_isi (by rfl) B.isinstance (by decide +kernel) (pa_cons (pv 2) (pa_cons (pe_bltn (v := .ty "tuple") (by rfl) B.tuple (by decide +kernel) rfl) pa_nil)))))
            (pw_or1 (pt_cmpR op_ne (pe_callB call_len_seq (by rfl) B.len PySem.boot_len (pa_cons (pv 2) pa_nil)) pe_int (nomark _)))))
          (pss_one (ps_ret pe_bl)) pss_nil)
        (pss_cons (ps_expr (pe_bm PySem.F.plainAttrs_list PySem.F.slot_list_append PySem.F.type_list_append mt_append (pv 1) (pa_cons (pe_ix ix_tup (pv 2) pe_int (fun _ _ => rfl)) pa_nil)))
        (pss_one (ps_expr (pe_bm PySem.F.plainAttrs_list PySem.F.slot_list_append PySem.F.type_list_append mt_append (pv 1) (pa_cons (pe_ix ix_tup (pv 2) pe_int (fun _ _ => rfl)) pa_nil)))))) pss_nil))))
    (pss_one (ps_ret pe_bl))), ?_⟩
  refine ⟨v, rfl, (by show 1 ≤ sizeLine; decide), fun l hl => ?_⟩
  have s0 : Same H (upd H l (.lst [v])) := Same.new hl
  refine ⟨fun m σ H1 => ∃ (vs : List V) (ts : List Tr) (n : Nat) (y : Option V), σ = [some v, some (.ref l), y] ∧ Same H H1 ∧ H1 l = some (.lst vs.reverse) ∧ Waits H vs ts ∧ n + sizes ts = t.size ∧ vs.length ≤ n + 1 ∧ m = turns ts,
    ⟨_, [v], [t], 0, none, rfl, s0, upd_same, .cons ht .nil, by show 0 + (t.size + 0) = t.size; omega, by show 1 ≤ 0 + 1; omega, rfl⟩, fun m σ H1 hW => ?_⟩
  obtain ⟨vs, ts, n, y, rfl, sm, el, hw, hn, hlen, rfl⟩ := hW
  refine ⟨.ref l, rfl, !vs.reverse.isEmpty, .inl ⟨_, .of el, rfl⟩, ?_⟩
  rw [rev_empty]
  cases hw with
  | nil => exact iteF (q _ sm)
  | @cons x u xs us hx hxs =>
    refine iteT ⟨fun σ' H' => ∃ m', m' < turns (u :: us) ∧ ∃ (vs : List V) (ts : List Tr) (n : Nat) (y : Option V), σ' = [some v, some (.ref l), y] ∧ Same H H' ∧ H' l = some (.lst vs.reverse) ∧ Waits H vs ts ∧ n + sizes ts = t.size ∧ vs.length ≤ n + 1 ∧ m' = turns ts,
      fun σ' H' hN => hN, ?_⟩
    refine ⟨.ref l, rfl, .inl ⟨rfl, _, .of el⟩, l, _, x, rfl, rfl, el, last_rev, ?_⟩
    rw [drop_rev]
    have sm2 : Same H (upd H1 l (.lst xs.reverse)) := fun b o e => by rw [upd_ne (ne_of_none e hl)]; exact sm b o e
    refine ⟨x, rfl, rfl, _, rfl, ?_⟩
    cases hx with
    | nil =>
      refine iteF ?_
      refine ⟨_, ?_, xs, us, n, _, rfl, sm2, upd_same, hxs, ?_, ?_, rfl⟩
      · show turns us < 2 * 0 + 1 + turns us; omega
      · have : 0 + sizes us = sizes (Tr.nil :: us) := rfl
        omega
      · rw [List.length_cons] at hlen; omega
    | @nod a x1 y1 l1 r1 ea hl1 hr1 =>
      refine iteT ?_
      have e2 : (upd H1 l (.lst xs.reverse)) a = some (.tup [x1, y1]) := sm2 _ _ ea
      refine ⟨_, rfl, _, _, _, _, true, rfl, .ty "tuple", .base (.tup e2), rfl, true, rfl, iteF ?_⟩
      refine ⟨_, rfl, a, _, rfl, .inr (.of e2), rfl, _, rfl, iteF ?_⟩
      refine ⟨_, rfl, .inl ⟨rfl, _, .of upd_same⟩, _, rfl, a, _, _, y1, rfl, rfl, .of e2, atI_nat (j := 1) rfl, l, _, _, rfl, rfl, upd_same, ?_, ?_⟩
      · rw [List.length_reverse]
        rw [List.length_cons] at hlen
        exact small1000 (by omega)
      refine ⟨_, rfl, .inl ⟨rfl, _, .of upd_same⟩, _, rfl, a, _, _, x1, rfl, rfl, .of (by rw [upd_ne (ne_of_none ea hl)]; exact e2), atI_nat (xs := [x1, y1]) (j := 0) rfl, l, _, _, rfl, rfl, upd_same, ?_, ?_⟩
      · rw [List.length_append, List.length_reverse, List.length_singleton]
        rw [List.length_cons] at hlen
        have e1 : sizes (Tr.nod l1 r1 :: us) = (l1.size + 1 + r1.size) + sizes us := rfl
        exact small1000 (by omega)
      rw [rev_push, rev_push]
      refine ⟨_, ?_, x1 :: y1 :: xs, l1 :: r1 :: us, n + 1, _, rfl, fun b o e => ?_, upd_same, .cons hl1 (.cons hr1 hxs), ?_, ?_, rfl⟩
      · show 2 * l1.size + 1 + (2 * r1.size + 1 + turns us) < 2 * (l1.size + 1 + r1.size) + 1 + turns us
        omega
      · rw [upd_ne (ne_of_none e hl), upd_ne (ne_of_none e hl)]
        exact sm2 b o e
      · have e1 : sizes (Tr.nod l1 r1 :: us) = (l1.size + 1 + r1.size) + sizes us := rfl
        show n + 1 + (l1.size + (r1.size + sizes us)) = t.size
        omega
      · rw [List.length_cons] at hlen
        show xs.length + 1 + 1 ≤ n + 1 + 1
        omega
/-! ### check_tree -/
theorem sc_chkT : FnScope n_check_tree ["tree"] (defScope s_check_tree) := ⟨rfl, rfl, rfl, by decide +kernel, rfl, by decide +kernel, by decide +kernel⟩
def spChkT : Sp := fun vs H Q _ => ∃ (v : V) (t : Tr), vs = [v] ∧ TrAt H v t ∧ t.size ≤ 1000 ∧ ∀ H', Same H H' → Q .non H'
theorem ok_chkT (T : Df P w K mg base "is_tree" 1 ["thing"] spTree) (a : At K mg "check_tree" s_check_tree) : Df P w K mg base "check_tree" 2 ["tree"] spChkT := by
  refine Df.mk' a sc_chkT (fun vs H Q E h => ?_) (fun _ _ _ _ _ _ us hl => match us, hl with | [_], _ => rfl) (fun f cdv A outer s H vs Q E hr h => ?_)
  · obtain ⟨v, t, rfl, _⟩ := h
    rfl
  obtain ⟨v, t, rfl, ht, hz, q⟩ := h
  refine ⟨_, pss_one (ps_if (pt_not (pt_val (pe_df T hr (pa_cons (pv 0) pa_nil)))) (pss_one ps_never) pss_nil), ?_⟩
  refine ⟨v, rfl, v, t, rfl, ht, hz, fun H' sm => ⟨true, rfl, iteF ?_⟩⟩
  exact q H' sm
end
end HSP
namespace HSP
open PySem PySem.Spec PyProof.Rows L2
/-! ## max(.., default=None), min(.., default=None) of ints -/
theorem maxOf_spec : ∀ (ys : List Int) (y : Int), (PySem.W.maxOf y ys) ∈ y :: ys ∧ ∀ z, z ∈ y :: ys → z ≤ PySem.W.maxOf y ys
  | [], y => ⟨List.mem_cons_self, fun z hz => by rw [List.mem_singleton.mp hz]; exact Int.le_refl y⟩
  | x :: r, y => by
    have e : PySem.W.maxOf y (x :: r) = PySem.W.maxOf (if y < x then x else y) r := by
      unfold PySem.W.maxOf
      rw [List.foldl_cons]
      show List.foldl _ (if decide (y < x) = true then x else y) r = _
      by_cases c : y < x
      · rw [if_pos c, if_pos (decide_eq_true c)]
      · rw [if_neg c, if_neg (fun z => c (of_decide_eq_true z))]
    rw [e]
    obtain ⟨h1, h2⟩ := maxOf_spec r (if y < x then x else y)
    generalize PySem.W.maxOf (if y < x then x else y) r = M at h1 h2 ⊢
    constructor
    · rcases List.mem_cons.mp h1 with z | z
      · rw [z]
        split
        · exact List.mem_cons_of_mem _ List.mem_cons_self
        · exact List.mem_cons_self
      · exact List.mem_cons_of_mem _ (List.mem_cons_of_mem _ z)
    · intro z hz
      have h3 := h2 (if y < x then x else y) List.mem_cons_self
      rcases List.mem_cons.mp hz with q | q
      · rw [q]
        split at h3 <;> omega
      · rcases List.mem_cons.mp q with q | q
        · rw [q]
          split at h3 <;> omega
        · exact h2 z (List.mem_cons_of_mem _ q)
theorem minOf_spec : ∀ (ys : List Int) (y : Int), (PySem.W.minOf y ys) ∈ y :: ys ∧ ∀ z, z ∈ y :: ys → PySem.W.minOf y ys ≤ z
  | [], y => ⟨List.mem_cons_self, fun z hz => by rw [List.mem_singleton.mp hz]; exact Int.le_refl y⟩
  | x :: r, y => by
    have e : PySem.W.minOf y (x :: r) = PySem.W.minOf (if x < y then x else y) r := by
      unfold PySem.W.minOf
      rw [List.foldl_cons]
      show List.foldl _ (if decide (x < y) = true then x else y) r = _
      by_cases c : x < y
      · rw [if_pos c, if_pos (decide_eq_true c)]
      · rw [if_neg c, if_neg (fun z => c (of_decide_eq_true z))]
    rw [e]
    obtain ⟨h1, h2⟩ := minOf_spec r (if x < y then x else y)
    generalize PySem.W.minOf (if x < y then x else y) r = M at h1 h2 ⊢
    constructor
    · rcases List.mem_cons.mp h1 with z | z
      · rw [z]
        split
        · exact List.mem_cons_of_mem _ List.mem_cons_self
        · exact List.mem_cons_self
      · exact List.mem_cons_of_mem _ (List.mem_cons_of_mem _ z)
    · intro z hz
      have h3 := h2 (if x < y then x else y) List.mem_cons_self
      rcases List.mem_cons.mp hz with q | q
      · rw [q]
        split at h3 <;> omega
      · rcases List.mem_cons.mp q with q | q
        · rw [q]
          split at h3 <;> omega
        · exact h2 z (List.mem_cons_of_mem _ q)
theorem holds_is {h : Heap} {v : Value} {i : Int} (q : PySem.W.Holds h v i) : ∃ t, v = .int i t := by
  obtain ⟨as, r⟩ := q
  cases r with
  | int _ t => exact ⟨t, rfl⟩
section
variable {X : Cx}
def rMaxN : List V → List V → Hp → VK → Prop := fun vs zs H Q => ∃ (a : Addr) (ns : List Int), vs = [V.ref a] ∧ zs = [V.non] ∧ H a = some (.lst (ns.map V.int)) ∧ (ns = [] → Q .non H) ∧ ∀ m, m ∈ ns → (∀ y, y ∈ ns → y ≤ m) → Q (.int m) H
def rMinN : List V → List V → Hp → VK → Prop := fun vs zs H Q => ∃ (a : Addr) (ns : List Int), vs = [V.ref a] ∧ zs = [V.non] ∧ H a = some (.lst (ns.map V.int)) ∧ (ns = [] → Q .non H) ∧ ∀ m, m ∈ ns → (∀ y, y ∈ ns → m ≤ y) → Q (.int m) H
theorem crk_maxN (hc : X.calm = true) (hu : X.A.units + 64 < cLine) : CallRK X (.builtin "max") ["default"] rMaxN := by
  intro pins s σ H xs zs us ws Q I r rz h
  obtain ⟨a, ns, rfl, rfl, ha, q0, q1⟩ := h
  rw [Vals.ref1 r]
  obtain ⟨z, its, n, rv, e⟩ : ObjOk X.prog X.w H s.heap a (.lst (ns.map V.int)) := I.hok a _ ha
  cases rz with
  | cons r1 t1 =>
    cases t1
    cases (show _ = Value.none from r1)
    refine PySem.W.max_list_datum_default (I.ok.hd hc) (show s.heap.IsList a its.toArray from ⟨_, e, rfl, n, rfl⟩) (PySem.W.HoldAll.of_ints (ints_of_vals rv)) (by show X.A.units + 1 + 0 < cLine; omega) (fun e0 h' tk kp => ?_) (fun y ys i v h' tk ey _ hv kp => ?_)
    · exact ⟨.non, H, I.kept kp, rfl, q0 e0⟩
    · obtain ⟨t, rfl⟩ := holds_is hv
      obtain ⟨m1, m2⟩ := maxOf_spec ys y
      exact ⟨.int _, H, I.kept kp, ⟨t, rfl⟩, q1 _ (by rw [ey]; exact m1) (by rw [ey]; exact m2)⟩
theorem crk_minN (hc : X.calm = true) (hu : X.A.units + 64 < cLine) : CallRK X (.builtin "min") ["default"] rMinN := by
  intro pins s σ H xs zs us ws Q I r rz h
  obtain ⟨a, ns, rfl, rfl, ha, q0, q1⟩ := h
  rw [Vals.ref1 r]
  obtain ⟨z, its, n, rv, e⟩ : ObjOk X.prog X.w H s.heap a (.lst (ns.map V.int)) := I.hok a _ ha
  cases rz with
  | cons r1 t1 =>
    cases t1
    cases (show _ = Value.none from r1)
    refine PySem.W.min_list_datum_default (I.ok.hd hc) (show s.heap.IsList a its.toArray from ⟨_, e, rfl, n, rfl⟩) (PySem.W.HoldAll.of_ints (ints_of_vals rv)) (by show X.A.units + 1 + 0 < cLine; omega) (fun e0 h' tk kp => ?_) (fun y ys i v h' tk ey _ hv kp => ?_)
    · exact ⟨.non, H, I.kept kp, rfl, q0 e0⟩
    · obtain ⟨t, rfl⟩ := holds_is hv
      obtain ⟨m1, m2⟩ := minOf_spec ys y
      exact ⟨.int _, H, I.kept kp, ⟨t, rfl⟩, q1 _ (by rw [ey]; exact m1) (by rw [ey]; exact m2)⟩
end
end HSP
namespace HSP
open PySem PySem.Spec PyProof.Rows L2
/-! ### the paths of the nodes -/
/-- the ancestors of the node i, from the root down, and whether it lies right of them -/
def pOf : Tr → Nat → Nat → List (Nat × Bool)
  | .nil, _, _ => []
  | .nod l r, f, i => if i = f + l.size then [] else if i < f + l.size then (f + l.size, false) :: pOf l f i else (f + l.size, true) :: pOf r (f + l.size + 1) i
def sideV (b : Bool) : V := if b = true then .str "right" else .str "left"
/-- a path stands at r -/
def PathAt (H : Hp) (r : Addr) (p : List (Nat × Bool)) : Prop := ∃ tups : List Addr, H r = some (.lst (tups.map V.ref)) ∧ Paired (fun a (z : Nat × Bool) => H a = some (.tup [natV z.1, sideV z.2])) tups p
theorem PathAt.same {H H' : Hp} {r : Addr} {p : List (Nat × Bool)} (h : PathAt H r p) (s : Same H H') : PathAt H' r p := by
  obtain ⟨t, e, q⟩ := h
  exact ⟨t, s _ _ e, Paired.mapP q fun a z h => s _ _ h⟩
theorem PathAt.put {H : Hp} {r x : Addr} {p : List (Nat × Bool)} {xs ys : List V} (h : PathAt H r p) (n : r ≠ x) (hx : H x = some (.lst xs)) : PathAt (upd H x (.lst ys)) r p := by
  obtain ⟨t, e, q⟩ := h
  refine ⟨t, by rw [upd_ne n]; exact e, Paired.mapP q fun a z h => ?_⟩
  rw [upd_ne (fun e2 => by rw [e2, hx] at h; cases h)]
  exact h
theorem PathAt.stay {X : List Addr} {H H' : Hp} {r : Addr} {p : List (Nat × Bool)} (h : PathAt H r p) (k : Stay X H H') (n : r ∉ X) (hX : ∀ x, x ∈ X → ∃ ys, H x = some (.lst ys)) : PathAt H' r p := by
  obtain ⟨t, e, q⟩ := h
  refine ⟨t, k _ _ n e, Paired.mapP q fun a z h => k _ _ (fun m => ?_) h⟩
  obtain ⟨ys, e2⟩ := hX a m
  rw [e2] at h
  cases h
theorem PathAt.len {H : Hp} {r : Addr} {p : List (Nat × Bool)} {ts : List Addr} (h : Paired (fun a (z : Nat × Bool) => H a = some (.tup [natV z.1, sideV z.2])) ts p) : ts.length = p.length := Paired.length h
/-- all paths stand in the list at q, each one in a list of its own -/
def WaysAt (H : Hp) (q : Addr) (t : Tr) : Prop := ∃ rows : List Addr, H q = some (.lst (rows.map V.ref)) ∧ rows.length = t.size ∧ ∀ i r, rows[i]? = some r → PathAt H r (pOf t 0 i)
theorem pOf_len : ∀ (t : Tr) (f i : Nat), (pOf t f i).length ≤ t.size
  | .nil, _, _ => Nat.le_refl _
  | .nod l r, f, i => by
    have h1 := pOf_len l f i
    have h2 := pOf_len r (f + l.size + 1) i
    unfold pOf
    show _ ≤ l.size + 1 + r.size
    split
    · exact Nat.zero_le _
    · split <;> (rw [List.length_cons]; omega)
theorem pOf_in : ∀ (t : Tr) (f i : Nat) (z : Nat × Bool), z ∈ pOf t f i → f ≤ z.1 ∧ z.1 < f + t.size
  | .nil, _, _, _, h => by cases h
  | .nod l r, f, i, z, h => by
    have e : pOf (.nod l r) f i = if i = f + l.size then [] else if i < f + l.size then (f + l.size, false) :: pOf l f i else (f + l.size, true) :: pOf r (f + l.size + 1) i := rfl
    have sz : (Tr.nod l r).size = l.size + 1 + r.size := rfl
    rw [e] at h
    rw [sz]
    split at h
    · cases h
    · split at h
      · rcases List.mem_cons.mp h with q | q
        · rw [q]
          exact ⟨(by show f ≤ f + l.size; omega), (by show f + l.size < f + (l.size + 1 + r.size); omega)⟩
        · have := pOf_in l f i z q
          omega
      · rcases List.mem_cons.mp h with q | q
        · rw [q]
          exact ⟨(by show f ≤ f + l.size; omega), (by show f + l.size < f + (l.size + 1 + r.size); omega)⟩
        · have := pOf_in r (f + l.size + 1) i z q
          omega
theorem pOf_in0 (t : Tr) (i : Nat) (z : Nat × Bool) (h : z ∈ pOf t 0 i) : z.1 < t.size := by
  have := pOf_in t 0 i z h
  omega
/-- the nodes, the root first, then those of the left part, then those of the right part, each with its path -/
def pre : Tr → Nat → List (Nat × Bool) → List (Nat × List (Nat × Bool))
  | .nil, _, _ => []
  | .nod l r, f, p => (f + l.size, p) :: (pre l f (p ++ [(f + l.size, false)]) ++ pre r (f + l.size + 1) (p ++ [(f + l.size, true)]))
theorem pre_len : ∀ (t : Tr) (f : Nat) (p : List (Nat × Bool)), (pre t f p).length = t.size
  | .nil, _, _ => rfl
  | .nod l r, f, p => by
    show ((f + l.size, p) :: (pre l f (p ++ [(f + l.size, false)]) ++ pre r (f + l.size + 1) (p ++ [(f + l.size, true)]))).length = l.size + 1 + r.size
    rw [List.length_cons, List.length_append, pre_len l, pre_len r]
    omega
theorem pOf_nod (l r : Tr) (f i : Nat) : pOf (.nod l r) f i = if i = f + l.size then [] else if i < f + l.size then (f + l.size, false) :: pOf l f i else (f + l.size, true) :: pOf r (f + l.size + 1) i := rfl
theorem pre_nod (l r : Tr) (f : Nat) (p : List (Nat × Bool)) : pre (.nod l r) f p = (f + l.size, p) :: (pre l f (p ++ [(f + l.size, false)]) ++ pre r (f + l.size + 1) (p ++ [(f + l.size, true)])) := rfl
theorem size_nod (l r : Tr) : (Tr.nod l r).size = l.size + 1 + r.size := rfl
theorem pre_in : ∀ (t : Tr) (f : Nat) (p : List (Nat × Bool)) (n : Nat) (s : List (Nat × Bool)), (n, s) ∈ pre t f p → f ≤ n ∧ n < f + t.size ∧ s = p ++ pOf t f n
  | .nil, _, _, _, _, h => by cases h
  | .nod l r, f, p, n, s, h => by
    rw [pre_nod] at h
    rw [size_nod, pOf_nod]
    rcases List.mem_cons.mp h with z | z
    · obtain ⟨rfl, rfl⟩ := Prod.mk.inj z
      refine ⟨by omega, by omega, ?_⟩
      rw [if_pos rfl, List.append_nil]
    · rcases List.mem_append.mp z with z | z
      · obtain ⟨h1, h2, h3⟩ := pre_in l f _ n s z
        refine ⟨h1, by omega, ?_⟩
        rw [if_neg (by omega), if_pos (by omega), h3, List.append_assoc]
        rfl
      · obtain ⟨h1, h2, h3⟩ := pre_in r (f + l.size + 1) _ n s z
        refine ⟨by omega, by omega, ?_⟩
        rw [if_neg (by omega), if_neg (by omega), h3, List.append_assoc]
        rfl
theorem pre_mem : ∀ (t : Tr) (f : Nat) (p : List (Nat × Bool)) (n : Nat), f ≤ n → n < f + t.size → (n, p ++ pOf t f n) ∈ pre t f p
  | .nil, f, _, n, h1, h2 => by
    have : n < f + 0 := h2
    omega
  | .nod l r, f, p, n, h1, h2 => by
    rw [size_nod] at h2
    rw [pre_nod, pOf_nod]
    by_cases c : n = f + l.size
    · rw [if_pos c, List.append_nil, c]
      exact List.mem_cons_self
    · rw [if_neg c]
      refine List.mem_cons_of_mem _ ?_
      by_cases d : n < f + l.size
      · rw [if_pos d]
        have h := pre_mem l f (p ++ [(f + l.size, false)]) n h1 d
        rw [List.append_assoc] at h
        exact List.mem_append.mpr (.inl h)
      · rw [if_neg d]
        have h := pre_mem r (f + l.size + 1) (p ++ [(f + l.size, true)]) n (by omega) (by omega)
        rw [List.append_assoc] at h
        exact List.mem_append.mpr (.inr h)
/-- a row: a node with its path -/
def RowAt (H : Hp) (R : Addr) (z : Nat × List (Nat × Bool)) : Prop := ∃ b, H R = some (.tup [natV z.1, .ref b]) ∧ PathAt H b z.2
theorem RowAt.same {H H' : Hp} {R : Addr} {z : Nat × List (Nat × Bool)} (h : RowAt H R z) (s : Same H H') : RowAt H' R z := by
  obtain ⟨b, e, q⟩ := h
  exact ⟨b, s _ _ e, q.same s⟩
/-- what waits: a tree, its first node, the path to it -/
structure Wt where
  v : V
  u : Tr
  f : Nat
  b : Addr
  p : List (Nat × Bool)
def WtOk (H0 H : Hp) (X : List Addr) (T : Addr) (x : Wt) : Prop := H T = some (.tup [x.v, natV x.f, .ref x.b]) ∧ TrAt H0 x.v x.u ∧ PathAt H x.b x.p ∧ x.b ∉ X ∧ H0 x.b = none
theorem WtOk.stay {H0 H H' : Hp} {X : List Addr} {T : Addr} {x : Wt} (h : WtOk H0 H X T x) (s : Stay X H H') (hX : ∀ x, x ∈ X → ∃ ys, H x = some (.lst ys)) : WtOk H0 H' X T x := by
  obtain ⟨h1, h2, h3, h4, h5⟩ := h
  refine ⟨s _ _ (fun m => ?_) h1, h2, h3.stay s h4 hX, h4, h5⟩
  obtain ⟨ys, e⟩ := hX T m
  rw [e] at h1
  cases h1
def RowOk (H0 H : Hp) (X : List Addr) (R : Addr) (z : Nat × List (Nat × Bool)) : Prop := ∃ b, H R = some (.tup [natV z.1, .ref b]) ∧ PathAt H b z.2 ∧ b ∉ X ∧ H0 b = none
theorem RowOk.stay {H0 H H' : Hp} {X : List Addr} {R : Addr} {z : Nat × List (Nat × Bool)} (h : RowOk H0 H X R z) (s : Stay X H H') (hX : ∀ x, x ∈ X → ∃ ys, H x = some (.lst ys)) : RowOk H0 H' X R z := by
  obtain ⟨b, h1, h2, h3, h4⟩ := h
  refine ⟨b, s _ _ (fun m => ?_) h1, h2.stay s h3 hX, h3, h4⟩
  obtain ⟨ys, e⟩ := hX R m
  rw [e] at h1
  cases h1
def wtTurns : List Wt → Nat
  | [] => 0
  | x :: r => 2 * x.u.size + 1 + wtTurns r
def wtSizes : List Wt → Nat
  | [] => 0
  | x :: r => x.u.size + wtSizes r
def wtPre : List Wt → List (Nat × List (Nat × Bool))
  | [] => []
  | x :: r => pre x.u x.f x.p ++ wtPre r
/-- a path with one step more, laid anew -/
theorem path_more {H : Hp} {t1 l1 a1 : Addr} {p : List (Nat × Bool)} {z : Nat × Bool} {tups : List Addr} {x y : V} (hx : x = natV z.1) (hy : y = sideV z.2) (hp : Paired (fun a (z : Nat × Bool) => H a = some (.tup [natV z.1, sideV z.2])) tups p) (h1 : H t1 = none) (h2 : upd H t1 (.tup [x, y]) l1 = none)
    (h3 : upd (upd H t1 (.tup [x, y])) l1 (.lst [V.ref t1]) a1 = none) : PathAt (upd (upd (upd H t1 (.tup [x, y])) l1 (.lst [V.ref t1])) a1 (.lst (tups.map V.ref ++ [V.ref t1]))) a1 (p ++ [z]) := by
  subst hx hy
  have s1 := Same.new (o := .tup [natV z.1, sideV z.2]) h1
  have s2 := Same.new (o := .lst [V.ref t1]) h2
  have s3 := Same.new (o := .lst (tups.map V.ref ++ [V.ref t1])) h3
  refine ⟨tups ++ [t1], ?_, Paired.app (Paired.mapP hp fun a z h => s3 _ _ (s2 _ _ (s1 _ _ h))) (.cons (s3 _ _ (s2 _ _ upd_same)) .nil)⟩
  rw [upd_same, List.map_append]
  rfl
section
variable {P : Program} {w : World} {K : PySem.W.Frag} {mg : Str → Option Value} {base : Heap}
theorem sc_walk : FnScope n_walk ["tree"] (defScope s_walk) := ⟨rfl, rfl, rfl, by decide +kernel, rfl, by decide +kernel, by decide +kernel⟩
def spWalk : Sp := fun vs H Q _ => ∃ (v : V) (t : Tr), vs = [v] ∧ TrAt H v t ∧ t.size ≤ 300 ∧ ∀ (H' : Hp) (q : Addr) (rows : List Addr), Same H H' → H q = none → H' q = some (.lst (rows.map V.ref)) → Paired (fun R z => ∃ b, H' R = some (.tup [natV z.1, .ref b]) ∧ PathAt H' b z.2 ∧ b ≠ q ∧ H b = none) rows (pre t 0 []) → Q (.ref q) H'
theorem ok_walk (C : Df P w K mg base "count_nodes" 1 ["tree"] spCount) (a : At K mg "walk" s_walk) : Df P w K mg base "walk" 2 ["tree"] spWalk := by
  refine Df.mk' a sc_walk (fun vs H Q E h => ?_) (fun _ _ _ _ _ _ us hl => match us, hl with | [_], _ => rfl) (fun f cdv A outer s H vs Q E hr h => ?_)
  · obtain ⟨v, t, rfl, _⟩ := h
    rfl
  obtain ⟨v, t, rfl, ht, hz, q⟩ := h
  refine ⟨_, (pss_cons (ps_set (i := 1) sc_walk.nd rfl (.inl rfl) (pe_lst pa_nil))
 (pss_cons (ps_set (i := 2) sc_walk.nd rfl (.inl rfl) (pe_lst (pa_cons (pe_tup (pa_cons (pv 0) (pa_cons pe_int (pa_cons (pe_lst pa_nil) pa_nil)))) pa_nil)))
 (pss_cons (ps_while PassesOwn.never (pt_truth (pv 2) (by intro _; rfl)) (pss_cons (ps_asg (pe_bm0 PySem.F.plainAttrs_list PySem.F.slot_list_pop PySem.F.type_list_pop mt_pop (pv 2)) (pg_tup rfl (pgs_cons (pg_name (i := 3) sc_walk.nd rfl (.inl rfl)) (pgs_cons (pg_name (i := 4) sc_walk.nd rfl (.inl rfl)) (pgs_cons (pg_name (i := 5) sc_walk.nd rfl (.inl rfl)) pgs_nil)))))
 (pss_one (ps_if (pt_cmpR op_notN (pv 3) pe_non (nomark _)) (pss_cons (ps_asg (pv 3) (pg_tup rfl (pgs_cons (pg_name (i := 6) sc_walk.nd rfl (.inl rfl)) (pgs_cons (pg_name (i := 7) sc_walk.nd rfl (.inl rfl)) pgs_nil))))
 (pss_cons (ps_set (i := 8) sc_walk.nd rfl (.inl rfl) (pe_op op_add (pv 4) (pe_df C hr (pa_cons (pv 6) pa_nil))))
 (pss_cons (ps_expr (pe_bm PySem.F.plainAttrs_list PySem.F.slot_list_append PySem.F.type_list_append mt_append (pv 1) (pa_cons (pe_tup (pa_cons (pv 8) (pa_cons (pv 5) pa_nil))) pa_nil)))
 (pss_cons (ps_expr (pe_bm PySem.F.plainAttrs_list PySem.F.slot_list_append PySem.F.type_list_append mt_append (pv 2) (pa_cons (pe_tup (pa_cons (pv 7) (pa_cons (pe_op op_add (pv 8) pe_int) (pa_cons (pe_op op_cat (pv 5) (pe_lst (pa_cons (pe_tup (pa_cons (pv 8) (pa_cons pe_str pa_nil))) pa_nil))) pa_nil)))) pa_nil)))
 (pss_one (ps_expr (pe_bm PySem.F.plainAttrs_list PySem.F.slot_list_append PySem.F.type_list_append mt_append (pv 2) (pa_cons (pe_tup (pa_cons (pv 6) (pa_cons (pv 4) (pa_cons (pe_op op_cat (pv 5) (pe_lst (pa_cons (pe_tup (pa_cons (pv 8) (pa_cons pe_str pa_nil))) pa_nil))) pa_nil)))) pa_nil)))))))) pss_nil))))
 (pss_one (ps_ret (pv 1)))))), ?_⟩
  refine ⟨Nat.zero_le _, fun q0 hq => ?_⟩
  refine ⟨v, rfl, Nat.zero_le _, fun ab hab => ⟨(by show 3 ≤ sizeLine; decide), fun T0 hT0 => ⟨(by show 1 ≤ sizeLine; decide), fun wl hwl => ?_⟩⟩⟩
  have t0 : Same H (upd H q0 (.lst [])) := Same.new hq
  have t1 := Same.new (o := .lst []) hab
  have t2 := Same.new (o := .tup [v, V.int 0, .ref ab]) hT0
  have t3 := Same.new (o := .lst [V.ref T0]) hwl
  have s3 := t0.trans (t1.trans (t2.trans t3))
  have hw : H wl = none := t0.free (t1.free (t2.free hwl))
  have eq3 := t3 _ _ (t2 _ _ (t1 _ _ (upd_same (H := H) (a := q0) (o := .lst []))))
  have nqw : q0 ≠ wl := ne_of_none (t2 _ _ (t1 _ _ upd_same)) hwl
  have nabw : ab ≠ wl := ne_of_none (t2 _ _ upd_same) hwl
  have nabq : ab ≠ q0 := (ne_of_none upd_same hab).symm
  have w0 : WtOk H (upd (upd (upd (upd H q0 (.lst [])) ab (.lst [])) T0 (.tup [v, V.int 0, .ref ab])) wl (.lst [V.ref T0])) [wl, q0] T0 ⟨v, t, 0, ab, []⟩ := ⟨t3 _ _ upd_same, ht, ⟨[], t3 _ _ (t2 _ _ upd_same), .nil⟩, no2 nabw nabq, t0.free hab⟩
  refine ⟨fun m σ H' => ∃ (ts : List Addr) (ws : List Wt) (rows : List Addr) (dn : List (Nat × List (Nat × Bool))) (y3 y4 y5 y6 y7 y8 : Option V), σ = [some v, some (.ref q0), some (.ref wl), y3, y4, y5, y6, y7, y8] ∧ Same H H' ∧ H' wl = some (.lst (ts.map V.ref).reverse) ∧ Paired (WtOk H H' [wl, q0]) ts ws ∧ H' q0 = some (.lst (rows.map V.ref)) ∧ Paired (RowOk H H' [wl, q0]) rows dn ∧
      pre t 0 [] = dn ++ wtPre ws ∧ (∀ x, x ∈ ws → x.p.length + x.u.size ≤ t.size) ∧ dn.length + wtSizes ws ≤ t.size ∧ ts.length + wtSizes ws ≤ t.size + 1 ∧ m = wtTurns ws,
    ⟨_, [T0], [⟨v, t, 0, ab, []⟩], [], [], _, _, _, _, _, _, rfl, s3, upd_same, .cons w0 .nil, eq3, .nil, ?_, fun x hx => ?_, ?_, ?_, rfl⟩, fun m σ H3 hW => ?_⟩
  · show pre t 0 [] = [] ++ (pre t 0 [] ++ [])
    rw [List.nil_append, List.append_nil]
  · rw [List.mem_singleton.mp hx]
    show 0 + t.size ≤ t.size
    omega
  · show 0 + (t.size + 0) ≤ t.size; omega
  · show 1 + (t.size + 0) ≤ t.size + 1; omega
  obtain ⟨ts, ws, rows, dn, y3, y4, y5, y6, y7, y8, rfl, s4, ew, pw, eq, pd, hpre, hin, hsz, hcnt, rfl⟩ := hW
  have hX : ∀ x, x ∈ [wl, q0] → ∃ ys, H3 x = some (.lst ys) := fun x hx => by
    rcases List.mem_cons.mp hx with z | z
    · exact ⟨_, z ▸ ew⟩
    · exact ⟨_, (List.mem_singleton.mp z) ▸ eq⟩
  refine ⟨.ref wl, rfl, !(ts.map V.ref).reverse.isEmpty, .inl ⟨_, .of ew, rfl⟩, ?_⟩
  rw [rev_empty]
  cases pw with
  | nil =>
    refine iteF ?_
    refine ⟨_, rfl, q H3 q0 rows s4 hq eq ?_⟩
    rw [hpre]
    show Paired _ rows (dn ++ [])
    rw [List.append_nil]
    exact Paired.mapP pd fun R z ⟨b, h1, h2, h3, h4⟩ => ⟨b, h1, h2, fun e => h3 (e ▸ in2r), h4⟩
  | @cons T x ts2 ws2 hx hxs =>
    obtain ⟨xv, xu, xf, xb, xp⟩ := x
    refine iteT ⟨fun σ' H' => ∃ m', m' < wtTurns (⟨xv, xu, xf, xb, xp⟩ :: ws2) ∧ ∃ (ts : List Addr) (ws : List Wt) (rows : List Addr) (dn : List (Nat × List (Nat × Bool))) (y3 y4 y5 y6 y7 y8 : Option V), σ' = [some v, some (.ref q0), some (.ref wl), y3, y4, y5, y6, y7, y8] ∧ Same H H' ∧ H' wl = some (.lst (ts.map V.ref).reverse) ∧ Paired (WtOk H H' [wl, q0]) ts ws ∧ H' q0 = some (.lst (rows.map V.ref)) ∧ Paired (RowOk H H' [wl, q0]) rows dn ∧
      pre t 0 [] = dn ++ wtPre ws ∧ (∀ x, x ∈ ws → x.p.length + x.u.size ≤ t.size) ∧ dn.length + wtSizes ws ≤ t.size ∧ ts.length + wtSizes ws ≤ t.size + 1 ∧ m' = wtTurns ws, fun σ' H' hN => hN, ?_⟩
    obtain ⟨eT, hxt, hpa', nb', fb'⟩ := hx
    have hpa : PathAt H3 xb xp := hpa'
    have nb : xb ∉ [wl, q0] := nb'
    have fb : H xb = none := fb'
    clear hpa' nb' fb'
    have nTw : T ≠ wl := tup_ne eT ew
    refine ⟨.ref wl, rfl, .inl ⟨rfl, _, .of ew⟩, wl, _, .ref T, rfl, rfl, ew, last_rev, ?_⟩
    rw [List.map_cons, drop_rev]
    have k5 : Stay [wl, q0] H3 (upd H3 wl (.lst (ts2.map V.ref).reverse)) := .at in2l
    have eT4 : (upd H3 wl (.lst (ts2.map V.ref).reverse)) T = some (.tup [xv, natV xf, .ref xb]) := by rw [upd_ne nTw]; exact eT
    refine ⟨T, _, rfl, .of eT4, rfl, _, _, rfl, _, _, rfl, _, [], rfl, rfl, ?_⟩
    have ew5 : (upd H3 wl (.lst (ts2.map V.ref).reverse)) wl = some (.lst (ts2.map V.ref).reverse) := upd_same
    have eq5 : (upd H3 wl (.lst (ts2.map V.ref).reverse)) q0 = some (.lst (rows.map V.ref)) := by rw [upd_ne nqw]; exact eq
    generalize upd H3 wl (.lst (ts2.map V.ref).reverse) = H5 at eT4 k5 ew5 eq5 ⊢
    have fr : ∀ x, x ∈ [wl, q0] → H x = none := fun x hx => by
      rcases List.mem_cons.mp hx with z | z
      · exact z ▸ hw
      · exact (List.mem_singleton.mp z) ▸ hq
    refine ⟨_, rfl, rfl, _, rfl, ?_⟩
    rw [List.length_cons] at hcnt
    have hin2 := fun x hx => hin x (List.mem_cons_of_mem _ hx)
    have hin1 : xp.length + xu.size ≤ t.size := hin ⟨xv, xu, xf, xb, xp⟩ List.mem_cons_self
    cases hxt with
    | nil =>
      refine iteF ?_
      have z1 : wtSizes (⟨.non, .nil, xf, xb, xp⟩ :: ws2) = 0 + wtSizes ws2 := rfl
      refine ⟨wtTurns ws2, by show wtTurns ws2 < 2 * 0 + 1 + wtTurns ws2; omega, ts2, ws2, rows, dn, _, _, _, _, _, _, rfl, k5.same s4 fr, ew5, Paired.mapP hxs fun a z h => h.stay k5 hX, eq5, Paired.mapP pd fun a z h => h.stay k5 hX, hpre, hin2, by omega, by omega, rfl⟩
    | @nod b x1 x2 l r eb hl hr2 =>
      refine iteT ?_
      have s5 := k5.same s4 fr
      rw [size_nod] at hin1
      have zz : wtSizes (⟨.ref b, .nod l r, xf, xb, xp⟩ :: ws2) = (l.size + 1 + r.size) + wtSizes ws2 := rfl
      rw [zz] at hsz hcnt
      have lrows : rows.length = dn.length := Paired.length pd
      refine ⟨_, rfl, b, [x1, x2], rfl, .of (s5 _ _ eb), rfl, x1, _, rfl, x2, [], rfl, rfl, ?_⟩
      refine ⟨_, rfl, x1, rfl, x1, l, rfl, hl.same s5, by omega, fun H6 s6 => ⟨_, _, rfl, rfl, ?_⟩⟩
      have en : V.int ((xf : Int) + (l.size : Int)) = natV (xf + l.size) := congrArg V.int (by omega)
      have k6 := k5.trans (.of s6)
      -- the row
      refine ⟨_, rfl, .inl ⟨rfl, _, .of (s6 _ _ eq5)⟩, _, rfl, _, rfl, (by show 2 ≤ sizeLine; decide), fun R hR => ?_⟩
      have a0 := Same.new (o := .tup [V.int ((xf : Int) + (l.size : Int)), .ref xb]) hR
      refine ⟨q0, _, _, rfl, rfl, a0 _ _ (s6 _ _ eq5), ?_, ?_⟩
      · rw [List.length_map]
        exact small1000 (by omega)
      have k7 := (k6.anew (p := R) (o := .tup [V.int ((xf : Int) + (l.size : Int)), .ref xb]) hR).put (p := q0) (o := .lst (rows.map V.ref ++ [V.ref R])) in2r
      have nRq : R ≠ q0 := (ne_of_none (s6 _ _ eq5) hR).symm
      have nRw : R ≠ wl := (ne_of_none (s6 _ _ ew5) hR).symm
      have eR7 : (upd (upd H6 R (.tup [V.int ((xf : Int) + (l.size : Int)), .ref xb])) q0 (.lst (rows.map V.ref ++ [V.ref R]))) R = some (.tup [natV (xf + l.size), .ref xb]) := by
        rw [upd_ne nRq, upd_same, en]
      have ew7 : (upd (upd H6 R (.tup [V.int ((xf : Int) + (l.size : Int)), .ref xb])) q0 (.lst (rows.map V.ref ++ [V.ref R]))) wl = some (.lst (ts2.map V.ref).reverse) := by
        rw [upd_ne nqw.symm]
        exact a0 _ _ (s6 _ _ ew5)
      have eq7 : (upd (upd H6 R (.tup [V.int ((xf : Int) + (l.size : Int)), .ref xb])) q0 (.lst (rows.map V.ref ++ [V.ref R]))) q0 = some (.lst ((rows ++ [R]).map V.ref)) := by
        rw [upd_same, List.map_append]
        rfl
      generalize upd (upd H6 R (.tup [V.int ((xf : Int) + (l.size : Int)), .ref xb])) q0 (.lst (rows.map V.ref ++ [V.ref R])) = H7 at k7 eR7 ew7 eq7 ⊢
      have en2 : V.int ((xf : Int) + (l.size : Int) + 1) = natV (xf + l.size + 1) := congrArg V.int (by omega)
      -- the right part waits
      obtain ⟨tups, exb, pt⟩ := hpa.stay k7 nb hX
      have ltp := Paired.length pt
      refine ⟨_, rfl, .inl ⟨rfl, _, .of ew7⟩, x2, rfl, _, rfl, _, _, rfl, rfl, _, rfl, _, rfl, (by show 2 ≤ sizeLine; decide), fun t2 ht2 => ⟨(by show 1 ≤ sizeLine; decide), fun l2 hl2 => ?_⟩⟩
      have a1 := Same.new (o := .tup [V.int ((xf : Int) + (l.size : Int)), .str "right"]) ht2
      have a2 := Same.new (o := .lst [V.ref t2]) hl2
      refine ⟨xb, l2, _, _, rfl, rfl, a2 _ _ (a1 _ _ exb), upd_same, ?_, fun c2 hc2 => ⟨(by show 3 ≤ sizeLine; decide), fun T2 hT2 => ?_⟩⟩
      · rw [List.length_map]
        show tups.length + 1 ≤ sizeLine
        exact Nat.le_of_lt (small1000 (by omega))
      have a3 := Same.new (o := .lst (tups.map V.ref ++ [V.ref t2])) hc2
      have a4 := Same.new (o := .tup [x2, V.int ((xf : Int) + (l.size : Int) + 1), .ref c2]) hT2
      have aS := a1.trans (a2.trans (a3.trans a4))
      have pm2 := (path_more (z := (xf + l.size, true)) en rfl pt ht2 hl2 hc2).same a4
      have nc2w : c2 ≠ wl := (ne_of_none (a2 _ _ (a1 _ _ ew7)) hc2).symm
      have nc2q : c2 ≠ q0 := (ne_of_none (a2 _ _ (a1 _ _ eq7)) hc2).symm
      refine ⟨wl, _, _, rfl, rfl, aS _ _ ew7, ?_, ?_⟩
      · rw [List.length_reverse, List.length_map]
        exact small1000 (by omega)
      have k8 := (k7.then aS).put (p := wl) (o := .lst ((ts2.map V.ref).reverse ++ [V.ref T2])) in2l
      have eq8 : (upd (upd (upd (upd (upd H7 t2 (.tup [V.int ((xf : Int) + (l.size : Int)), .str "right"])) l2 (.lst [V.ref t2])) c2 (.lst (tups.map V.ref ++ [V.ref t2]))) T2 (.tup [x2, V.int ((xf : Int) + (l.size : Int) + 1), .ref c2])) wl (.lst ((ts2.map V.ref).reverse ++ [V.ref T2]))) q0 = some (.lst ((rows ++ [R]).map V.ref)) := by
        rw [upd_ne nqw]
        exact aS _ _ eq7
      have kB : Stay [wl, q0] H7 (upd (upd (upd (upd (upd H7 t2 (.tup [V.int ((xf : Int) + (l.size : Int)), .str "right"])) l2 (.lst [V.ref t2])) c2 (.lst (tups.map V.ref ++ [V.ref t2]))) T2 (.tup [x2, V.int ((xf : Int) + (l.size : Int) + 1), .ref c2])) wl (.lst ((ts2.map V.ref).reverse ++ [V.ref T2]))) := ((Stay.of aS).put in2l)
      have w2 : WtOk H (upd (upd (upd (upd H7 t2 (.tup [V.int ((xf : Int) + (l.size : Int)), .str "right"])) l2 (.lst [V.ref t2])) c2 (.lst (tups.map V.ref ++ [V.ref t2]))) T2 (.tup [x2, V.int ((xf : Int) + (l.size : Int) + 1), .ref c2])) [wl, q0] T2 ⟨x2, r, xf + l.size + 1, c2, xp ++ [(xf + l.size, true)]⟩ := ⟨by rw [upd_same, en2], hr2, pm2, no2 nc2w nc2q, ((k7.same s4 fr).trans (a1.trans a2)).free hc2⟩
      have hX8 : ∀ x, x ∈ [wl, q0] → ∃ ys, (upd (upd (upd (upd H7 t2 (.tup [V.int ((xf : Int) + (l.size : Int)), .str "right"])) l2 (.lst [V.ref t2])) c2 (.lst (tups.map V.ref ++ [V.ref t2]))) T2 (.tup [x2, V.int ((xf : Int) + (l.size : Int) + 1), .ref c2])) x = some (.lst ys) := fun x hx => by
        rcases List.mem_cons.mp hx with z | z
        · exact ⟨_, z ▸ aS _ _ ew7⟩
        · exact ⟨_, (List.mem_singleton.mp z) ▸ aS _ _ eq7⟩
      have w28 := w2.stay (.at (p := wl) (o := .lst ((ts2.map V.ref).reverse ++ [V.ref T2])) in2l) hX8
      have ew8 : (upd (upd (upd (upd (upd H7 t2 (.tup [V.int ((xf : Int) + (l.size : Int)), .str "right"])) l2 (.lst [V.ref t2])) c2 (.lst (tups.map V.ref ++ [V.ref t2]))) T2 (.tup [x2, V.int ((xf : Int) + (l.size : Int) + 1), .ref c2])) wl (.lst ((ts2.map V.ref).reverse ++ [V.ref T2]))) wl = some (.lst ((ts2.map V.ref).reverse ++ [V.ref T2])) := upd_same
      clear w2 hX8 pm2 a1 a2 a3 a4 aS exb pt ew7
      generalize upd (upd (upd (upd (upd H7 t2 (.tup [V.int ((xf : Int) + (l.size : Int)), .str "right"])) l2 (.lst [V.ref t2])) c2 (.lst (tups.map V.ref ++ [V.ref t2]))) T2 (.tup [x2, V.int ((xf : Int) + (l.size : Int) + 1), .ref c2])) wl (.lst ((ts2.map V.ref).reverse ++ [V.ref T2])) = H8 at k8 eq8 kB w28 ew8 ⊢
      have hX9 : ∀ x, x ∈ [wl, q0] → ∃ ys, H8 x = some (.lst ys) := fun x hx => by
        rcases List.mem_cons.mp hx with z | z
        · exact ⟨_, z ▸ ew8⟩
        · exact ⟨_, (List.mem_singleton.mp z) ▸ eq8⟩
      -- the left part waits
      obtain ⟨tups, exb, pt⟩ := hpa.stay k8 nb hX
      have ltp := Paired.length pt
      refine ⟨_, rfl, .inl ⟨rfl, _, .of ew8⟩, x1, rfl, _, rfl, _, rfl, _, rfl, (by show 2 ≤ sizeLine; decide), fun t1 ht1 => ⟨(by show 1 ≤ sizeLine; decide), fun l1 hl1 => ?_⟩⟩
      have a1 := Same.new (o := .tup [V.int ((xf : Int) + (l.size : Int)), .str "left"]) ht1
      have a2 := Same.new (o := .lst [V.ref t1]) hl1
      refine ⟨xb, l1, _, _, rfl, rfl, a2 _ _ (a1 _ _ exb), upd_same, ?_, fun c1 hc1 => ⟨(by show 3 ≤ sizeLine; decide), fun T1 hT1 => ?_⟩⟩
      · rw [List.length_map]
        show tups.length + 1 ≤ sizeLine
        exact Nat.le_of_lt (small1000 (by omega))
      have a3 := Same.new (o := .lst (tups.map V.ref ++ [V.ref t1])) hc1
      have a4 := Same.new (o := .tup [x1, natV xf, .ref c1]) hT1
      have aS := a1.trans (a2.trans (a3.trans a4))
      have pm1 := (path_more (z := (xf + l.size, false)) en rfl pt ht1 hl1 hc1).same a4
      have nc1w : c1 ≠ wl := (ne_of_none (a2 _ _ (a1 _ _ ew8)) hc1).symm
      have nc1q : c1 ≠ q0 := (ne_of_none (a2 _ _ (a1 _ _ eq8)) hc1).symm
      refine ⟨wl, _, _, rfl, rfl, aS _ _ ew8, ?_, ?_⟩
      · rw [List.length_append, List.length_reverse, List.length_map, List.length_singleton]
        exact small1000 (by omega)
      have kC : Stay [wl, q0] H8 (upd (upd (upd (upd (upd H8 t1 (.tup [V.int ((xf : Int) + (l.size : Int)), .str "left"])) l1 (.lst [V.ref t1])) c1 (.lst (tups.map V.ref ++ [V.ref t1]))) T1 (.tup [x1, natV xf, .ref c1])) wl (.lst ((ts2.map V.ref).reverse ++ [V.ref T2] ++ [V.ref T1]))) := ((Stay.of aS).put in2l)
      have k9 := k8.trans kC
      have kD := kB.trans kC
      have w29 := w28.stay kC hX9
      have hXA : ∀ x, x ∈ [wl, q0] → ∃ ys, (upd (upd (upd (upd H8 t1 (.tup [V.int ((xf : Int) + (l.size : Int)), .str "left"])) l1 (.lst [V.ref t1])) c1 (.lst (tups.map V.ref ++ [V.ref t1]))) T1 (.tup [x1, natV xf, .ref c1])) x = some (.lst ys) := fun x hx => by
        rcases List.mem_cons.mp hx with z | z
        · exact ⟨_, z ▸ aS _ _ ew8⟩
        · exact ⟨_, (List.mem_singleton.mp z) ▸ aS _ _ eq8⟩
      have w1 : WtOk H (upd (upd (upd (upd H8 t1 (.tup [V.int ((xf : Int) + (l.size : Int)), .str "left"])) l1 (.lst [V.ref t1])) c1 (.lst (tups.map V.ref ++ [V.ref t1]))) T1 (.tup [x1, natV xf, .ref c1])) [wl, q0] T1 ⟨x1, l, xf, c1, xp ++ [(xf + l.size, false)]⟩ := ⟨upd_same, hl, pm1, no2 nc1w nc1q, ((k8.same s4 fr).trans (a1.trans a2)).free hc1⟩
      have w19 := w1.stay (.at (p := wl) (o := .lst ((ts2.map V.ref).reverse ++ [V.ref T2] ++ [V.ref T1])) in2l) hXA
      have eq9 : (upd (upd (upd (upd (upd H8 t1 (.tup [V.int ((xf : Int) + (l.size : Int)), .str "left"])) l1 (.lst [V.ref t1])) c1 (.lst (tups.map V.ref ++ [V.ref t1]))) T1 (.tup [x1, natV xf, .ref c1])) wl (.lst ((ts2.map V.ref).reverse ++ [V.ref T2] ++ [V.ref T1]))) q0 = some (.lst ((rows ++ [R]).map V.ref)) := by
        rw [upd_ne nqw]
        exact aS _ _ eq8
      have ew9 : (upd (upd (upd (upd (upd H8 t1 (.tup [V.int ((xf : Int) + (l.size : Int)), .str "left"])) l1 (.lst [V.ref t1])) c1 (.lst (tups.map V.ref ++ [V.ref t1]))) T1 (.tup [x1, natV xf, .ref c1])) wl (.lst ((ts2.map V.ref).reverse ++ [V.ref T2] ++ [V.ref T1]))) wl = some (.lst ((T1 :: T2 :: ts2).map V.ref).reverse) := by
        rw [upd_same, List.map_cons, List.map_cons, List.reverse_cons, List.reverse_cons]
      generalize upd (upd (upd (upd (upd H8 t1 (.tup [V.int ((xf : Int) + (l.size : Int)), .str "left"])) l1 (.lst [V.ref t1])) c1 (.lst (tups.map V.ref ++ [V.ref t1]))) T1 (.tup [x1, natV xf, .ref c1])) wl (.lst ((ts2.map V.ref).reverse ++ [V.ref T2] ++ [V.ref T1])) = H9 at kC k9 kD w29 w19 eq9 ew9 ⊢
      have eR9 := kD _ _ (no2 nRw nRq) eR7
      refine ⟨wtTurns (⟨x1, l, xf, c1, xp ++ [(xf + l.size, false)]⟩ :: ⟨x2, r, xf + l.size + 1, c2, xp ++ [(xf + l.size, true)]⟩ :: ws2), ?_, T1 :: T2 :: ts2, ⟨x1, l, xf, c1, xp ++ [(xf + l.size, false)]⟩ :: ⟨x2, r, xf + l.size + 1, c2, xp ++ [(xf + l.size, true)]⟩ :: ws2, rows ++ [R], dn ++ [(xf + l.size, xp)], _, _, _, _, _, _, rfl, k9.same s4 fr, ew9, .cons w19 (.cons w29 (Paired.mapP hxs fun a z h => h.stay k9 hX)), eq9, Paired.app (Paired.mapP pd fun a z h => h.stay k9 hX) (.cons ⟨xb, eR9, hpa.stay k9 nb hX, nb, fb⟩ .nil), ?_, fun x hx => ?_, ?_, ?_, rfl⟩
      · show 2 * l.size + 1 + (2 * r.size + 1 + wtTurns ws2) < 2 * (l.size + 1 + r.size) + 1 + wtTurns ws2
        omega
      · rw [hpre]
        show dn ++ (((xf + l.size, xp) :: (pre l xf (xp ++ [(xf + l.size, false)]) ++ pre r (xf + l.size + 1) (xp ++ [(xf + l.size, true)]))) ++ wtPre ws2) = dn ++ [(xf + l.size, xp)] ++ (pre l xf (xp ++ [(xf + l.size, false)]) ++ (pre r (xf + l.size + 1) (xp ++ [(xf + l.size, true)]) ++ wtPre ws2))
        simp only [List.append_assoc, List.cons_append, List.nil_append]
      · rcases List.mem_cons.mp hx with z | z
        · rw [z]
          show (xp ++ [(xf + l.size, false)]).length + l.size ≤ t.size
          rw [List.length_append, List.length_singleton]
          omega
        · rcases List.mem_cons.mp z with z | z
          · rw [z]
            show (xp ++ [(xf + l.size, true)]).length + r.size ≤ t.size
            rw [List.length_append, List.length_singleton]
            omega
          · exact hin2 x z
      · rw [List.length_append, List.length_singleton]
        show dn.length + 1 + (l.size + (r.size + wtSizes ws2)) ≤ t.size
        omega
      · show ts2.length + 1 + 1 + (l.size + (r.size + wtSizes ws2)) ≤ t.size + 1
        omega
/-! ### paths_of -/
theorem sc_paths : FnScope n_paths_of ["tree"] (defScope s_paths_of) := ⟨rfl, rfl, rfl, by decide +kernel, rfl, by decide +kernel, by decide +kernel⟩
def spPaths : Sp := fun vs H Q _ => ∃ (v : V) (t : Tr), vs = [v] ∧ TrAt H v t ∧ t.size ≤ 300 ∧ ∀ (H' : Hp) (q : Addr), Same H H' → H q = none → WaysAt H' q t → Q (.ref q) H'
theorem ok_paths (B : Bl mg) (C : Df P w K mg base "count_nodes" 1 ["tree"] spCount) (W : Df P w K mg base "walk" 2 ["tree"] spWalk) (a : At K mg "paths_of" s_paths_of) : Df P w K mg base "paths_of" 3 ["tree"] spPaths := by
  refine Df.mk' a sc_paths (fun vs H Q E h => ?_) (fun _ _ _ _ _ _ us hl => match us, hl with | [_], _ => rfl) (fun f cdv A outer s H vs Q E hr h => ?_)
  · obtain ⟨v, t, rfl, _⟩ := h
    rfl
  obtain ⟨v, t, rfl, ht, hz, q⟩ := h
  refine ⟨_, (pss_cons (ps_setLc (i := 1) (own := [("_", 4)]) (g := (gName 4)) (tt := tYes) (by rfl) sc_paths.nd rfl rfl (sw_true rfl rfl rfl (by decide +kernel)) (pi_range1 (by rfl) B.range (pa_cons (pe_df C (hr.mono (by decide)) (pa_cons (pv 0) pa_nil)) pa_nil)) (blkOk_by (N := n_paths_of) (sc := defScope s_paths_of) (by decide +kernel)) (fun _ _ _ _ _ => (pg_name (i := 4) sc_paths.nd rfl (.inl rfl))) (fun _ _ _ _ _ => pts_nil) (fun _ _ _ _ _ => (pe_lst pa_nil)))
 (pss_cons (ps_for PassesOwn.never rfl (pi_list (pe_df W hr (pa_cons (pv 0) pa_nil))) (pg_tup rfl (pgs_cons (pg_name (i := 2) sc_paths.nd rfl (.inl rfl)) (pgs_cons (pg_name (i := 3) sc_paths.nd rfl (.inl rfl)) pgs_nil))) (pss_one (ps_asg (pv 3) (pg_sub (pv 1) (pv 2) set_list))))
 (pss_one (ps_ret (pv 1))))), ?_⟩
  -- an empty list for each node
  refine ⟨v, rfl, v, t, rfl, ht, by omega, fun H1 s1 => ⟨_, rfl, by omega, by omega, fun q0 hq0 => ?_⟩⟩
  refine lc_range (lo := 0) (n := t.size) (fun i H' => ∃ rows : List Addr, Same H H' ∧ H' q0 = some (.lst (rows.map V.ref)) ∧ rows.length = i ∧ (∀ r, r ∈ rows → r ≠ q0)) ⟨[], s1.trans (Same.new hq0), upd_same, rfl, fun r hr => by cases hr⟩ (fun i H2 hi h2 => ?_) (fun H2 h2 => ?_)
  · obtain ⟨rows, s2, e2, l2, n2⟩ := h2
    refine ⟨rfl, ?_⟩
    refine ⟨Nat.zero_le _, fun r hr2 => ⟨_, (Same.new hr2) _ _ e2, ?_, ?_⟩⟩
    · rw [List.length_map]
      exact small1000 (by omega)
    · have nr : q0 ≠ r := ne_of_none e2 hr2
      have hq : H q0 = none := s1.free hq0
      refine ⟨rows ++ [r], fun b o e => ?_, ?_, ?_, fun x hx => ?_⟩
      · rw [upd_ne (ne_of_none e hq)]
        exact (Same.new hr2) _ _ (s2 _ _ e)
      · rw [upd_same, List.map_append]
        rfl
      · rw [List.length_append, List.length_singleton, l2]
      · rcases List.mem_append.mp hx with z | z
        · exact n2 x z
        · rw [List.mem_singleton.mp z]
          exact nr.symm
  · obtain ⟨rows, s2, e2, l2, n2⟩ := h2
    have hq : H q0 = none := s1.free hq0
    refine ⟨v, rfl, v, t, rfl, ht.same s2, hz, fun H3 u rs s3 nu eu pr => ?_⟩
    have nuq : u ≠ q0 := (ne_of_none e2 nu).symm
    have lrs : rs.length = t.size := by rw [Paired.length pr, pre_len]
    refine ⟨u, rfl, ⟨_, .of eu⟩, for_list (xs := rs.map V.ref) (fun k σ H' => ∃ (y2 y3 : Option V) (rows : List Addr), σ = [some v, some (.ref q0), y2, y3, none] ∧ Stay [q0] H3 H' ∧ H' q0 = some (.lst (rows.map V.ref)) ∧ rows.length = t.size ∧ ∀ n s, (n, s) ∈ (pre t 0 []).take k → ∃ r, rows[n]? = some r ∧ PathAt H' r s ∧ r ≠ q0)
      ⟨_, _, rows, rfl, .refl _ _, s3 _ _ e2, l2, fun n s h => by cases h⟩ (fun k σ H4 _ h4 => ?_) (fun k x σ H4 hx h4 => ?_) (fun σ H4 h4 => ?_)⟩
    · obtain ⟨_, _, _, _, k4, _⟩ := h4
      exact .of (k4 _ _ (no1 nuq) eu)
    · obtain ⟨y2, y3, rows, rfl, k4, e4, l4, h4⟩ := h4
      rw [List.getElem?_map] at hx
      obtain ⟨R, hR, rfl⟩ := Option.map_eq_some_iff.mp hx
      obtain ⟨⟨n, p⟩, hz2, b, eR, pb, nb, fb⟩ := Paired.getL pr hR
      have hX : ∀ x, x ∈ [q0] → ∃ ys, H3 x = some (.lst ys) := fun x hx => ⟨_, (List.mem_singleton.mp hx) ▸ s3 _ _ e2⟩
      have nRq : R ≠ q0 := tup_ne eR (s3 _ _ e2)
      have hn := pre_in t 0 [] n p (List.mem_of_getElem? hz2)
      have nbq : b ≠ q0 := (ne_of_none e2 fb).symm
      refine ⟨R, _, rfl, .of (k4 _ _ (no1 nRq) eR), rfl, _, _, rfl, _, [], rfl, rfl, ?_⟩
      refine ⟨_, rfl, _, rfl, _, rfl, q0, _, _, n, rfl, rfl, e4, ?_, ?_⟩
      · rw [List.length_map, l4]
        exact ixN_in (n := t.size) (i := (n : Int)) (by omega) (by omega)
      refine ⟨_, _, rows.set n b, rfl, k4.put in1, ?_, ?_, fun m s h => ?_⟩
      · rw [upd_same, List.map_set]
      · rw [List.length_set, l4]
      have pb4 : PathAt (upd H4 q0 (.lst ((rows.map V.ref).set n (.ref b)))) b p := pb.stay (k4.put in1) (no1 nbq) hX
      rw [List.take_add_one, hz2] at h
      have key : ∀ s, s = pOf t 0 n → ∃ r, (rows.set n b)[n]? = some r ∧ PathAt (upd H4 q0 (.lst ((rows.map V.ref).set n (.ref b)))) r s ∧ r ≠ q0 := fun s es => by
        refine ⟨b, List.getElem?_set_self (by omega), ?_, nbq⟩
        rw [es, ← hn.2.2.trans (List.nil_append _)]
        exact pb4
      rcases List.mem_append.mp h with h | h
      · have e0 := (pre_in t 0 [] m s (List.mem_of_mem_take h)).2.2.trans (List.nil_append _)
        by_cases c : m = n
        · rw [c] at e0 ⊢
          exact key s e0
        · obtain ⟨r, g1, g2, g3⟩ := h4 m s h
          exact ⟨r, by rw [List.getElem?_set_ne (Ne.symm c)]; exact g1, g2.put g3 e4, g3⟩
      · obtain ⟨rfl, rfl⟩ := Prod.mk.inj (List.mem_singleton.mp h)
        exact key _ (hn.2.2.trans (List.nil_append _))
    · obtain ⟨y2, y3, rows, rfl, k4, e4, l4, h4⟩ := h4
      refine ⟨_, rfl, q H4 q0 (Stay.same (X := [q0]) (s2.trans s3) (fun x hx => (List.mem_singleton.mp hx) ▸ hq) k4) hq ⟨rows, e4, l4, fun i r hr2 => ?_⟩⟩
      have hi : i < t.size := by rw [← l4]; exact (List.getElem?_eq_some_iff.mp hr2).1
      have hm := pre_mem t 0 [] i (Nat.zero_le _) (by omega)
      rw [List.nil_append] at hm
      obtain ⟨r', g1, g2, _⟩ := h4 i (pOf t 0 i) (by
        rw [List.length_map, lrs, ← pre_len t 0 [], List.take_length]
        exact hm)
      cases hr2.symm.trans g1
      exact g2
end
end HSP
namespace HSP
open PySem PySem.Spec PyProof.Rows L2
section
variable {P : Program} {w : World} {K : PySem.W.Frag} {mg : Str → Option Value} {base : Heap}
/-! ### check_row -/
theorem sc_chkR : FnScope n_check_row ["row"] (defScope s_check_row) := ⟨rfl, rfl, rfl, by decide +kernel, rfl, by decide +kernel, by decide +kernel⟩
def spChkR : Sp := fun vs H Q _ => ∃ (a : Addr) (ns : List Int), vs = [.ref a] ∧ H a = some (.lst (ns.map V.int)) ∧ ∀ H', Same H H' → Q .non H'
theorem ok_chkR (B : Bl mg) (W1 : Df P w K mg base "is_whole" 1 ["thing"] spWhole) (a : At K mg "check_row" s_check_row) : Df P w K mg base "check_row" 2 ["row"] spChkR := by
  refine Df.mk' a sc_chkR (fun vs H Q E h => ?_) (fun _ _ _ _ _ _ us hl => match us, hl with | [_], _ => rfl) (fun f cdv A outer s H vs Q E hr h => ?_)
  · obtain ⟨a, ns, rfl, _⟩ := h
    rfl
  obtain ⟨a, ns, rfl, ha, q⟩ := h
  refine ⟨_, (pss_cons (ps_if (pt_not (pt_val (pe_callB call_isi (by rfl) B.isinstance (by decide +kernel) (pa_cons (pv 0) (pa_cons (pe_bltn (v := .ty "list") (by rfl) B.list (by decide +kernel) rfl) pa_nil))))) (pss_one ps_never) pss_nil)
 (pss_one (ps_for PassesOwn.never rfl (pi_enum (by rfl) B.enumerate (pa_cons (pv 0) pa_nil)) (pg_tup rfl (pgs_cons (pg_name (i := 1) sc_chkR.nd rfl (.inl rfl)) (pgs_cons (pg_name (i := 2) sc_chkR.nd rfl (.inl rfl)) pgs_nil))) (pss_one (ps_if (pt_not (pt_val (pe_df W1 hr (pa_cons (pv 2) pa_nil)))) (pss_one ps_never) pss_nil))))), ?_⟩
  refine ⟨_, rfl, _, _, _, _, true, rfl, .ty "list", .base (.lst ha), rfl, true, rfl, iteF ?_⟩
  refine ⟨.ref a, rfl, a, ns.map V.int, rfl, .of ha, ?_⟩
  refine for_it (walk_enum (K := K) (a := a) (xs := ns.map V.int)) (fun _ σ H3 => Same H H3 ∧ ∃ y2 y3, σ = [some (.ref a), y2, y3]) ⟨Same.refl _, none, none, rfl⟩ (fun i σ H3 _ h3 => .of (h3.1 _ _ ha)) (fun i x σ H3 H4 hi h3 hy => ?_) (fun σ H3 h3 => q _ h3.1)
  obtain ⟨s3, y2, y3, rfl⟩ := h3
  obtain ⟨p, x1, x2, rfl, np, rfl, ex1, ex2⟩ := hy
  rw [List.length_map] at hi
  have g1 : (ns.map V.int)[i]? = some (.int ns[i]) := by
    rw [List.getElem?_map, List.getElem?_eq_getElem hi]
    rfl
  cases g1.symm.trans ex2
  refine ⟨p, [x1, .int ns[i]], rfl, .of upd_same, rfl, x1, _, rfl, _, [], rfl, rfl, ?_⟩
  refine ⟨_, rfl, _, rfl, true, rfl, iteF ?_⟩
  exact ⟨s3.trans (Same.new np), _, _, rfl⟩
end
end HSP
namespace HSP
open PySem PySem.Spec PyProof.Rows L2
section
variable {P : Program} {w : World} {K : PySem.W.Frag} {mg : Str → Option Value} {base : Heap}
/-! ### check_values -/
theorem sc_chkV : FnScope n_check_values ["tree", "values"] (defScope s_check_values) := ⟨rfl, rfl, rfl, by decide +kernel, rfl, by decide +kernel, by decide +kernel⟩
def spChkV : Sp := fun vs H Q _ => ∃ (v : V) (t : Tr) (a : Addr) (ns : List Int), vs = [v, .ref a] ∧ TrAt H v t ∧ t.size ≤ 1000 ∧ H a = some (.lst (ns.map V.int)) ∧ ns.length = t.size ∧ ∀ H', Same H H' → Q .non H'
theorem ok_chkV (B : Bl mg) (R : Df P w K mg base "check_row" 2 ["row"] spChkR) (C : Df P w K mg base "count_nodes" 1 ["tree"] spCount) (T : Df P w K mg base "check_tree" 2 ["tree"] spChkT)
    (a : At K mg "check_values" s_check_values) : Df P w K mg base "check_values" 3 ["tree", "values"] spChkV := by
  refine Df.mk' a sc_chkV (fun vs H Q E h => ?_) (fun _ _ _ _ _ _ us hl => match us, hl with | [_, _], _ => rfl) (fun f cdv A outer s H vs Q E hr h => ?_)
  · obtain ⟨v, t, a, ns, rfl, _⟩ := h
    rfl
  obtain ⟨v, t, a, ns, rfl, ht, hz, ha, hn, q⟩ := h
  refine ⟨_, (pss_cons (ps_expr (pe_df T hr (pa_cons (pv 0) pa_nil)))
 (pss_cons (ps_if (PW.pt (pw_and (pt_val (pe_callB call_isi (by rfl) B.isinstance (by decide +kernel) (pa_cons (pv 1) (pa_cons (pe_bltn (v := .ty "list") (by rfl) B.list (by decide +kernel) rfl) pa_nil)))) (pw_and1 (pt_cmpR op_ne (pe_callB call_len_seq (by rfl) B.len PySem.boot_len (pa_cons (pv 1) pa_nil)) (pe_df C (hr.mono (by decide)) (pa_cons (pv 0) pa_nil)) (nomark _))))) (pss_one ps_never) pss_nil)
 (pss_one (ps_expr (pe_df R hr (pa_cons (pv 1) pa_nil)))))), ?_⟩
  refine ⟨v, rfl, v, t, rfl, ht, hz, fun H1 s1 => ?_⟩
  refine ⟨_, rfl, _, _, _, _, true, rfl, .ty "list", .base (.lst (s1 _ _ ha)), rfl, true, rfl, iteT ?_⟩
  refine ⟨_, rfl, a, _, rfl, .inl (.of (s1 _ _ ha)), v, rfl, v, t, rfl, ht.same s1, hz, fun H2 s2 => ?_⟩
  have e1 : V.int (((ns.map V.int).length : Nat) : Int) = V.int ((t.size : Nat) : Int) := by rw [List.length_map, hn]
  refine ⟨rfl, _, rfl, ?_⟩
  rw [e1, decide_eq_true rfl]
  refine iteF ?_
  exact ⟨.ref a, rfl, a, ns, rfl, s2 _ _ (s1 _ _ ha), fun H3 s3 => q _ ((s1.trans s2).trans s3)⟩
end
end HSP
namespace HSP
open PySem PySem.Spec PyProof.Rows L2
/-! ### intervals and labels -/
/-- the bounds that a path gives -/
def lowOf (g : Nat → Int) : List (Nat × Bool) → Option Int
  | [] => none
  | (n, true) :: r => match lowOf g r with
    | none => some (g n)
    | some m => some (max (g n) m)
  | (_, false) :: r => lowOf g r
def highOf (g : Nat → Int) : List (Nat × Bool) → Option Int
  | [] => none
  | (n, false) :: r => match highOf g r with
    | none => some (g n)
    | some m => some (min (g n) m)
  | (_, true) :: r => highOf g r
/-- the values above on one side -/
def above (g : Nat → Int) (b : Bool) (p : List (Nat × Bool)) : List Int := (p.filter fun z => z.2 == b).map fun z => g z.1
def optV : Option Int → V
  | none => .non
  | some i => .int i
theorem low_spec (g : Nat → Int) : ∀ p : List (Nat × Bool), (above g true p = [] → lowOf g p = none) ∧ ∀ m, m ∈ above g true p → (∀ y, y ∈ above g true p → y ≤ m) → lowOf g p = some m
  | [] => ⟨fun _ => rfl, fun m hm => by cases hm⟩
  | (n, false) :: r => low_spec g r
  | (n, true) :: r => by
    obtain ⟨h1, h2⟩ := low_spec g r
    have e : above g true ((n, true) :: r) = g n :: above g true r := rfl
    have el : lowOf g ((n, true) :: r) = match lowOf g r with | none => some (g n) | some m => some (max (g n) m) := rfl
    rw [e]
    refine ⟨fun z => absurd z (List.cons_ne_nil _ _), fun m hm hle => ?_⟩
    by_cases c : above g true r = []
    · rw [el, h1 c]
      rw [c] at hm
      exact congrArg some (List.mem_singleton.mp hm).symm
    · obtain ⟨x, hx, hxm⟩ : ∃ x, x ∈ above g true r ∧ ∀ y, y ∈ above g true r → y ≤ x := by
        cases q : above g true r with
        | nil => exact absurd q c
        | cons y ys => exact ⟨_, (maxOf_spec ys y).1, (maxOf_spec ys y).2⟩
      rw [el, h2 x hx hxm]
      have a1 := hle (g n) List.mem_cons_self
      have a2 := hle x (List.mem_cons_of_mem _ hx)
      rcases List.mem_cons.mp hm with z | z
      · exact congrArg some (by omega)
      · have a3 := hxm m z
        exact congrArg some (by omega)
theorem high_spec (g : Nat → Int) : ∀ p : List (Nat × Bool), (above g false p = [] → highOf g p = none) ∧ ∀ m, m ∈ above g false p → (∀ y, y ∈ above g false p → m ≤ y) → highOf g p = some m
  | [] => ⟨fun _ => rfl, fun m hm => by cases hm⟩
  | (n, true) :: r => high_spec g r
  | (n, false) :: r => by
    obtain ⟨h1, h2⟩ := high_spec g r
    have e : above g false ((n, false) :: r) = g n :: above g false r := rfl
    have el : highOf g ((n, false) :: r) = match highOf g r with | none => some (g n) | some m => some (min (g n) m) := rfl
    rw [e]
    refine ⟨fun z => absurd z (List.cons_ne_nil _ _), fun m hm hle => ?_⟩
    by_cases c : above g false r = []
    · rw [el, h1 c]
      rw [c] at hm
      exact congrArg some (List.mem_singleton.mp hm).symm
    · obtain ⟨x, hx, hxm⟩ : ∃ x, x ∈ above g false r ∧ ∀ y, y ∈ above g false r → x ≤ y := by
        cases q : above g false r with
        | nil => exact absurd q c
        | cons y ys => exact ⟨_, (minOf_spec ys y).1, (minOf_spec ys y).2⟩
      rw [el, h2 x hx hxm]
      have a1 := hle (g n) List.mem_cons_self
      have a2 := hle x (List.mem_cons_of_mem _ hx)
      rcases List.mem_cons.mp hm with z | z
      · exact congrArg some (by omega)
      · have a3 := hxm m z
        exact congrArg some (by omega)
/-- the interval, none if it is empty -/
def bndOf (g : Nat → Int) (p : List (Nat × Bool)) : Option (Option Int × Option Int) :=
  match lowOf g p, highOf g p with
  | some a, some b => if a ≥ b then none else some (some a, some b)
  | a, b => some (a, b)
def BndAt (H : Hp) (v : V) (b : Option (Option Int × Option Int)) : Prop := match b with
  | none => v = .non
  | some (x, y) => ∃ e, v = .ref e ∧ H e = some (.tup [optV x, optV y])
inductive Lb where
  | dead | found | low | high
  deriving DecidableEq
def Lb.str : Lb → Str
  | .dead => "dead"
  | .found => "found"
  | .low => "low"
  | .high => "high"
def lbOf (b : Option (Option Int × Option Int)) (x : Int) : Lb := match b with
  | none => .dead
  | some (lo, hi) => match lo with
    | some l => if x ≤ l then .low else match hi with
      | some h => if x ≥ h then .high else .found
      | none => .found
    | none => match hi with
      | some h => if x ≥ h then .high else .found
      | none => .found
section
variable {P : Program} {w : World} {K : PySem.W.Frag} {mg : Str → Option Value} {base : Heap}
theorem sc_label : FnScope n_label_of ["bounds", "value"] (defScope s_label_of) := ⟨rfl, rfl, rfl, by decide +kernel, rfl, by decide +kernel, by decide +kernel⟩
def spLabel : Sp := fun vs H Q _ => ∃ (v : V) (b : Option (Option Int × Option Int)) (x : Int), vs = [v, .int x] ∧ BndAt H v b ∧ Q (.str (lbOf b x).str) H
theorem ok_label (a : At K mg "label_of" s_label_of) : Df P w K mg base "label_of" 1 ["bounds", "value"] spLabel := by
  refine Df.mk' a sc_label (fun vs H Q E h => ?_) (fun _ _ _ _ _ _ us hl => match us, hl with | [_, _], _ => rfl) (fun f cdv A outer s H vs Q E hr h => ?_)
  · obtain ⟨v, b, x, rfl, _⟩ := h
    rfl
  obtain ⟨v, b, x, rfl, hb, q⟩ := h
  refine ⟨_, (pss_cons (ps_if (pt_cmpR op_isN (pv 0) pe_non (nomark _)) (pss_one (ps_ret pe_str)) pss_nil)
 (pss_cons (ps_asg (pv 0) (pg_tup rfl (pgs_cons (pg_name (i := 2) sc_label.nd rfl (.inl rfl)) (pgs_cons (pg_name (i := 3) sc_label.nd rfl (.inl rfl)) pgs_nil))))
 (pss_cons (ps_if (PW.pt (pw_and (pt_cmpR op_notN (pv 2) pe_non (nomark _)) (pw_and1 (pt_cmpR op_le (pv 1) (pv 2) (nomark _))))) (pss_one (ps_ret pe_str)) pss_nil)
 (pss_cons (ps_if (PW.pt (pw_and (pt_cmpR op_notN (pv 3) pe_non (nomark _)) (pw_and1 (pt_cmpR op_ge (pv 1) (pv 3) (nomark _))))) (pss_one (ps_ret pe_str)) pss_nil)
 (pss_one (ps_ret pe_str)))))), ?_⟩
  refine ⟨v, rfl, rfl, _, rfl, ?_⟩
  match b, hb, q with
  | none, hb, q =>
    have e : v = .non := hb
    rw [e]
    exact iteT q
  | some (lo, hi), ⟨e, e1, e2⟩, q =>
    subst e1
    refine iteF ?_
    refine ⟨_, rfl, e, _, rfl, .of e2, rfl, _, _, rfl, _, [], rfl, rfl, ?_⟩
    refine ⟨_, rfl, rfl, _, rfl, ?_⟩
    cases lo with
    | none =>
      refine iteF (iteF ?_)
      refine ⟨_, rfl, rfl, _, rfl, ?_⟩
      cases hi with
      | none => exact iteF (iteF q)
      | some h =>
        have e0 : lbOf (some (none, some h)) x = if x ≥ h then .high else .found := rfl
        rw [e0] at q
        refine iteT ⟨_, rfl, _, rfl, _, _, rfl, rfl, _, rfl, ite2 (fun c => ?_) (fun c => ?_)⟩
        · rw [if_pos (of_decide_eq_true c)] at q
          exact q
        · rw [if_neg (fun z => c (decide_eq_true z))] at q
          exact q
    | some l =>
      have e0 : lbOf (some (some l, hi)) x = if x ≤ l then .low else lbOf (some (none, hi)) x := rfl
      rw [e0] at q
      refine iteT ⟨_, rfl, _, rfl, _, _, rfl, rfl, _, rfl, ite2 (fun c => ?_) (fun c => ?_)⟩
      · rw [if_pos (of_decide_eq_true c)] at q
        exact q
      · rw [if_neg (fun z => c (decide_eq_true z))] at q
        refine ⟨_, rfl, rfl, _, rfl, ?_⟩
        cases hi with
        | none => exact iteF (iteF q)
        | some h =>
          have e1 : lbOf (some (none, some h)) x = if x ≥ h then .high else .found := rfl
          rw [e1] at q
          refine iteT ⟨_, rfl, _, rfl, _, _, rfl, rfl, _, rfl, ite2 (fun c => ?_) (fun c => ?_)⟩
          · rw [if_pos (of_decide_eq_true c)] at q
            exact q
          · rw [if_neg (fun z => c (decide_eq_true z))] at q
            exact q
/-! ### bounds_below -/
theorem above_snoc (g : Nat → Int) (b : Bool) {p : List (Nat × Bool)} {i : Nat} {z : Nat × Bool} (h : p[i]? = some z) : above g b (p.take (i + 1)) = above g b (p.take i) ++ if z.2 == b then [g z.1] else [] := by
  unfold above
  rw [List.take_add_one, h]
  show List.map _ (List.filter _ (p.take i ++ [z])) = _
  rw [List.filter_append, List.map_append]
  congr 1
  unfold List.filter
  cases z.2 == b <;> rfl
theorem above_len (g : Nat → Int) (b : Bool) (p : List (Nat × Bool)) : (above g b p).length ≤ p.length := by
  unfold above
  rw [List.length_map]
  exact List.length_filter_le _ _
theorem sc_bounds : FnScope n_bounds_below ["values", "above"] (defScope s_bounds_below) := ⟨rfl, rfl, rfl, by decide +kernel, rfl, by decide +kernel, by decide +kernel⟩
def spBounds : Sp := fun vs H Q _ => ∃ (a r : Addr) (ns : List Int) (p : List (Nat × Bool)), vs = [.ref a, .ref r] ∧ H a = some (.lst (ns.map V.int)) ∧ PathAt H r p ∧ p.length ≤ 900 ∧ (∀ z, z ∈ p → z.1 < ns.length) ∧ ∀ (H' : Hp) (v : V), Same H H' → BndAt H' v (bndOf (valAt ns) p) → Q v H'
theorem ok_bounds (B : Bl mg) (a : At K mg "bounds_below" s_bounds_below) : Df P w K mg base "bounds_below" 1 ["values", "above"] spBounds := by
  refine Df.mk' a sc_bounds (fun vs H Q E h => ?_) (fun _ _ _ _ _ _ us hl => match us, hl with | [_, _], _ => rfl) (fun f cdv A outer s H vs Q E hr h => ?_)
  · obtain ⟨a, r, ns, p, rfl, _⟩ := h
    rfl
  obtain ⟨a, r, ns, p, rfl, ha, ⟨tups, er, pt⟩, hl, hn, q⟩ := h
  refine ⟨_, (C8.pss_cut (ps_set (i := 2) sc_bounds.nd rfl (.inl rfl) (pe_callBK (crk_maxN rfl hr.units) (by rfl) B.max (by decide +kernel) (pa_cons (pe_lc (own := [("node", 4), ("side", 5)]) (g := (gTup K 2 (gCons (gName 4) (gCons (gName 5) gNil)))) (by rfl) sc_bounds.nd (pi_list (pv 1)) (blkOk_by (N := n_bounds_below) (sc := defScope s_bounds_below) (by decide +kernel)) (fun _ _ _ _ _ => (pg_tup rfl (pgs_cons (pg_name (i := 4) sc_bounds.nd rfl (.inl rfl)) (pgs_cons (pg_name (i := 5) sc_bounds.nd rfl (.inl rfl)) pgs_nil)))) (fun _ _ _ _ _ => (pts_one (pt_cmpR op_eq (pv 5) pe_str (nomark _)))) (fun _ _ _ _ _ => (pe_ix (show IxR _ (rIxL K) from ix_list) (pv 0) (pv 4) (fun _ _ => rfl)))) pa_nil) (pk_cons pe_non pk_nil)))
 (C8.pss_cut (ps_set (i := 3) sc_bounds.nd rfl (.inl rfl) (pe_callBK (crk_minN rfl hr.units) (by rfl) B.min (by decide +kernel) (pa_cons (pe_lc (own := [("node", 4), ("side", 5)]) (g := (gTup K 2 (gCons (gName 4) (gCons (gName 5) gNil)))) (by rfl) sc_bounds.nd (pi_list (pv 1)) (blkOk_by (N := n_bounds_below) (sc := defScope s_bounds_below) (by decide +kernel)) (fun _ _ _ _ _ => (pg_tup rfl (pgs_cons (pg_name (i := 4) sc_bounds.nd rfl (.inl rfl)) (pgs_cons (pg_name (i := 5) sc_bounds.nd rfl (.inl rfl)) pgs_nil)))) (fun _ _ _ _ _ => (pts_one (pt_cmpR op_eq (pv 5) pe_str (nomark _)))) (fun _ _ _ _ _ => (pe_ix (show IxR _ (rIxL K) from ix_list) (pv 0) (pv 4) (fun _ _ => rfl)))) pa_nil) (pk_cons pe_non pk_nil)))
 (pss_cons (ps_if (PW.pt (pw_and (pt_cmpR op_notN (pv 2) pe_non (nomark _)) (pw_and (pt_cmpR op_notN (pv 3) pe_non (nomark _)) (pw_and1 (pt_cmpR op_ge (pv 2) (pv 3) (nomark _)))))) (pss_one (ps_ret pe_non)) pss_nil)
 (pss_one (ps_ret (pe_tup (pa_cons (pv 2) (pa_cons (pv 3) pa_nil)))))))), ?_⟩
  have lt := Paired.length pt
  refine ⟨fun σ' H' => σ' = [some (.ref a), some (.ref r), some (optV (lowOf (valAt ns) p)), none, none, none] ∧ Same H H', ?_, ?_⟩
  · have s0 := Same.refl H
    refine ⟨_, rfl, r, rfl, ⟨_, .of (s0 _ _ er)⟩, fun D hD => ?_⟩
    refine lc_list (xs := tups.map V.ref) (fun i H' => Same H H' ∧ H' D = some (.lst ((above (valAt ns) true (p.take i)).map V.int))) ⟨Same.new hD, upd_same⟩ (fun i H2 _ h2 => .of (h2.1 _ _ (s0 _ _ er))) (fun i x H2 hx h2 => ?_) (fun H2 h2 => ?_)
    · obtain ⟨s2, e2⟩ := h2
      rw [List.getElem?_map] at hx
      obtain ⟨T, hT, rfl⟩ := Option.map_eq_some_iff.mp hx
      obtain ⟨z, hz, eT⟩ := Paired.getL pt hT
      have hnz := hn z (List.mem_of_getElem? hz)
      refine ⟨T, _, rfl, .of (s2 _ _ (s0 _ _ eT)), rfl, _, _, rfl, _, [], rfl, rfl, rfl, ?_⟩
      rw [above_snoc _ _ hz]
      obtain ⟨n, b⟩ := z
      cases b with
      | false =>
        refine ⟨_, rfl, rfl, _, rfl, ite_no (show ¬ (V.str "left" = V.str "right") by decide +kernel) ⟨s2, ?_⟩⟩
        show H2 D = some (.lst (((above (valAt ns) true (p.take i)) ++ []).map V.int))
        rw [List.append_nil]
        exact e2
      | true =>
        refine ⟨_, rfl, rfl, _, rfl, ite_yes rfl ?_⟩
        refine ⟨_, rfl, _, rfl, a, _, _, _, rfl, rfl, .of (s2 _ _ (s0 _ _ ha)), at_of (j := n) rfl (valAt_get hnz), _, e2, ?_, fun c o e => ?_, ?_⟩
        · rw [List.length_map]
          have q1 := above_len (valAt ns) true (p.take i)
          rw [List.length_take] at q1
          exact small1000 (by omega)
        · rw [upd_ne (ne_of_none e hD)]
          exact s2 _ _ e
        · rw [upd_same, List.map_append]
          rfl
    · obtain ⟨s2, e2⟩ := h2
      rw [List.length_map, lt, List.take_length] at e2
      obtain ⟨lo1, lo2⟩ := low_spec (valAt ns) p
      refine ⟨D, _, rfl, rfl, e2, fun e0 => ?_, fun m hm hle => ?_⟩
      · exact ⟨by rw [lo1 e0]; rfl, s0.trans s2⟩
      · exact ⟨by rw [lo2 m hm hle]; rfl, s0.trans s2⟩
  rintro σ' H0 ⟨rfl, s0⟩
  refine ⟨fun σ' H' => σ' = [some (.ref a), some (.ref r), some (optV (lowOf (valAt ns) p)), some (optV (highOf (valAt ns) p)), none, none] ∧ Same H H', ?_, ?_⟩
  · refine ⟨_, rfl, r, rfl, ⟨_, .of (s0 _ _ er)⟩, fun D hD => ?_⟩
    refine lc_list (xs := tups.map V.ref) (fun i H' => Same H0 H' ∧ H' D = some (.lst ((above (valAt ns) false (p.take i)).map V.int))) ⟨Same.new hD, upd_same⟩ (fun i H2 _ h2 => .of (h2.1 _ _ (s0 _ _ er))) (fun i x H2 hx h2 => ?_) (fun H2 h2 => ?_)
    · obtain ⟨s2, e2⟩ := h2
      rw [List.getElem?_map] at hx
      obtain ⟨T, hT, rfl⟩ := Option.map_eq_some_iff.mp hx
      obtain ⟨z, hz, eT⟩ := Paired.getL pt hT
      have hnz := hn z (List.mem_of_getElem? hz)
      refine ⟨T, _, rfl, .of (s2 _ _ (s0 _ _ eT)), rfl, _, _, rfl, _, [], rfl, rfl, rfl, ?_⟩
      rw [above_snoc _ _ hz]
      obtain ⟨n, b⟩ := z
      cases b with
      | true =>
        refine ⟨_, rfl, rfl, _, rfl, ite_no (show ¬ (V.str "right" = V.str "left") by decide +kernel) ⟨s2, ?_⟩⟩
        show H2 D = some (.lst (((above (valAt ns) false (p.take i)) ++ []).map V.int))
        rw [List.append_nil]
        exact e2
      | false =>
        refine ⟨_, rfl, rfl, _, rfl, ite_yes rfl ?_⟩
        refine ⟨_, rfl, _, rfl, a, _, _, _, rfl, rfl, .of (s2 _ _ (s0 _ _ ha)), at_of (j := n) rfl (valAt_get hnz), _, e2, ?_, fun c o e => ?_, ?_⟩
        · rw [List.length_map]
          have q1 := above_len (valAt ns) false (p.take i)
          rw [List.length_take] at q1
          exact small1000 (by omega)
        · rw [upd_ne (ne_of_none e hD)]
          exact s2 _ _ e
        · rw [upd_same, List.map_append]
          rfl
    · obtain ⟨s2, e2⟩ := h2
      rw [List.length_map, lt, List.take_length] at e2
      obtain ⟨lo1, lo2⟩ := high_spec (valAt ns) p
      refine ⟨D, _, rfl, rfl, e2, fun e0 => ?_, fun m hm hle => ?_⟩
      · exact ⟨by rw [lo1 e0]; rfl, s0.trans s2⟩
      · exact ⟨by rw [lo2 m hm hle]; rfl, s0.trans s2⟩
  rintro σ' H1 ⟨rfl, s1⟩
  have pair : ∀ x y : Option Int, bndOf (valAt ns) p = some (x, y) → ∀ T, H1 T = none → Q (.ref T) (upd H1 T (.tup [optV x, optV y])) := fun x y e T hT => by
    refine q _ _ (s1.trans (Same.new hT)) ?_
    rw [e]
    exact ⟨T, rfl, upd_same⟩
  cases e1 : lowOf (valAt ns) p with
  | none =>
    refine ⟨_, rfl, rfl, _, rfl, iteF (iteF ?_)⟩
    have eb : bndOf (valAt ns) p = some (none, highOf (valAt ns) p) := by unfold bndOf; rw [e1]
    exact ⟨_, rfl, _, rfl, (by show 2 ≤ sizeLine; decide), pair _ _ eb⟩
  | some lo =>
    refine ⟨_, rfl, rfl, _, rfl, iteT ?_⟩
    cases e2 : highOf (valAt ns) p with
    | none =>
      refine ⟨_, rfl, rfl, _, rfl, iteF (iteF ?_)⟩
      have eb : bndOf (valAt ns) p = some (some lo, none) := by unfold bndOf; rw [e1, e2]
      exact ⟨_, rfl, _, rfl, (by show 2 ≤ sizeLine; decide), pair _ _ eb⟩
    | some hi =>
      have eb : bndOf (valAt ns) p = if lo ≥ hi then none else some (some lo, some hi) := by unfold bndOf; rw [e1, e2]
      refine ⟨_, rfl, rfl, _, rfl, iteT ⟨_, rfl, _, rfl, _, _, rfl, rfl, _, rfl, ite2 (fun c => ?_) (fun c => ?_)⟩⟩
      · rw [if_pos (of_decide_eq_true c)] at eb
        exact q _ .non s1 (by rw [eb]; rfl)
      · rw [if_neg (fun z => c (decide_eq_true z))] at eb
        exact ⟨_, rfl, _, rfl, (by show 2 ≤ sizeLine; decide), pair _ _ eb⟩
end
end HSP
namespace HSP
open PySem PySem.Spec PyProof.Rows L2
/-- the label of a node -/
def labAt (g : Nat → Int) (t : Tr) (i : Nat) : Lb := lbOf (bndOf g (pOf t 0 i)) (g i)
def labsV (g : Nat → Int) (t : Tr) (n : Nat) : List V := (List.range n).map fun i => V.str (labAt g t i).str
theorem labsV_len (g : Nat → Int) (t : Tr) (n : Nat) : (labsV g t n).length = n := by
  unfold labsV
  rw [List.length_map, List.length_range]
theorem labsV_more (g : Nat → Int) (t : Tr) (n : Nat) : labsV g t (n + 1) = labsV g t n ++ [V.str (labAt g t n).str] := by
  unfold labsV
  rw [List.range_succ, List.map_append]
  rfl
/-- the nodes that are found -/
def foundOf (g : Nat → Int) (t : Tr) (n : Nat) : List Nat := (List.range n).filter fun i => labAt g t i == .found
theorem foundOf_more (g : Nat → Int) (t : Tr) (n : Nat) : foundOf g t (n + 1) = foundOf g t n ++ if labAt g t n == .found then [n] else [] := by
  unfold foundOf
  rw [List.range_succ, List.filter_append]
  congr 1
  unfold List.filter
  cases labAt g t n == .found <;> rfl
theorem foundOf_len (g : Nat → Int) (t : Tr) (n : Nat) : (foundOf g t n).length ≤ n := by
  have h := List.length_filter_le (fun i => labAt g t i == .found) (List.range n)
  rw [List.length_range] at h
  exact h
section
variable {P : Program} {w : World} {K : PySem.W.Frag} {mg : Str → Option Value} {base : Heap}
/-! ### labels_of -/
theorem sc_labelsOf : FnScope n_labels_of ["tree", "values"] (defScope s_labels_of) := ⟨rfl, rfl, rfl, by decide +kernel, rfl, by decide +kernel, by decide +kernel⟩
def spLabels : Sp := fun vs H Q _ => ∃ (v : V) (t : Tr) (a : Addr) (ns : List Int), vs = [v, .ref a] ∧ TrAt H v t ∧ t.size ≤ 300 ∧ H a = some (.lst (ns.map V.int)) ∧ ns.length = t.size ∧ ∀ (H' : Hp) (q : Addr), Same H H' → H q = none → H' q = some (.lst (labsV (valAt ns) t t.size)) → Q (.ref q) H'
theorem ok_labelsOf (B : Bl mg) (Pa : Df P w K mg base "paths_of" 3 ["tree"] spPaths) (Bo : Df P w K mg base "bounds_below" 1 ["values", "above"] spBounds) (La : Df P w K mg base "label_of" 1 ["bounds", "value"] spLabel) (a : At K mg "labels_of" s_labels_of) :
    Df P w K mg base "labels_of" 4 ["tree", "values"] spLabels := by
  refine Df.mk' a sc_labelsOf (fun vs H Q E h => ?_) (fun _ _ _ _ _ _ us hl => match us, hl with | [_, _], _ => rfl) (fun f cdv A outer s H vs Q E hr h => ?_)
  · obtain ⟨v, t, a, ns, rfl, _⟩ := h
    rfl
  obtain ⟨v, t, a, ns, rfl, ht, hz, ha, hn, q⟩ := h
  refine ⟨_, (pss_cons (ps_set (i := 2) sc_labelsOf.nd rfl (.inl rfl) (pe_df Pa hr (pa_cons (pv 0) pa_nil)))
 (pss_one (ps_ret (pe_lc (own := [("way", 3), ("value", 4)]) (g := (gTup K 2 (gCons (gName 3) (gCons (gName 4) gNil)))) (tt := tYes) (by rfl) sc_labelsOf.nd (pi_zip (by rfl) B.zip (pa_cons (pv 2) (pa_cons (pv 1) pa_nil))) (blkOk_by (N := n_labels_of) (sc := defScope s_labels_of) (by decide +kernel)) (fun _ _ _ _ _ => (pg_tup rfl (pgs_cons (pg_name (i := 3) sc_labelsOf.nd rfl (.inl rfl)) (pgs_cons (pg_name (i := 4) sc_labelsOf.nd rfl (.inl rfl)) pgs_nil)))) (fun _ _ _ _ _ => pts_nil) (fun _ _ _ _ _ => (pe_df La (hr.mono (by decide)) (pa_cons (pe_df Bo (hr.mono (by decide)) (pa_cons (pv 1) (pa_cons (pv 3) pa_nil))) (pa_cons (pv 4) pa_nil)))))))), ?_⟩
  refine ⟨v, rfl, v, t, rfl, ht, hz, fun H1 q0 s1 _ ⟨rows, er, lr, hp⟩ => ?_⟩
  refine ⟨_, rfl, _, rfl, q0, a, _, _, rfl, .of er, .of (s1 _ _ ha), fun D hD => ?_⟩
  have many : t.size = min (rows.map V.ref).length (ns.map V.int).length := by
    rw [List.length_map, List.length_map]
    omega
  refine lc_it (walk_zip (K := K) (a := q0) (b := a) (xs := rows.map V.ref) (ys := ns.map V.int) many) (fun i H' => Same H1 H' ∧ H' D = some (.lst (labsV (valAt ns) t i))) ⟨Same.new hD, upd_same⟩ (fun i H3 _ h3 => ⟨.of (h3.1 _ _ er), .of (h3.1 _ _ (s1 _ _ ha))⟩) (fun i x H3 H4 hi h3 hy => ?_) (fun H3 h3 => ?_)
  · obtain ⟨s3, e3⟩ := h3
    obtain ⟨T, x1, x2, rfl, nT, rfl, g1, g2⟩ := hy
    have i1 : i < rows.length := by omega
    have i2 : i < ns.length := by omega
    have w1 : (rows.map V.ref)[i]? = some (.ref rows[i]) := by rw [List.getElem?_map, List.getElem?_eq_getElem i1]; rfl
    cases w1.symm.trans g1
    cases (valAt_get i2).symm.trans g2
    have sT := Same.new (o := .tup [V.ref rows[i], V.int (valAt ns i)]) nT
    have pa := hp i rows[i] (List.getElem?_eq_getElem i1)
    refine ⟨T, _, rfl, .of upd_same, rfl, _, _, rfl, _, [], rfl, rfl, rfl, ?_⟩
    refine ⟨_, rfl, _, rfl, a, rows[i], ns, pOf t 0 i, rfl, sT _ _ (s3 _ _ (s1 _ _ ha)), (pa.same s3).same sT, ?_, fun z hz2 => ?_, fun H5 vb s5 hb => ?_⟩
    · have := pOf_len t 0 i
      omega
    · have := pOf_in t 0 i z hz2
      omega
    · refine ⟨_, rfl, vb, _, _, rfl, hb, _, s5 _ _ (sT _ _ e3), ?_, fun b o e => ?_, ?_⟩
      · rw [labsV_len]
        exact small1000 (by omega)
      · rw [upd_ne (ne_of_none e hD)]
        exact s5 _ _ (sT _ _ (s3 _ _ e))
      · rw [upd_same, labsV_more]
        rfl
  · obtain ⟨s3, e3⟩ := h3
    exact q H3 D (s1.trans s3) (s1.free hD) e3
end
end HSP
namespace HSP
open PySem PySem.Spec PyProof.Rows L2
/-! ## numbers as texts -/
def intS (v : Int) : Str := Str.ofString (toString v)
theorem numL_head : ∀ n : Nat, n ≠ 0 → (TL.numL n).head? ≠ some 48 := fun n => by
  induction n using Nat.strongRecOn with
  | _ n ih =>
    intro h0
    by_cases h : n < 10
    · rw [TL.numL_lt h]
      intro z
      have := Option.some.inj z
      omega
    · rw [TL.numL_step (by omega), List.head?_append]
      have := ih (n / 10) (by omega) (by omega)
      cases e : (TL.numL (n / 10)).head? with
      | none => exact absurd (List.head?_eq_none_iff.mp e) (TL.numL_ne _)
      | some c =>
        rw [e] at this
        exact this
theorem tl_neg (n : Nat) : TL.tl (intS (Int.negSucc n)) = 45 :: TL.numL (n + 1) := by
  have e : toString (Int.negSucc n) = "-" ++ toString (((n + 1 : Nat)) : Int) := rfl
  unfold intS
  rw [e]
  show (Str.ofString ("-" ++ toString (((n + 1 : Nat)) : Int))).cps.toList = _
  rw [signs_ofString, String.toList_append, List.map_append]
  have h := TL.tl_num (n + 1)
  have h2 : TL.tl (Str.ofString (toString ((n + 1 : Nat) : Int))) = (toString ((n + 1 : Nat) : Int)).toList.map Char.toNat := signs_ofString _
  rw [← h2, h]
  rfl
theorem all_dig {l : List Nat} (h : NumText.AllDigits l) : l.all digB = true := List.all_eq_true.mpr fun c hc => by
  have := h c hc
  unfold digB
  rw [decide_eq_true this.1, decide_eq_true this.2]
  rfl
theorem num_int (v : Int) (hl : (intS v).length ≤ 4300) : numT (TL.tl (intS v)) = true ∧ intText? (intS v) = some v ∧ ∀ c, c ∈ TL.tl (intS v) → c = 45 ∨ 48 ≤ c := by
  cases v with
  | ofNat n =>
    have e : TL.tl (intS (Int.ofNat n)) = TL.numL n := TL.tl_num n
    have er : restL (TL.numL n) = TL.numL n := by
      unfold restL
      split
      · rename_i r e
        have := TL.numL_digits n 45 (by rw [e]; exact List.mem_cons_self)
        omega
      · rfl
    refine ⟨?_, TL.int_num (by rw [← e, ← TL.len_tl]; exact hl), fun c hc => ?_⟩
    · rw [e]
      unfold numT
      rw [er, all_dig (TL.numL_digits n)]
      have h1 : (TL.numL n).isEmpty = false := by
        cases c : TL.numL n with
        | nil => exact absurd c (TL.numL_ne n)
        | cons a r => rfl
      rw [h1]
      by_cases z : n = 0
      · rw [z, TL.numL_lt (by decide)]
        rfl
      · rw [decide_eq_false (numL_head n z)]
        cases decide (TL.numL n = [48]) <;> rfl
    · rw [e] at hc
      exact .inr (TL.numL_digits n c hc).1
  | negSucc n =>
    have e := tl_neg n
    refine ⟨?_, ?_, fun c hc => ?_⟩
    · rw [e]
      unfold numT
      show (!(TL.numL (n + 1)).isEmpty && (TL.numL (n + 1)).all digB && (decide (45 :: TL.numL (n + 1) = [48]) || !decide ((TL.numL (n + 1)).head? = some 48))) = true
      rw [all_dig (TL.numL_digits _), decide_eq_false (numL_head (n + 1) (by omega))]
      have h1 : (TL.numL (n + 1)).isEmpty = false := by
        cases c : TL.numL (n + 1) with
        | nil => exact absurd c (TL.numL_ne _)
        | cons a r => rfl
      rw [h1]
      cases decide (45 :: TL.numL (n + 1) = [48]) <;> rfl
    · have h := intText_neg (x := intS (Int.negSucc n)) e (TL.numL_digits (n + 1)) (TL.numL_ne _) hl
      rw [h, TL.numL_val]
      rfl
    · rw [e] at hc
      rcases List.mem_cons.mp hc with z | z
      · exact .inl z
      · exact .inr (TL.numL_digits _ c z).1
/-! ## a line, and the text -/
def lineS (i : Nat) (v : Int) (s : Str) : Str := Txt.join (" " : Str) [numS i, intS v, s]
def linesG (g : Nat → Int) (b : Nat → Str) (n : Nat) : List Str := (List.range n).map fun i => lineS i (g i) (b i)
def textG (g : Nat → Int) (b : Nat → Str) (n : Nat) : Str := Txt.join ("\n" : Str) (linesG g b n)
theorem tl_line (i : Nat) (v : Int) (s : Str) : TL.tl (lineS i v s) = TL.tl (numS i) ++ ([32] ++ (TL.tl (intS v) ++ ([32] ++ TL.tl s))) := by
  unfold lineS
  rw [TL.join_eq, TL.tl_join]
  have e : TL.tl (" " : Str) = [32] := by decide +kernel
  rw [e]
  rfl
theorem tl_numS (i : Nat) : TL.tl (numS i) = TL.numL i := TL.tl_num i
section
variable {g : Nat → Int} {b : Nat → Str} {n : Nat} (hg : ∀ i, i < n → (g i).natAbs < 10 ^ 24) (hb : ∀ i, i < n → b i ∈ labelL) (hn : n ≤ 100)
include hg hb hn
theorem intS_len {i : Nat} (hi : i < n) : (intS (g i)).length ≤ 25 := by
  unfold intS
  rw [show (Str.ofString (toString (g i))).length = (toString (g i)).length from PySem.ofString_length _]
  exact int_text_length_le10 (k := 24) (by decide) (hg i hi)
theorem lab_signs : ∀ s, s ∈ labelL → s.length ≤ 5 ∧ ∀ c, c ∈ TL.tl s → 97 ≤ c := by decide +kernel
theorem line_free {i : Nat} (hi : i < n) : 10 ∉ TL.tl (lineS i (g i) (b i)) := fun h => by
  rw [tl_line, tl_numS] at h
  have l := intS_len hg hb hn hi
  have h2 := (num_int (g i) (by omega)).2.2
  simp only [List.mem_append, List.mem_singleton] at h
  rcases h with h | h | h | h | h
  · have := TL.numL_digits i 10 h
    omega
  · omega
  · rcases h2 10 h with z | z <;> omega
  · omega
  · have := (lab_signs hg hb hn _ (hb i hi)).2 10 h
    omega
theorem words_line {i : Nat} (hi : i < n) : wordsT (lineS i (g i) (b i)) = [numS i, intS (g i), b i] := by
  have l := intS_len hg hb hn hi
  have h2 := (num_int (g i) (by omega)).2.2
  unfold wordsT lineS
  refine TL.split_join (s := 32) (S := []) (by decide +kernel) (by decide +kernel) (by simp) fun p hp h => ?_
  rcases List.mem_cons.mp hp with rfl | hp
  · rw [tl_numS] at h
    have := TL.numL_digits i 32 h
    omega
  rcases List.mem_cons.mp hp with rfl | hp
  · rcases h2 32 h with z | z <;> omega
  · rw [List.mem_singleton.mp hp] at h
    have := (lab_signs hg hb hn _ (hb i hi)).2 32 h
    omega
theorem line_len {i : Nat} (hi : i < n) : (lineS i (g i) (b i)).length ≤ 40 := by
  have l := intS_len hg hb hn hi
  have h3 := (lab_signs hg hb hn _ (hb i hi)).1
  have h4 : (TL.numL i).length ≤ 2 := TL.numL_len (by decide) (by omega)
  rw [TL.len_tl, tl_line, tl_numS]
  rw [TL.len_tl] at l h3
  simp only [List.length_append, List.length_singleton]
  omega
theorem lines_back : linesT (textG g b n) = linesG g b n := by
  unfold linesT
  by_cases c : n = 0
  · rw [c]
    exact if_pos rfl
  have ne : linesG g b n ≠ [] := fun e => c (by
    have := congrArg List.length e
    unfold linesG at this
    rw [List.length_map, List.length_range] at this
    exact this)
  have sj : Txt.split (textG g b n) ("\n" : Str) = linesG g b n := by
    unfold textG
    refine TL.split_join (s := 10) (S := []) (by decide +kernel) (by decide +kernel) ne fun p hp => ?_
    unfold linesG at hp
    obtain ⟨i, hi, rfl⟩ := List.mem_map.mp hp
    exact line_free hg hb hn (List.mem_range.mp hi)
  rw [if_neg, sj]
  intro z
  rw [z] at sj
  have h0 : lineS 0 (g 0) (b 0) ∈ linesG g b n := List.mem_map.mpr ⟨0, List.mem_range.mpr (by omega), rfl⟩
  rw [← sj] at h0
  have hl := split_part h0
  rw [TL.len_tl, tl_line] at hl
  simp only [List.length_append, List.length_singleton] at hl
  have : ("" : Str).length = 0 := by decide +kernel
  omega
theorem line_at {i : Nat} (hi : i < n) : strG (linesG g b n) i = lineS i (g i) (b i) := by
  unfold strG linesG
  rw [List.getD_eq_getElem?_getD, List.getElem?_map, List.getElem?_range hi]
  rfl
theorem text_good : badT (linesT (textG g b n)) = none := by
  rw [lines_back hg hb hn]
  unfold badT
  refine List.find?_eq_none.mpr fun i hi => ?_
  have hi : i < n := by
    have := List.mem_range.mp hi
    unfold linesG at this
    rw [List.length_map, List.length_range] at this
    exact this
  have l := intS_len hg hb hn hi
  have nm := (num_int (g i) (by omega)).1
  have e : okT (linesG g b n) i = true := by
    unfold okT
    rw [line_at hg hb hn hi, words_line hg hb hn hi]
    unfold lineOk
    rw [show strG [numS i, intS (g i), b i] 0 = numS i from rfl, show strG [numS i, intS (g i), b i] 1 = intS (g i) from rfl, show strG [numS i, intS (g i), b i] 2 = b i from rfl, nm, decide_eq_true (hb i hi), decide_eq_true (show numS i = numS i from rfl)]
    rfl
  rw [e]
  decide
theorem text_vals : (linesT (textG g b n)).map valT = (List.range n).map g := by
  rw [lines_back hg hb hn]
  unfold linesG
  rw [List.map_map]
  refine List.map_congr_left fun i hi => ?_
  have hi := List.mem_range.mp hi
  have l := intS_len hg hb hn hi
  show valT (lineS i (g i) (b i)) = g i
  unfold valT
  rw [words_line hg hb hn hi]
  show (intText? (intS (g i))).getD 0 = g i
  rw [(num_int (g i) (by omega)).2.1]
  rfl
theorem text_labs : (linesT (textG g b n)).map (fun l => strG (wordsT l) 2) = (List.range n).map b := by
  rw [lines_back hg hb hn]
  unfold linesG
  rw [List.map_map]
  refine List.map_congr_left fun i hi => ?_
  show strG (wordsT (lineS i (g i) (b i))) 2 = b i
  rw [words_line hg hb hn (List.mem_range.mp hi)]
  rfl
theorem text_lines : ∀ l, l ∈ linesT (textG g b n) → l.length ≤ 600 := fun l hl => by
  rw [lines_back hg hb hn] at hl
  unfold linesG at hl
  obtain ⟨i, hi, rfl⟩ := List.mem_map.mp hl
  have := line_len hg hb hn (List.mem_range.mp hi)
  omega
theorem text_len : (textG g b n).length ≤ 4100 := by
  unfold textG
  rw [TL.join_eq, TL.len_tl, TL.tl_join]
  have e : TL.tl ("\n" : Str) = [10] := by decide +kernel
  rw [e]
  have := joinL_len 10 (c := 40) ((linesG g b n).map TL.tl) fun p hp => by
    obtain ⟨s, hs, rfl⟩ := List.mem_map.mp hp
    rw [← TL.len_tl]
    unfold linesG at hs
    obtain ⟨i, hi, rfl⟩ := List.mem_map.mp hs
    exact line_len hg hb hn (List.mem_range.mp hi)
  rw [List.length_map] at this
  unfold linesG at this
  rw [List.length_map, List.length_range] at this
  unfold linesG
  omega
end
end HSP
namespace HSP
open PySem PySem.Spec PyProof.Rows L2
section
variable {P : Program} {w : World} {K : PySem.W.Frag} {mg : Str → Option Value} {base : Heap}
/-! ### found_of, found -/
def spFound : Sp := fun vs H Q _ => ∃ (v : V) (t : Tr) (a : Addr) (ns : List Int), vs = [v, .ref a] ∧ TrAt H v t ∧ t.size ≤ 300 ∧ H a = some (.lst (ns.map V.int)) ∧ ns.length = t.size ∧ ∀ (H' : Hp) (q : Addr), Same H H' → H q = none → H' q = some (.lst ((foundOf (valAt ns) t t.size).map natV)) → Q (.ref q) H'
end
end HSP
namespace HSP
open PySem PySem.Spec PyProof.Rows L2
section
variable {P : Program} {w : World} {K : PySem.W.Frag} {mg : Str → Option Value} {base : Heap}
end
end HSP
namespace HSP
open PySem PySem.Spec PyProof.Rows L2
section
variable {P : Program} {w : World} {K : PySem.W.Frag} {mg : Str → Option Value} {base : Heap}
end
end HSP
namespace HSP
open PySem PySem.Spec PyProof.Rows L2
theorem lines_sum {g : Nat → Int} {b : Nat → Str} {n : Nat} (hg : ∀ i, i < n → (g i).natAbs < 10 ^ 24) (hb : ∀ i, i < n → b i ∈ labelL) (hn : n ≤ 100) : ((linesG g b n).map (·.length)).sum + (linesG g b n).length * ("\n" : Str).length ≤ 16777216 := by
  have sumle : ∀ l : List Str, (∀ s, s ∈ l → s.length ≤ 40) → (l.map (·.length)).sum ≤ 40 * l.length := fun l => by
    induction l with
    | nil => exact fun _ => Nat.zero_le _
    | cons x r ih =>
      intro h
      have := ih fun s hs => h s (List.mem_cons_of_mem _ hs)
      have := h x List.mem_cons_self
      rw [List.map_cons, List.sum_cons, List.length_cons]
      omega
  have h1 := sumle (linesG g b n) fun s hs => by
    unfold linesG at hs
    obtain ⟨i, hi, rfl⟩ := List.mem_map.mp hs
    exact line_len hg hb hn (List.mem_range.mp hi)
  have h2 : (linesG g b n).length = n := by
    unfold linesG
    rw [List.length_map, List.length_range]
  have h3 : ("\n" : Str).length = 1 := by decide +kernel
  rw [h2] at h1
  rw [h2, h3]
  omega
section
variable {P : Program} {w : World} {K : PySem.W.Frag} {mg : Str → Option Value} {base : Heap}
theorem log_less {n : Nat} (h : n < 10 ^ 500) : n.log2 < 1920 := by
  by_cases c : n = 0
  · rw [c]; decide
  · exact (Nat.log2_lt c).mpr (Nat.lt_of_lt_of_le h (by decide +kernel))
theorem app_len (x y : Str) : (x ++ y).length = x.length + y.length := by rw [TL.len_tl, TL.tl_append, List.length_append, ← TL.len_tl, ← TL.len_tl]
def labS (ns : List Int) (t : Tr) (i : Nat) : Str := (labAt (valAt ns) t i).str
theorem lab_in (b : Lb) : b.str ∈ labelL := by cases b <;> decide +kernel
theorem sc_format_list : FnScope n_format_list ["tree", "values"] (defScope s_format_list) := ⟨rfl, rfl, rfl, by decide +kernel, rfl, by decide +kernel, by decide +kernel⟩
def spFormat : Sp := fun vs H Q _ => ∃ (v : V) (t : Tr) (a : Addr) (ns : List Int), vs = [v, .ref a] ∧ TrAt H v t ∧ t.size ≤ 64 ∧ H a = some (.lst (ns.map V.int)) ∧ ns.length = t.size ∧ (∀ z, z ∈ ns → z.natAbs < 10 ^ 24) ∧ ∀ H', Same H H' → Q (.str (textG (valAt ns) (labS ns t) t.size)) H'
theorem okB_format (B : Bl mg) (C : Df P w K mg base "check_values" 3 ["tree", "values"] spChkV) (L : Df P w K mg base "labels_of" 4 ["tree", "values"] spLabels) (a : At K mg "format_list" s_format_list) : DfB P w K mg base "format_list" 5 ["tree", "values"] ["values", "tree"] spFormat := by
  refine DfB.mk' a sc_format_list (fun vs H Q E h => ?_) (fun _ _ _ _ _ _ us hl => match us, hl with | [_, _], _ => rfl) (fun _ _ _ _ _ _ us hl => match us, hl with | [_, _], _ => rfl) (fun f cdv A outer s H vs Q E hr h => ?_)
  · obtain ⟨v, t, a, ns, rfl, _⟩ := h
    rfl
  obtain ⟨v, t, a, ns, rfl, ht, hz, ha, hn, sm, q⟩ := h
  refine ⟨_, (pss_cons (ps_expr (pe_df C (hr.mono (by decide)) (pa_cons (pv 0) (pa_cons (pv 1) pa_nil))))
 (pss_one (ps_ret (pe_join pe_str (pe_lc (own := [("node", 2), ("label", 3)]) (g := (gTup K 2 (gCons (gName 2) (gCons (gName 3) gNil)))) (tt := tYes) (by rfl) sc_format_list.nd (pi_enum (by rfl) B.enumerate (pa_cons (pe_df L hr (pa_cons (pv 0) (pa_cons (pv 1) pa_nil))) pa_nil)) (blkOk_by (N := n_format_list) (sc := defScope s_format_list) (by decide +kernel)) (fun _ _ _ _ _ => (pg_tup rfl (pgs_cons (pg_name (i := 2) sc_format_list.nd rfl (.inl rfl)) (pgs_cons (pg_name (i := 3) sc_format_list.nd rfl (.inl rfl)) pgs_nil)))) (fun _ _ _ _ _ => pts_nil) (fun _ _ _ _ _ => (pe_joined (.cons (pe_fmt (pv 2)) (.cons pe_str (.cons (pe_fmt (pe_ix (show IxR _ (rIxL K) from ix_list) (pv 1) (pv 2) (fun _ _ => rfl))) (.cons pe_str (.cons (pe_fmt (pv 3)) .nil)))))))))))), ?_⟩
  have line : sizeLine = 16777216 := rfl
  refine ⟨v, rfl, _, rfl, v, t, a, ns, rfl, ht, by omega, ha, hn, fun H1 s1 => ?_⟩
  refine ⟨⟨_, rfl⟩, v, rfl, _, rfl, v, t, a, ns, rfl, ht.same s1, by omega, s1 _ _ ha, hn, fun H2 q0 s2 n2 e2 => ?_⟩
  have s12 := s1.trans s2
  have ea2 := s12 _ _ ha
  have near : ∀ i, i < t.size → (valAt ns i).natAbs < 10 ^ 24 := fun i hi => sm _ (valAt_mem (by omega))
  have labs : ∀ i, i < t.size → labS ns t i ∈ labelL := fun i _ => lab_in _
  refine ⟨_, _, rfl, .of e2, fun D hD => ?_⟩
  refine lc_it (te := fun σ H Q => tJs [tFmt (tVar 2), tC (V.str " "), tFmt (tOp (rIxL K) (tVar 1) (tVar 2)), tC (V.str " "), tFmt (tVar 3)] Str.empty σ H fun out H1 => Q (V.str out) H1) (walk_enum (K := K) (a := q0) (xs := labsV (valAt ns) t t.size)) (fun i H' => Same H2 H' ∧ H' D = some (.lst (((List.range i).map fun i => lineS i (valAt ns i) (labS ns t i)).map V.str))) ⟨Same.new hD, upd_same⟩ (fun i H3 _ h3 => ?_) (fun i x H3 H4 hi h3 hy => ?_) (fun H3 h3 => ?_)
  · exact .of (h3.1 _ _ e2)
  · obtain ⟨s3, e3⟩ := h3
    obtain ⟨T, x1, x2, rfl, nT, rfl, g1, g2⟩ := hy
    rw [labsV_len] at hi
    cases (show some (V.int ((i : Nat) : Int)) = some x1 from g1)
    have g2 : (labsV (valAt ns) t t.size)[i]? = some x2 := g2
    unfold labsV at g2
    rw [List.getElem?_map, List.getElem?_range hi] at g2
    cases g2
    have sT := Same.new (o := .tup [V.int ((i : Nat) : Int), V.str (labAt (valAt ns) t i).str]) nT
    have nm : ((i : Nat) : Int).natAbs.log2 < 1920 := log_less (show ((i : Nat) : Int).natAbs < _ from Nat.lt_of_lt_of_le (show i < 100 by omega) (by decide))
    have nv : (valAt ns i).natAbs.log2 < 1920 := log_less (Nat.lt_of_lt_of_le (near i hi) (Nat.pow_le_pow_right (by decide) (by decide)))
    have ll := intS_len near labs (by omega) hi
    have l0 : (TL.numL i).length ≤ 2 := TL.numL_len (by decide) (by omega)
    have lb := (lab_signs near labs (by omega) _ (lab_in (labAt (valAt ns) t i))).1
    have l1 : (Str.ofString (toString ((i : Nat) : Int))).length ≤ 2 := by
      rw [TL.len_tl, TL.tl_num]
      exact l0
    have lq : (Str.ofString (toString (valAt ns i))).length ≤ 25 := ll
    have sp : (" " : Str).length = 1 := by decide +kernel
    have em : Str.empty.length = 0 := rfl
    have ea3 := sT _ _ (s3 _ _ ea2)
    have eT : (upd H3 T (.tup [V.int ((i : Nat) : Int), V.str (labAt (valAt ns) t i).str])) T = some (.tup [V.int ((i : Nat) : Int), V.str (labAt (valAt ns) t i).str]) := upd_same
    have e4 := sT _ _ e3
    generalize upd H3 T (.tup [V.int ((i : Nat) : Int), V.str (labAt (valAt ns) t i).str]) = H4 at ea3 e4 eT sT ⊢
    refine ⟨T, _, rfl, .of eT, rfl, _, _, rfl, _, [], rfl, rfl, rfl, ?_⟩
    refine ⟨_, rfl, .inr ⟨_, rfl, nm, _, rfl, ?_, _, rfl, ?_, _, rfl, _, rfl, a, _, _, _, rfl, rfl, .of ea3, atI_nat (j := i) (v := V.int (valAt ns i)) (valAt_get (ns := ns) (i := i) (by omega)), .inr ⟨_, rfl, nv, _, rfl, ?_, _, rfl, ?_, _, rfl, .inl ⟨_, rfl, ?_, _, rfl, ?_, ?_⟩⟩⟩⟩
    · rw [app_len]; omega
    · rw [app_len, app_len]; omega
    · rw [app_len, app_len, app_len]; omega
    · rw [app_len, app_len, app_len, app_len]; omega
    · omega
    · rw [app_len, app_len, app_len, app_len, app_len]; omega
    refine ⟨_, e4, ?_, fun b o e => ?_, ?_⟩
    · rw [List.length_map, List.length_map, List.length_range]
      exact small1000 (by omega)
    · rw [upd_ne (ne_of_none e hD)]
      exact sT _ _ (s3 _ _ e)
    · rw [upd_same, List.range_succ, List.map_append, List.map_append]
      congr 4
      refine congrArg V.str (TL.ext_tl ?_)
      have es : TL.tl (" " : Str) = [32] := by decide +kernel
      show TL.tl (Str.empty ++ Str.ofString (toString ((i : Nat) : Int)) ++ (" " : Str) ++ Str.ofString (toString (valAt ns i)) ++ (" " : Str) ++ (labAt (valAt ns) t i).str) = TL.tl (lineS i (valAt ns i) (labS ns t i))
      rw [tl_line, TL.tl_append, TL.tl_append, TL.tl_append, TL.tl_append, TL.tl_append, es, List.append_assoc, List.append_assoc, List.append_assoc, List.append_assoc]
      rfl
  · obtain ⟨s3, e3⟩ := h3
    rw [labsV_len] at e3
    refine ⟨_, D, linesG (valAt ns) (labS ns t) t.size, rfl, rfl, .inl (.of e3), ?_, q _ (s12.trans s3)⟩
    exact lines_sum near labs (by omega)
end
end HSP
namespace HSP
open PySem PySem.Spec PyProof.Rows L2
/-! ## trees of halving, trees put together -/
/-- the tree of halving, to so many levels -/
def halv : Nat → Nat → Tr
  | 0, _ => .nil
  | _ + 1, 0 => .nil
  | k + 1, m + 1 => .nod (halv k ((m + 1) / 2)) (halv k (m + 1 - (m + 1) / 2 - 1))
theorem half_lt {k m : Nat} (h : m + 1 < 2 ^ (k + 1)) : (m + 1) / 2 < 2 ^ k ∧ m + 1 - (m + 1) / 2 - 1 < 2 ^ k := by
  have e : 2 ^ (k + 1) = 2 ^ k * 2 := Nat.pow_succ 2 k
  omega
theorem halv_size : ∀ (k m : Nat), m < 2 ^ k → (halv (k + 1) m).size = m
  | _, 0, _ => rfl
  | 0, m + 1, h => by
    have e : 2 ^ 0 = 1 := rfl
    omega
  | k + 1, m + 1, h => by
    obtain ⟨h1, h2⟩ := half_lt h
    show (halv (k + 1) ((m + 1) / 2)).size + 1 + (halv (k + 1) (m + 1 - (m + 1) / 2 - 1)).size = m + 1
    rw [halv_size k _ h1, halv_size k _ h2]
    omega
theorem halv_ht : ∀ (k m : Nat), (halv k m).ht ≤ k
  | 0, _ => Nat.le_refl _
  | _ + 1, 0 => Nat.zero_le _
  | k + 1, m + 1 => by
    have h1 := halv_ht k ((m + 1) / 2)
    have h2 := halv_ht k (m + 1 - (m + 1) / 2 - 1)
    show max (halv k ((m + 1) / 2)).ht (halv k (m + 1 - (m + 1) / 2 - 1)).ht + 1 ≤ k + 1
    omega
/-- the trees, with a node between each two -/
def joinT : Nat → List Tr → Tr
  | 0, _ => .nil
  | n + 1, ts => if ts.length = 1 then ts.headD .nil else .nod (joinT n (ts.take (ts.length / 2))) (joinT n (ts.drop (ts.length / 2)))
/-- how many nodes that makes -/
def wide : List Tr → Nat
  | [] => 0
  | [t] => t.size
  | t :: r => t.size + 1 + wide r
theorem wide_app : ∀ (a b : List Tr), a ≠ [] → b ≠ [] → wide (a ++ b) = wide a + 1 + wide b
  | [], _, h, _ => absurd rfl h
  | [t], [], _, h => absurd rfl h
  | [t], u :: r, _, _ => rfl
  | t :: u :: r, b, _, hb => by
    have ih := wide_app (u :: r) b (by simp) hb
    show t.size + 1 + wide ((u :: r) ++ b) = t.size + 1 + wide (u :: r) + 1 + wide b
    rw [ih]
    omega
theorem take_ne {α : Type} {l : List α} (h : 2 ≤ l.length) : l.take (l.length / 2) ≠ [] := fun z => by
  have := congrArg List.length z
  rw [List.length_take, List.length_nil] at this
  omega
theorem drop_ne {α : Type} {l : List α} (h : 2 ≤ l.length) : l.drop (l.length / 2) ≠ [] := fun z => by
  have := congrArg List.length z
  rw [List.length_drop, List.length_nil] at this
  omega
theorem half_len {n : Nat} {α : Type} {l : List α} (h : l.length ≤ 2 ^ (n + 1)) : (l.take (l.length / 2)).length ≤ 2 ^ n ∧ (l.drop (l.length / 2)).length ≤ 2 ^ n := by
  have e : 2 ^ (n + 1) = 2 ^ n * 2 := Nat.pow_succ 2 n
  rw [List.length_take, List.length_drop]
  omega
theorem one_list {α : Type} {l : List α} (h : l ≠ []) (h2 : l.length ≤ 2 ^ 0) : ∃ t, l = [t] := by
  match l, h, h2 with
  | [], h, _ => exact absurd rfl h
  | [t], _, _ => exact ⟨t, rfl⟩
  | _ :: _ :: r, _, h2 =>
    have e : 2 ^ 0 = 1 := rfl
    rw [List.length_cons, List.length_cons] at h2
    omega
/-- what joinT makes, by halves -/
theorem join_ind {P : Nat → List Tr → Tr → Prop} (h1 : ∀ n t, P (n + 1) [t] t) (h2 : ∀ n a b x y, a ≠ [] → b ≠ [] → P n a x → P n b y → P (n + 1) (a ++ b) (.nod x y)) : ∀ (n : Nat) (ts : List Tr), ts ≠ [] → ts.length ≤ 2 ^ n → P (n + 1) ts (joinT (n + 1) ts)
  | 0, ts, hne, hl => by
    obtain ⟨t, rfl⟩ := one_list hne hl
    exact h1 0 t
  | n + 1, ts, hne, hl => by
    by_cases c : ts.length = 1
    · obtain ⟨t, rfl⟩ := one_list hne (Nat.le_of_eq c)
      exact h1 (n + 1) t
    · have c2 : 2 ≤ ts.length := by
        cases ts with
        | nil => exact absurd rfl hne
        | cons a r =>
          rw [List.length_cons] at c ⊢
          omega
      obtain ⟨l1, l2⟩ := half_len hl
      have a := join_ind h1 h2 n (ts.take (ts.length / 2)) (take_ne c2) l1
      have b := join_ind h1 h2 n (ts.drop (ts.length / 2)) (drop_ne c2) l2
      have z := h2 (n + 1) _ _ _ _ (take_ne c2) (drop_ne c2) a b
      rw [List.take_append_drop] at z
      show P (n + 1 + 1) ts (if ts.length = 1 then ts.headD .nil else .nod (joinT (n + 1) (ts.take (ts.length / 2))) (joinT (n + 1) (ts.drop (ts.length / 2))))
      rw [if_neg c]
      exact z
theorem join_size (n : Nat) (ts : List Tr) (h : ts ≠ []) (hl : ts.length ≤ 2 ^ n) : (joinT (n + 1) ts).size = wide ts :=
  join_ind (P := fun _ ts t => t.size = wide ts) (fun _ _ => rfl) (fun n a b x y ha hb e1 e2 => by
    show x.size + 1 + y.size = wide (a ++ b)
    rw [wide_app a b ha hb, e1, e2]) n ts h hl
theorem join_ht (m : Nat) (n : Nat) (ts : List Tr) (h : ts ≠ []) (hl : ts.length ≤ 2 ^ n) (hm : ∀ t, t ∈ ts → t.ht ≤ m) : (joinT (n + 1) ts).ht ≤ n + m := by
  have z := join_ind (P := fun k ts t => (∀ u, u ∈ ts → u.ht ≤ m) → t.ht + 1 ≤ k + m) (fun n t hm => by
    have := hm t (List.mem_singleton.mpr rfl)
    omega) (fun n a b x y ha hb e1 e2 hm => by
    have h1 := e1 fun u hu => hm u (List.mem_append_left _ hu)
    have h2 := e2 fun u hu => hm u (List.mem_append_right _ hu)
    show max x.ht y.ht + 1 + 1 ≤ n + 1 + m
    omega) n ts h hl hm
  omega
end HSP
namespace HSP
open PySem PySem.Spec PyProof.Rows L2
/-! ## set(a list of ints) -/
/-- a set that was just made, as the world bears it -/
abbrev nSet (w : World) : Obj := { cls := .type "set", dict := none, data := .set #[] 0 (.fresh 0 0 (!w.params.followText "set-order")) }
abbrev nIt (l : Addr) : Obj := { cls := .type "list_iterator", data := .fields #[.ref l, .int 0 0] }
section
variable {P : Program} {w : World} {A : Around} {E : Value → Shared → Prop} {s : Shared}
/-- what the filling of the new set leaves -/
def Filled (w : World) (s : Shared) (ns : List Int) (v : Value) (s2 : Shared) : Prop :=
  v = .none ∧ ∃ (h2 : Heap) (tk c : Nat), s2 = { s with heap := h2, toks := tk } ∧ SetR w h2 s.heap.objs.size (fun j => decide (j ∈ ns)) c ∧ c ≤ ns.length ∧ ∀ b o, s.heap.get? b = some o → h2.get? b = some o
theorem setL_fill {l : Addr} {items : Array Value} {nl : Nat} {dd : Option Addr} {sl : Array (Option Value)} (ns : List Int) (hh : A.handled = none) (el : s.heap.get? l = some { cls := .type "list", dict := dd, data := .seq items nl, slots := sl }) (hi : IntsAre items.toList ns) (hb : ns.length + 1 < scanBound) :
    codeAny (model P w) A (.call (.builtin "set.__init__") ⟨[.ref s.heap.objs.size, .ref l], []⟩) (wants (Filled w s ns) E) { s with heap := s.heap.push (nSet w) } := by
  have many : items.size = ns.length := by rw [← Array.length_toList]; exact IntsAre.length hi
  have lS : l < s.heap.objs.size := Heap.lt_size el
  have sz : (s.heap.push (nSet w)).objs.size = s.heap.objs.size + 1 := Heap.size_push ..
  have gS : (s.heap.push (nSet w)).get? s.heap.objs.size = some (nSet w) := Heap.get?_push_size _ rfl
  have el1 := Heap.get?_push_of_some (nSet w) el
  have isL : (s.heap.push (nSet w)).IsList l items := ⟨_, el1, rfl, nl, rfl⟩
  refine codeAny_call_builtin F.called_set.init.plain F.entry_set_init (check_set_init_1 ⟨_, gS, rfl⟩ ?_)
  have t1 := F.sub_list_set
  have t2 := F.sub_list_frozenset
  have t3 : (Value.type "list" == Value.type "dict") = false := by decide
  unfold Builtin.«set.__init__» noKeywords Builtin.Frozenset.updateFrom
  generalize hPI : pyIter = PI
  wp_walk
  subst hPI
  refine wpAny_pyIter_list isL (wpAny_bind (wpAny_runValue ?_))
  have nlI : l ≠ (s.heap.push (nSet w)).objs.size := by rw [sz]; exact Nat.ne_of_lt (Nat.lt_succ_of_lt lS)
  have offS : s.heap.objs.size ∉ [(s.heap.push (nSet w)).objs.size, l] := fun z => by
    rw [sz] at z
    rcases List.mem_cons.mp z with z | z
    · exact absurd z (Nat.ne_of_lt (Nat.lt_succ_self _))
    · exact absurd (List.mem_singleton.mp z) (Nat.ne_of_gt lS)
  have vals : ∀ (i : Nat) (v : Value), items[i]? = some v → ∃ k t, ns[i]? = some k ∧ v = .int k t := fun i v hv => by
    have lt : i < ns.length := by rw [← many]; exact (Array.getElem?_eq_some_iff.mp hv).1
    obtain ⟨t, e⟩ := IntsAre.int_at hi i v (by rw [Array.getElem?_toList]; exact hv)
    have eg : ns.getD i 0 = ns[i] := by rw [List.getD_eq_getElem?_getD, List.getElem?_eq_getElem lt]; rfl
    exact ⟨ns[i], t, List.getElem?_eq_getElem lt, by rw [e, eg]⟩
  refine set_update_ints (Walks.list (A := A.in1.in1) (by simp [hh]) _ l nlI items).toS s.heap.objs.size offS ns many hb vals (items.size - 0) 0 _ rfl (Nat.zero_le _) ?st ?new fun s2 c hm hc hR => ?_
  case st => exact ⟨⟨_, Heap.get?_push_size _ rfl, rfl, rfl⟩, isL.push _⟩
  case new => exact ⟨0, Nat.le_refl 0, setR_new_at (w := w) (show ((s.heap.push (nSet w)).push (nIt l)).get? s.heap.objs.size = some (nSet w) from Heap.get?_push_of_some _ gS)⟩
  obtain ⟨h2, g2, d2, tk2, os2⟩ := s2
  obtain rfl : g2 = s.gens := hm.gens
  obtain rfl : d2 = s.drawn := hm.drawn
  obtain rfl : os2 = s.os := hm.os
  rw [many] at hc
  refine wpAny_pure (wpAny_pure ⟨rfl, h2, tk2, c, rfl, hR, hc, fun b o e => ?_⟩)
  have bS : b < s.heap.objs.size := Heap.lt_size e
  refine hm.heap b o (fun z => ?_) (Heap.get?_push_of_some _ (Heap.get?_push_of_some _ e))
  rcases List.mem_cons.mp z with z | z
  · exact absurd z (Nat.ne_of_lt bS)
  · have z' := List.mem_singleton.mp z
    rw [sz] at z'
    exact absurd z' (Nat.ne_of_lt (Nat.lt_succ_of_lt bS))
theorem setL_call {l : Addr} {items : Array Value} {nl : Nat} {dd : Option Addr} {sl : Array (Option Value)} (ns : List Int) {Q : Value → Shared → Prop} (hh : A.handled = none) (el : s.heap.get? l = some { cls := .type "list", dict := dd, data := .seq items nl, slots := sl }) (hi : IntsAre items.toList ns) (hb : ns.length + 1 < scanBound)
    (h : ∀ s2, Filled w s ns .none s2 → Q (.ref s.heap.objs.size) s2) : wpAny (model P w) A (call (.type "set") [.ref l]) Q E s := by
  obtain ⟨cl, tl, f1⟩ := F.called_set.mro
  have f2 := F.called_set.made
  have f3 := F.called_set.sub
  have f4 := F.called_set.notType
  have f5 := F.called_set.canCreate
  have f6 := F.typeCall_set_1 (.ref l)
  refine wpAny_call (codeAny_of_tree (show wpAny _ _ (callAny (.type "set") _) _ _ _ from wpAny_pure ⟨Code.quiet_builtin _ (by decide +kernel), codeAny_builtin F.entry_type_call ?_⟩))
  rw [Around.under_plain (weight_type_call_type "set" [.ref l] []) rfl]
  repeat any_goals (first | assumption | wp_step)
  refine codeAny_mono (code_set_led1 (.ref l) (E := E) (Q₁ := fun v s1 => v = .ref s.heap.objs.size ∧ s1 = { s with heap := s.heap.push (nSet w) }) ⟨rfl, rfl⟩) fun r s1 hr => ?_
  match r, hr with
  | .error _, hr => exact hr
  | .ok (.ret v), hr =>
    obtain ⟨e1, e2⟩ := hr
    subst e1 e2
    have f7 := F.called_set.init.lookup
    have f8 := F.called_set.init.bind (.ref s.heap.objs.size)
    have f9 : Shared.TypeIs { s with heap := s.heap.push (nSet w) } (.ref s.heap.objs.size) "set" := ⟨_, Heap.get?_push_size _ rfl, rfl⟩
    repeat any_goals (first | assumption | wp_step)
    refine codeAny_mono (setL_fill (E := E) (A := A.in1) ns (by simp [hh]) el hi hb) fun r2 s2 hr2 => ?_
    match r2, hr2 with
    | .error _, hr2 => exact hr2
    | .ok (.ret u), hr2 =>
      obtain ⟨e3, q⟩ := hr2
      subst e3
      repeat any_goals (first | assumption | wp_step)
      exact h _ ⟨rfl, q⟩
end
section
variable {X : Cx}
/-- set(a list of ints): its members, at most as many as there are items -/
def rSetInts (w : World) : List V → Hp → VK → Prop := fun vs H Q => ∃ (a : Addr) (ns : List Int), vs = [V.ref a] ∧ H a = some (.lst (ns.map V.int)) ∧ ns.length ≤ 1000 ∧
  ∀ (p : Addr) (c : Nat), H p = none → c ≤ ns.length → Q (.ref p) (upd H p (SetO w p (fun j => decide (j ∈ ns)) c))
theorem cr_setInts (hc : X.calm = true) : CallR X (.type "set") (rSetInts X.w) := by
  intro pins s σ H vs us Q I r h
  obtain ⟨a, ns, rfl, ha, hl, q⟩ := h
  rw [Vals.ref1 r]
  obtain ⟨z, its, n, rv, e⟩ : ObjOk X.prog X.w H s.heap a (.lst (ns.map V.int)) := I.hok a _ ha
  refine setL_call ns (I.ok.hd hc) e (ints_of_vals rv) (by unfold scanBound; omega) fun s2 hf => ?_
  obtain ⟨_, h2, tk, c, rfl, hR, hc2, kp⟩ := hf
  have hn : H s.heap.objs.size = none := I.hok.fresh (Nat.le_refl _)
  exact ⟨.ref _, _, I.laid kp (Nat.le_refl _) (setO_new hR), rfl, q _ c hn hc2⟩
end
end HSP
namespace HSP
open PySem PySem.Spec PyProof.Rows L2
/-! ## what the law draws from: a list of a number, a count, a mark -/
def DrAt (H : Hp) (p : Addr) (k : Nat) : Prop := ∃ (n : Int) (j : Nat) (b : Bool), H p = some (.lst [.int n, .int (j : Int), .bl b]) ∧ j ≤ k
theorem DrAt.mono {H : Hp} {p : Addr} {k k' : Nat} (d : DrAt H p k) (h : k ≤ k') : DrAt H p k' := by
  obtain ⟨n, j, b, e, l⟩ := d
  exact ⟨n, j, b, e, Nat.le_trans l h⟩
theorem DrAt.same {H H' : Hp} {p : Addr} {k : Nat} (d : DrAt H p k) (s : Same H H') : DrAt H' p k := by
  obtain ⟨n, j, b, e, l⟩ := d
  exact ⟨n, j, b, s _ _ e, l⟩
theorem DrAt.ne {H : Hp} {p q : Addr} {k : Nat} (d : DrAt H p k) (h : H q = none) : q ≠ p := by
  obtain ⟨n, j, b, e, l⟩ := d
  exact (ne_of_none e h).symm
theorem DrAt.tree {H H' : Hp} {p : Addr} {k : Nat} {v : V} {t : Tr} (d : DrAt H p k) (s : Keep p H H') (h : TrAt H v t) : TrAt H' v t := by
  obtain ⟨n, j, b, e, l⟩ := d
  exact s.tree e h
/-- any of the items, whichever place is read -/
theorem at_any {xs : List V} {C : V → Prop} (h : ∀ x, x ∈ xs → C x) {i : Int} (h0 : 0 ≤ i) (h1 : i < (xs.length : Int)) : ∃ v, atI xs i = some v ∧ C v := by
  have hk : i.toNat < xs.length := by omega
  have ei : i = ((i.toNat : Nat) : Int) := by omega
  exact ⟨xs[i.toNat], at_of ei (List.getElem?_eq_getElem hk), h _ (List.getElem_mem hk)⟩
theorem small_mod {a m : Int} (h0 : 0 < m) (h1 : m < 2 ^ 64) : -(2 ^ 64) < a % m ∧ a % m < 2 ^ 64 := by
  have q1 := Int.emod_nonneg a (show m ≠ 0 by omega)
  have q2 := Int.emod_lt_of_pos a h0
  constructor <;> omega
section
variable {P : Program} {w : World} {K : PySem.W.Frag} {mg : Str → Option Value} {base : Heap}
/-! ### _law_draws -/
theorem sc_law_draws : FnScope n_law_draws ["cell"] (defScope s_law_draws) := ⟨rfl, rfl, rfl, by decide +kernel, rfl, by decide +kernel, by decide +kernel⟩
def spDraws : Sp := fun vs H Q _ => ∃ c : Int, vs = [.int c] ∧ ∀ (H' : Hp) (p : Addr), Same H H' → H p = none → DrAt H' p 0 → Q (.ref p) H'
theorem ok_draws (B : Bl mg) (a : At K mg "_law_draws" s_law_draws) : Df P w K mg base "_law_draws" 1 ["cell"] spDraws := by
  refine Df.mk' a sc_law_draws (fun vs H Q E h => ?_) (fun _ _ _ _ _ _ us hl => match us, hl with | [_], _ => rfl) (fun f cdv A outer s H vs Q E hr h => ?_)
  · obtain ⟨c, rfl, _⟩ := h
    rfl
  obtain ⟨c, rfl, q⟩ := h
  refine ⟨_, (pss_one (ps_ret (pe_lst (pa_cons (pe_op op_mod (pe_callTy call_int1 (by rfl) B.int (by decide +kernel) (pa_cons (pv 0) pa_nil)) (pe_op op_powW (pe_op op_powW (pe_op op_powW pe_int pe_int) pe_int) pe_int)) (pa_cons pe_int (pa_cons (pe_cmpR op_ge (pv 0) (pe_op op_powW pe_int pe_int) (nomark _)) pa_nil)))))), ?_⟩
  refine ⟨_, rfl, .inl ⟨_, rfl, _, _, rfl, rfl, ⟨by decide, by decide +kernel⟩, _, _, rfl, rfl, ⟨by decide, by decide +kernel⟩, _, _, rfl, rfl, ⟨by decide, by decide +kernel⟩, _, _, rfl, rfl, ?_, ?_⟩⟩
  · exact Int.pow_pos (Int.pow_pos (Int.pow_pos (by decide)))
  refine ⟨_, rfl, _, _, rfl, rfl, ⟨by decide, by decide +kernel⟩, _, _, rfl, rfl, (by show 3 ≤ sizeLine; decide), fun p hp => ?_⟩
  exact q _ p (Same.new hp) hp ⟨_, 0, _, upd_same, Nat.le_refl _⟩
/-! ### _law_next -/
theorem sc_law_next : FnScope n_law_next ["draws"] (defScope s_law_next) := ⟨rfl, rfl, rfl, by decide +kernel, rfl, by decide +kernel, by decide +kernel⟩
def spNext : Sp := fun vs H Q _ => ∃ (p : Addr) (k : Nat), vs = [.ref p] ∧ DrAt H p k ∧ k ≤ 100000 ∧ ∀ (H' : Hp) (r : Int), Keep p H H' → DrAt H' p (k + 1) → 0 ≤ r → r < 2147483648 → Q (.int r) H'
theorem ok_next (B : Bl mg) (a : At K mg "_law_next" s_law_next) : Df P w K mg base "_law_next" 1 ["draws"] spNext := by
  refine Df.mk' a sc_law_next (fun vs H Q E h => ?_) (fun _ _ _ _ _ _ us hl => match us, hl with | [_], _ => rfl) (fun f cdv A outer s H vs Q E hr h => ?_)
  · obtain ⟨p, k, rfl, _⟩ := h
    rfl
  obtain ⟨p, k, rfl, ⟨n, j, b, e, hj⟩, hk, q⟩ := h
  refine ⟨_, (pss_cons (ps_asg (pe_op op_add (pe_ix ix_list (pv 0) pe_int (fun _ _ => rfl)) pe_int) (pg_sub (pv 0) pe_int set_list))
 (pss_cons (ps_set (i := 1) sc_law_next.nd rfl (.inl rfl) (pe_ix ix_list (pv 0) pe_int (fun _ _ => rfl)))
 (pss_cons (ps_if (pt_val (pe_ix ix_list (pv 0) pe_int (fun _ _ => rfl))) (pss_cons (ps_set (i := 2) sc_law_next.nd rfl (.inl rfl) (pe_op op_mod (pe_callTy call_int1 (by rfl) B.int (by decide +kernel) (pa_cons (pe_ix ix_list (pv 0) pe_int (fun _ _ => rfl)) pa_nil)) (pe_op op_powW pe_int pe_int)))
 (pss_cons (ps_asg (pe_op op_fdiv (pe_ix ix_list (pv 0) pe_int (fun _ _ => rfl)) (pe_op op_powW pe_int pe_int)) (pg_sub (pv 0) pe_int set_list))
 (pss_one (ps_ret (pv 2))))) pss_nil)
 (pss_cons (ps_set (i := 2) sc_law_next.nd rfl (.inl rfl) (pe_op op_mod (pe_callTy call_int1 (by rfl) B.int (by decide +kernel) (pa_cons (pe_op op_mul (pe_op op_add (pe_op op_add (pe_op op_mod (pe_callTy call_int1 (by rfl) B.int (by decide +kernel) (pa_cons (pe_ix ix_list (pv 0) pe_int (fun _ _ => rfl)) pa_nil)) pe_int) (pe_op op_mul (pe_op op_mul (pv 1) (pv 1)) pe_int)) (pv 1)) pe_int) pa_nil)) pe_int))
 (pss_cons (ps_set (i := 2) sc_law_next.nd rfl (.inl rfl) (pe_op op_mod (pe_callTy call_int1 (by rfl) B.int (by decide +kernel) (pa_cons (pe_op op_mul (pv 2) (pv 2)) pa_nil)) pe_int))
 (pss_one (ps_ret (pe_op op_fdiv (pe_op op_mod (pe_callTy call_int1 (by rfl) B.int (by decide +kernel) (pa_cons (pe_op op_mul (pv 2) (pe_op op_add (pv 2) pe_int)) pa_nil)) pe_int) pe_int)))))))), ?_⟩
  have e1 : (upd H p (.lst ([V.int n, .int (j : Int), .bl b].set 1 (.int ((j : Int) + 1))))) p = some (.lst [.int n, .int ((j + 1 : Nat) : Int), .bl b]) := by
    rw [upd_same]
    rfl
  refine ⟨_, rfl, p, _, _, _, rfl, rfl, .of e, atI_nat (j := 1) rfl, _, _, rfl, rfl, _, rfl, p, _, _, 1, rfl, rfl, e, rfl, ?_⟩
  have kp1 : Keep p H (upd H p (.lst ([V.int n, .int (j : Int), .bl b].set 1 (.int ((j : Int) + 1))))) := Keep.at
  generalize upd H p (.lst ([V.int n, .int (j : Int), .bl b].set 1 (.int ((j : Int) + 1)))) = H1 at e1 kp1 ⊢
  refine ⟨_, rfl, p, _, _, _, rfl, rfl, .of e1, atI_nat (j := 1) rfl, ?_⟩
  refine ⟨_, rfl, p, _, _, _, rfl, rfl, .of e1, atI_nat (j := 2) rfl, b, rfl, ?_⟩
  refine ite2 (fun c => ?_) (fun c => ?_)
  · refine ⟨_, rfl, p, _, _, _, rfl, rfl, .of e1, atI_nat (j := 0) rfl, .inl ⟨_, rfl, _, _, rfl, rfl, ⟨by decide, by decide +kernel⟩, _, _, rfl, rfl, Int.pow_pos (by decide), ?_⟩⟩
    refine ⟨_, rfl, p, _, _, _, rfl, rfl, .of e1, atI_nat (j := 0) rfl, _, _, rfl, rfl, ⟨by decide, by decide +kernel⟩, _, _, rfl, rfl, ⟨by decide, by decide⟩, _, rfl, p, _, _, 0, rfl, rfl, e1, rfl, ?_⟩
    refine ⟨_, rfl, q _ _ (kp1.trans Keep.at) ⟨_, j + 1, b, upd_same, by omega⟩ (Int.emod_nonneg _ (by decide)) ?_⟩
    have h6 : n % (1000000 : Int) < 1000000 := Int.emod_lt_of_pos n (by decide)
    exact Int.lt_trans h6 (by decide)
  · have k1 : -(2 ^ 64) < ((j + 1 : Nat) : Int) := by omega
    have k2 : ((j + 1 : Nat) : Int) < 2 ^ 64 := by omega
    refine ⟨_, rfl, p, _, _, _, rfl, rfl, .of e1, atI_nat (j := 0) rfl, .inl ⟨_, rfl, _, _, rfl, rfl, (by show (0 : Int) < 1000003; decide), _, rfl, _, rfl, _, _, rfl, rfl, .inl ⟨k1, k2⟩, _, _, rfl, rfl, .inr ⟨by decide, by decide⟩, _, _, rfl, rfl, _, rfl, _, _, rfl, rfl, _, _, rfl, rfl, .inr ⟨by decide, by decide⟩,
      .inl ⟨_, rfl, _, _, rfl, rfl, (by show (0 : Int) < 2147483629; decide), ?_⟩⟩⟩
    refine ⟨_, rfl, _, rfl, _, _, rfl, rfl, .inl (small_mod (by decide) (by decide)), .inl ⟨_, rfl, _, _, rfl, rfl, (by show (0 : Int) < 2147483587; decide), ?_⟩⟩
    refine ⟨_, rfl, _, rfl, _, _, rfl, rfl, _, _, rfl, rfl, .inl (small_mod (by decide) (by decide)), .inl ⟨_, rfl, _, _, rfl, rfl, (by show (0 : Int) < 2147483579; decide), _, _, rfl, rfl, ⟨by decide, by decide⟩, ?_⟩⟩
    refine q _ _ kp1 ⟨n, j + 1, b, e1, by omega⟩ (Int.ediv_nonneg (Int.emod_nonneg _ (by decide)) (by decide)) ?_
    exact Int.lt_of_le_of_lt (Int.ediv_le_self _ (Int.emod_nonneg _ (by decide))) (Int.lt_trans (Int.emod_lt_of_pos _ (by decide)) (by decide))
end
end HSP
namespace HSP
open PySem PySem.Spec PyProof.Rows L2
section
variable {P : Program} {w : World} {K : PySem.W.Frag} {mg : Str → Option Value} {base : Heap}
/-- nothing can be asked: no room is needed -/
theorem Df.none' {x : Str} {st : Stmt} {ps : List Str} {sp : Sp} (a : At K mg x st) (no : ∀ vs H Q E, ¬ sp vs H Q E)
    (hb : ∀ (kV doc pm : Value) (an : Option Addr) (cdv ct : Value) (us : List Value), us.length = ps.length → bindArgs (PySem.W.fnOf x x (defArgs st) (defBody st) (defScope st) .none kV doc pm an cdv ct) ⟨us, []⟩ = pure (ps.zip us)) (k : Nat) : Df P w K mg base x k ps sp := by
  obtain ⟨f, fd, hm, F⟩ := a
  exact ⟨f, fd, hm, F.kp, F.binds hb, ⟨fun vs H Q E h => absurd h (no vs H Q E), fun A outer s H args us vs Q E _ _ _ _ h => absurd h (no vs H Q E)⟩⟩
def spSize (n : Nat) : Sp := fun vs H Q _ => ∃ (v : V) (t : Tr), vs = [v] ∧ TrAt H v t ∧ t.ht < n ∧ Q (.int t.size) H
end
end HSP
namespace HSP
open PySem PySem.Spec PyProof.Rows L2
section
variable {P : Program} {w : World} {K : PySem.W.Frag} {mg : Str → Option Value} {base : Heap}
/-! ### halved, by either rule -/
theorem sc_halvedR : FnScope n_halved ["length", "rule"] (defScope s_halved) := ⟨rfl, rfl, rfl, by decide +kernel, rfl, by decide +kernel, by decide +kernel⟩
def ruleV (up : Bool) : V := if up = true then .str "upper" else .str "lower"
def spHalvedR (n : Nat) : Sp := fun vs H Q _ => ∃ (m k : Nat) (up : Bool), n = k + 1 ∧ vs = [natV m, ruleV up] ∧ m < 2 ^ k ∧ ∀ (H' : Hp) (v : V) (t : Tr), Same H H' → TrAt H' v t → t.size = m → t.ht ≤ k → Q v H'
theorem ok_halvedR (a : At K mg "halved" s_halved) : ∀ n, Df P w K mg base "halved" (n + 1) ["length", "rule"] (spHalvedR n)
  | 0 => Df.none' a (fun vs H Q E h => by obtain ⟨m, k, up, h, _⟩ := h; exact absurd h (by omega)) (fun _ _ _ _ _ _ us hl => match us, hl with | [_, _], _ => rfl) 1
  | n + 1 => by
    have D := ok_halvedR a n
    refine Df.mk' a sc_halvedR (fun vs H Q E h => ?_) (fun _ _ _ _ _ _ us hl => match us, hl with | [_, _], _ => rfl) (fun f cdv A outer s H vs Q E hr h => ?_)
    · obtain ⟨m, k, up, _, rfl, _⟩ := h
      rfl
    obtain ⟨m, k, up, hk, rfl, hm, q⟩ := h
    cases (show n = k by omega)
    refine ⟨_, (pss_cons (ps_if (pt_cmpR op_lt (pv 0) pe_int (nomark _)) (pss_one (ps_ret pe_non)) pss_nil)
 (C8.pss_cut (ps_set (i := 2) sc_halvedR.nd rfl (.inl rfl) (pe_ifExp (pt_cmpR op_eq (pv 1) pe_str (nomark _)) (pe_op op_fdiv (pv 0) pe_int) (pe_op op_fdiv (pe_op op_sub (pv 0) pe_int) pe_int)))
 (pss_one (ps_ret (pe_tup (pa_cons (pe_df D hr (pa_cons (pv 2) (pa_cons (pv 1) pa_nil))) (pa_cons (pe_df D hr (pa_cons (pe_op op_sub (pe_op op_sub (pv 0) (pv 2)) pe_int) (pa_cons (pv 1) pa_nil))) pa_nil))))))), ?_⟩
    refine ⟨_, rfl, _, _, rfl, rfl, _, rfl, ?_⟩
    cases m with
    | zero => exact iteT (q H .non .nil (Same.refl _) .nil rfl (Nat.zero_le _))
    | succ m =>
      refine ite_no (by omega) ?_
      cases n with
      | zero =>
        have e : 2 ^ 0 = 1 := rfl
        omega
      | succ n =>
        have e2 : 2 ^ (n + 1) = 2 ^ n * 2 := Nat.pow_succ 2 n
        refine ⟨fun σ H' => H' = H ∧ ∃ r : Nat, σ = [some (natV (m + 1)), some (ruleV up), some (natV r)] ∧ r < 2 ^ n ∧ m + 1 - r - 1 < 2 ^ n ∧ r ≤ m, ?_, ?_⟩
        · cases up with
          | true =>
            refine ⟨_, rfl, rfl, _, rfl, ite_yes rfl ?_⟩
            refine ⟨_, rfl, _, _, rfl, rfl, ⟨by decide, by decide⟩, ?_⟩
            exact ⟨rfl, (m + 1) / 2, congrArg (fun z => [some (natV (m + 1)), some (ruleV true), some (V.int z)]) (by omega : ((m + 1 : Nat) : Int) / 2 = (((m + 1) / 2 : Nat) : Int)), by omega, by omega, by omega⟩
          | false =>
            refine ⟨_, rfl, rfl, _, rfl, ite_no (by decide +kernel) ?_⟩
            refine ⟨_, rfl, _, _, rfl, rfl, _, _, rfl, rfl, ⟨by decide, by decide⟩, ?_⟩
            exact ⟨rfl, m / 2, congrArg (fun z => [some (natV (m + 1)), some (ruleV false), some (V.int z)]) (by omega : (((m + 1 : Nat) : Int) - 1) / 2 = ((m / 2 : Nat) : Int)), by omega, by omega, by omega⟩
        rintro σ H' ⟨rfl, r, rfl, h1, h2, h3⟩
        refine ⟨_, rfl, _, rfl, r, n, up, rfl, rfl, h1, fun H1 v1 t1 s1 tv1 z1 g1 => ?_⟩
        refine ⟨_, rfl, _, rfl, _, _, rfl, rfl, _, _, rfl, rfl, _, rfl, m + 1 - r - 1, n, up, rfl, congrArg (fun z => [V.int z, ruleV up]) (by omega : ((m + 1 : Nat) : Int) - (r : Int) - 1 = ((m + 1 - r - 1 : Nat) : Int)), h2, fun H2 v2 t2 s2 tv2 z2 g2 => ?_⟩
        refine ⟨(by show 2 ≤ sizeLine; decide), fun T hT => ?_⟩
        have s3 := Same.new (o := .tup [v1, v2]) hT
        refine q _ (.ref T) (.nod t1 t2) (s1.trans (s2.trans s3)) (.nod upd_same ((tv1.same s2).same s3) (tv2.same s3)) ?_ ?_
        · show t1.size + 1 + t2.size = _
          omega
        · show max t1.ht t2.ht + 1 ≤ _
          omega
/-! ### tree_of -/
theorem sc_treeOf : FnScope n_tree_of ["length", "rule"] (defScope s_tree_of) := ⟨rfl, rfl, rfl, by decide +kernel, rfl, by decide +kernel, by decide +kernel⟩
def spTreeOf : Sp := fun vs H Q _ => ∃ (m : Nat) (up : Bool), vs = [natV m, ruleV up] ∧ m < 2 ^ 7 ∧ ∀ (H' : Hp) (v : V) (t : Tr), Same H H' → TrAt H' v t → t.size = m → t.ht ≤ 7 → Q v H'
structure TreeOf (P : Program) (w : World) (K : PySem.W.Frag) (mg : Str → Option Value) (base : Heap) : Prop where
  ex : ∃ (f : Addr) (fd : FuncData), mg "tree_of" = some (.ref f) ∧ PySem.W.keepIn K (.ref f) = true ∧ KBn K fd ["length", "rule"] 1 ["rule"] (fun us ws => us ++ ws) (fun vs zs => vs ++ zs) ∧ FnOk P w K mg base CX0 10 f fd ["length", "rule"] spTreeOf
def AtO (K : PySem.W.Frag) (mg : Str → Option Value) : Prop := ∃ (f : Addr) (fd : FuncData), mg "tree_of" = some (.ref f) ∧ FunD K "tree_of" "tree_of" (defArgs s_tree_of) (defBody s_tree_of) (defScope s_tree_of) [] [("rule", .str "upper")] f fd
theorem ok_treeOf (B : Bl mg) (D : Df P w K mg base "halved" 9 ["length", "rule"] (spHalvedR 8)) (a : AtO K mg) : TreeOf P w K mg base := by
  obtain ⟨f, fd, hm, F⟩ := a
  refine ⟨f, fd, hm, F.kp, ⟨fun s us ws _ h1 h2 => ?_, fun r1 r2 => r1.append r2⟩, ?_⟩
  · obtain ⟨oc, od, dV, kV, doc, pm, an, cdv, ct, osl, rfl, lk, hcd, hD, hK⟩ := F.ex
    rcases hD with ⟨_, rfl⟩ | ⟨e, _⟩
    · match us, ws, h1, h2 with
      | [_], [_], _, _ => exact .of_eq rfl
    · exact absurd rfl e
  refine F.ok sc_treeOf (fun vs H Q E h => ?_) (fun cdv A outer s H vs Q E hr h => ?_)
  · obtain ⟨m, up, rfl, _⟩ := h
    rfl
  obtain ⟨m, up, rfl, hm, q⟩ := h
  refine ⟨_, PSs.nox (pss_cons (ps_if (PW.pt (pw_or (pt_not (pt_val (pe_callB call_isi (by rfl) B.isinstance (by decide +kernel) (pa_cons (pv 1) (pa_cons (pe_bltn (v := .ty "str") (by rfl) B.str (by decide +kernel) rfl) pa_nil))))) (pw_or1 (pt_cmpR op_notIn_seq (pv 1) (pe_tup (pa_cons pe_str (pa_cons pe_str pa_nil))) (by rfl))))) (pss_one ps_never) pss_nil)
 (pss_one (ps_ret (pe_df D hr (pa_cons (pv 0) (pa_cons (pv 1) pa_nil)))))), ?_⟩
  have two : 2 ≤ sizeLine := by show 2 ≤ sizeLine; decide
  have str : TyX K H (ruleV up) (.type "str") := by cases up <;> exact .base (.str _)
  refine ⟨_, rfl, _, _, _, _, true, rfl, .ty "str", str, rfl, true, rfl, iteF ?_⟩
  refine ⟨_, rfl, two, fun T hT => ?_⟩
  have sT := Same.new (o := .tup [V.str "upper", V.str "lower"]) hT
  refine ⟨T, _, rfl, .inr (.of upd_same), (by cases up <;> rfl), rfl, _, rfl, ?_⟩
  rw [show inV (ruleV up) [.str "upper", .str "lower"] = true by cases up <;> decide +kernel]
  refine iteF ?_
  exact ⟨_, rfl, _, rfl, m, 7, up, rfl, rfl, hm, fun H1 v t s1 tv z g => q _ v t (sT.trans s1) tv z g⟩
end
section
variable {X : Cx} {p pos : Pos} {e : Expr} {es : List Expr} {kws : List Keyword} {t tk : TA}
/-- tree_of(length, rule=..) -/
theorem pe_treeOf (J : TreeOf X.prog X.w X.K X.mg X.base) (hr : Room 10 X.A) (ha : PA X (e :: es) t) (hkw : PK X kws tk) (hg : Gl X "tree_of" := by rfl) (hall : (backToKw pos (keywordEach kws X.env)).all (·.1.isSome) = true := by rfl) (hks : (backToKw pos (keywordEach kws X.env)).filterMap (·.1) = (["rule"] : List Str) := by rfl)
    (he : starEach (e :: es) X.env = (false, eval e X.env) :: starEach es X.env := by rfl)
    (hpl : ((backTo pos (starEach (e :: es) X.env)).any (·.1) || (backToKw pos (keywordEach kws X.env)).any (·.1.isNone)) = false := by rfl) :
    PE X (.Call (.Name "tree_of" p) (e :: es) kws pos) (tCallN 1 1 spTreeOf (fun vs zs => vs ++ zs) E0 t tk) := by
  obtain ⟨f, fd, hm, hk, kb, F⟩ := J.ex
  exact pe_callN F hr hg hm hk kb pass0 ha hkw hall hks (by decide) he hpl
end
end HSP
namespace HSP
open PySem PySem.Spec PyProof.Rows L2
section
variable {P : Program} {w : World} {K : PySem.W.Frag} {mg : Str → Option Value} {base : Heap}
/-! ### tree_of without a rule -/
structure TreeOf1 (P : Program) (w : World) (K : PySem.W.Frag) (mg : Str → Option Value) (base : Heap) : Prop where
  ex : ∃ (f : Addr) (fd : FuncData) (ds : List Value), mg "tree_of" = some (.ref f) ∧ PySem.W.keepIn K (.ref f) = true ∧ Binds K fd ["length", "rule"] ds ∧ Vals [V.str "upper"] ds ∧ FnOk P w K mg base CX0 10 f fd ["length", "rule"] spTreeOf
theorem ok_treeOf1 (B : Bl mg) (D : Df P w K mg base "halved" 9 ["length", "rule"] (spHalvedR 8)) (a : AtO K mg) : TreeOf1 P w K mg base := by
  obtain ⟨f, fd, hm, F⟩ := a
  obtain ⟨ds, r, bn⟩ := F.binds0 (ps := ["length", "rule"]) 1 (by decide) rfl fun D doc pm an cdv ct us ks h1 h2 => match us, ks, h1, h2 with
    | [_], [_], _, _ => ⟨_, _, _, _, _, _, rfl, rfl, rfl⟩
  refine ⟨f, fd, ds, hm, F.kp, bn, r, ?_⟩
  refine F.ok sc_treeOf (fun vs H Q E h => ?_) (fun cdv A outer s H vs Q E hr h => ?_)
  · obtain ⟨m, up, rfl, _⟩ := h
    rfl
  obtain ⟨m, up, rfl, hm, q⟩ := h
  refine ⟨_, PSs.nox (pss_cons (ps_if (PW.pt (pw_or (pt_not (pt_val (pe_callB call_isi (by rfl) B.isinstance (by decide +kernel) (pa_cons (pv 1) (pa_cons (pe_bltn (v := .ty "str") (by rfl) B.str (by decide +kernel) rfl) pa_nil))))) (pw_or1 (pt_cmpR op_notIn_seq (pv 1) (pe_tup (pa_cons pe_str (pa_cons pe_str pa_nil))) (by rfl))))) (pss_one ps_never) pss_nil)
 (pss_one (ps_ret (pe_df D hr (pa_cons (pv 0) (pa_cons (pv 1) pa_nil)))))), ?_⟩
  have two : 2 ≤ sizeLine := by show 2 ≤ sizeLine; decide
  have str : TyX K H (ruleV up) (.type "str") := by cases up <;> exact .base (.str _)
  refine ⟨_, rfl, _, _, _, _, true, rfl, .ty "str", str, rfl, true, rfl, iteF ?_⟩
  refine ⟨_, rfl, two, fun T hT => ?_⟩
  have sT := Same.new (o := .tup [V.str "upper", V.str "lower"]) hT
  refine ⟨T, _, rfl, .inr (.of upd_same), (by cases up <;> rfl), rfl, _, rfl, ?_⟩
  rw [show inV (ruleV up) [.str "upper", .str "lower"] = true by cases up <;> decide +kernel]
  refine iteF ?_
  exact ⟨_, rfl, _, rfl, m, 7, up, rfl, rfl, hm, fun H1 v t s1 tv z g => q _ v t (sT.trans s1) tv z g⟩
end
section
variable {X : Cx} {p pos : Pos} {e : Expr} {es : List Expr} {t : TA}
theorem pe_treeOf1 (J : TreeOf1 X.prog X.w X.K X.mg X.base) (hr : Room 10 X.A) (ha : PA X (e :: es) t) (hg : Gl X "tree_of" := by rfl) (he : starEach (e :: es) X.env = (false, eval e X.env) :: starEach es X.env := by rfl) (hpl : (backTo pos (starEach es X.env)).any (·.1) = false := by rfl) :
    PE X (.Call (.Name "tree_of" p) (e :: es) [] pos) (tCall spTreeOf [V.str "upper"] E0 t) := by
  obtain ⟨f, fd, ds, hm, hk, bn, r, F⟩ := J.ex
  exact pe_call F hr hg hm hk bn r pass0 ha (by decide) he hpl
end
end HSP
namespace HSP
open PySem PySem.Spec PyProof.Rows L2
section
variable {P : Program} {w : World} {K : PySem.W.Frag} {mg : Str → Option Value} {base : Heap}
/-! ### _law_size -/
theorem sc_law_size : FnScope n_law_size n_law_size (defScope s_law_size) := ⟨rfl, rfl, rfl, by decide +kernel, rfl, by decide +kernel, by decide +kernel⟩
theorem ok_size (a : At K mg "_law_size" s_law_size) : ∀ n, Df P w K mg base "_law_size" n n_law_size (spSize n)
  | 0 => Df.none' a (fun vs H Q E h => by obtain ⟨v, t, _, _, h, _⟩ := h; exact absurd h (Nat.not_lt_zero _)) (fun _ _ _ _ _ _ us hl => match us, hl with | [_], _ => rfl) 0
  | n + 1 => by
    have S := ok_size a n
    refine Df.mk' a sc_law_size (fun vs H Q E h => ?_) (fun _ _ _ _ _ _ us hl => match us, hl with | [_], _ => rfl) (fun f cdv A outer s H vs Q E hr h => ?_)
    · obtain ⟨v, t, rfl, _⟩ := h
      rfl
    obtain ⟨v, t, rfl, ht, hd, q⟩ := h
    refine ⟨_, (pss_one (ps_ret (pe_ifExp (pt_cmpR op_isN (pv 0) pe_non (nomark _)) pe_int (pe_op op_add (pe_op op_add (pe_df S hr (pa_cons (pe_ix ix_tup (pv 0) pe_int (fun _ _ => rfl)) pa_nil)) pe_int) (pe_df S hr (pa_cons (pe_ix ix_tup (pv 0) pe_int (fun _ _ => rfl)) pa_nil)))))), ?_⟩
    refine ⟨v, rfl, rfl, _, rfl, ?_⟩
    cases ht with
    | nil => exact iteT q
    | @nod b x1 x2 l r e hl hr2 =>
      have hd' : max l.ht r.ht + 1 < n + 1 := hd
      refine iteF ?_
      refine ⟨_, rfl, b, _, _, x1, rfl, rfl, .of e, atI_nat (j := 0) rfl, x1, l, rfl, hl, by omega, ?_⟩
      refine ⟨_, _, rfl, rfl, _, rfl, b, _, _, x2, rfl, rfl, .of e, atI_nat (j := 1) rfl, x2, r, rfl, hr2, by omega, ?_⟩
      refine ⟨_, _, rfl, rfl, ?_⟩
      have e2 : ((l.size : Int) + 1 + (r.size : Int)) = (((Tr.nod l r).size : Nat) : Int) := by
        show _ = ((l.size + 1 + r.size : Nat) : Int)
        omega
      rw [← e2] at q
      exact q
/-! ### _law_tree -/
theorem sc_law_tree : FnScope n_law_tree ["draws", "room"] (defScope s_law_tree) := ⟨rfl, rfl, rfl, by decide +kernel, rfl, by decide +kernel, by decide +kernel⟩
def spDraw (n : Nat) : Sp := fun vs H Q _ => ∃ (p : Addr) (m k : Nat), vs = [.ref p, .int (m : Int)] ∧ m < n ∧ DrAt H p k ∧ k + 2 * m ≤ 100000 ∧ ∀ (H' : Hp) (v : V) (t : Tr), Keep p H H' → DrAt H' p (k + 2 * m) → TrAt H' v t → t.size = m → Q v H'
theorem ok_drawT (B : Bl mg) (N : Df P w K mg base "_law_next" 1 ["draws"] spNext) (a : At K mg "_law_tree" s_law_tree) : ∀ n, Df P w K mg base "_law_tree" (n + 1) ["draws", "room"] (spDraw n)
  | 0 => Df.none' a (fun vs H Q E h => by obtain ⟨p, m, k, _, h, _⟩ := h; exact absurd h (Nat.not_lt_zero _)) (fun _ _ _ _ _ _ us hl => match us, hl with | [_, _], _ => rfl) 1
  | n + 1 => by
    have D := ok_drawT B N a n
    refine Df.mk' a sc_law_tree (fun vs H Q E h => ?_) (fun _ _ _ _ _ _ us hl => match us, hl with | [_, _], _ => rfl) (fun f cdv A outer s H vs Q E hr h => ?_)
    · obtain ⟨p, m, k, rfl, _⟩ := h
      rfl
    obtain ⟨p, m, k, rfl, hm, hd, hk, q⟩ := h
    refine ⟨_, (pss_cons (ps_if (pt_cmpR op_eq (pv 1) pe_int (nomark _)) (pss_one (ps_ret pe_non)) pss_nil)
 (pss_cons (ps_set (i := 2) sc_law_tree.nd rfl (.inl rfl) (pe_ix ix_list (pe_lst (pa_cons (pe_op op_fdiv (pv 1) pe_int) (pa_cons (pe_op op_fdiv (pe_op op_sub (pv 1) pe_int) pe_int) (pa_cons (pe_op op_mod (pe_callTy call_int1 (by rfl) B.int (by decide +kernel) (pa_cons (pe_df N (hr.mono (by omega)) (pa_cons (pv 0) pa_nil)) pa_nil)) (pv 1)) (pa_cons pe_int (pa_cons (pe_op op_sub (pv 1) pe_int) pa_nil)))))) (pe_op op_mod (pe_callTy call_int1 (by rfl) B.int (by decide +kernel) (pa_cons (pe_df N (hr.mono (by omega)) (pa_cons (pv 0) pa_nil)) pa_nil)) pe_int) (fun _ _ => rfl)))
 (pss_one (ps_ret (pe_tup (pa_cons (pe_df D hr (pa_cons (pv 0) (pa_cons (pv 2) pa_nil))) (pa_cons (pe_df D hr (pa_cons (pv 0) (pa_cons (pe_op op_sub (pe_op op_sub (pv 1) (pv 2)) pe_int) pa_nil))) pa_nil))))))), ?_⟩
    refine ⟨_, rfl, rfl, _, rfl, ?_⟩
    refine ite2 (fun c => ?_) (fun c => ?_)
    · have m0 : (m : Int) = 0 := V.int.inj (of_decide_eq_true c)
      exact q H .non .nil (Keep.refl _ _) (hd.mono (by omega)) .nil (by show 0 = m; omega)
    have m1 : ¬ (m : Int) = 0 := fun z => c (decide_eq_true (congrArg V.int z))
    have mp : (0 : Int) < (m : Int) := by omega
    refine ⟨_, rfl, _, _, rfl, rfl, ⟨by decide, by decide⟩, _, rfl, _, _, rfl, rfl, _, _, rfl, rfl, ⟨by decide, by decide⟩, _, rfl, p, k, rfl, hd, by omega, fun H1 r1 kp1 d1 a1 a2 => .inl ⟨_, rfl, _, rfl, _, _, rfl, rfl, mp, _, rfl, _, _, rfl, rfl, (by show 5 ≤ sizeLine; decide), fun L hL => ?_⟩⟩
    refine ⟨_, rfl, p, k + 1, rfl, d1.same (Same.new hL), by omega, fun H2 r2 kp2 d2 a3 a4 => .inl ⟨_, rfl, _, _, rfl, rfl, (by show (0 : Int) < 5; decide), ?_⟩⟩
    have eL := kp2 L _ (d1.ne hL) upd_same
    obtain ⟨x, hx, j, rfl, hj⟩ := at_any (xs := [V.int ((m : Int) / 2), V.int (((m : Int) - 1) / 2), V.int (r1 % (m : Int)), V.int 0, V.int ((m : Int) - 1)]) (C := fun x => ∃ j : Nat, x = V.int (j : Int) ∧ j < m) (fun x hx => by
      have nat : ∀ z : Int, 0 ≤ z → z < (m : Int) → ∃ j : Nat, V.int z = V.int (j : Int) ∧ j < m := fun z z0 z1 => ⟨z.toNat, congrArg V.int (by omega), by omega⟩
      simp only [List.mem_cons, List.not_mem_nil, or_false] at hx
      rcases hx with rfl | rfl | rfl | rfl | rfl
      · exact nat _ (by omega) (by omega)
      · exact nat _ (by omega) (by omega)
      · exact nat _ (Int.emod_nonneg _ (by omega)) (Int.emod_lt_of_pos _ mp)
      · exact nat _ (by omega) (by omega)
      · exact nat _ (by omega) (by omega)) (i := r2 % 5) (Int.emod_nonneg _ (by decide)) (Int.emod_lt_of_pos _ (by decide))
    refine ⟨L, _, _, _, rfl, rfl, .of eL, hx, ?_⟩
    have kpA : Keep p H H2 := kp1.trans ((Keep.new hL).trans kp2)
    refine ⟨_, rfl, _, rfl, p, j, k + 1 + 1, rfl, by omega, d2, by omega, fun H3 v3 t3 kp3 d3 b3 s3 => ?_⟩
    refine ⟨_, rfl, _, rfl, _, rfl, _, _, rfl, rfl, _, _, rfl, rfl, p, m - 1 - j, k + 1 + 1 + 2 * j, congrArg (fun z => [V.ref p, V.int z]) (by omega : (m : Int) - (j : Int) - 1 = ((m - 1 - j : Nat) : Int)), by omega, d3, by omega, fun H4 v4 t4 kp4 d4 b4 s4 => ?_⟩
    refine ⟨(by show 2 ≤ sizeLine; decide), fun T hT => ?_⟩
    have s5 := Same.new (o := .tup [v3, v4]) hT
    refine q _ (.ref T) (.nod t3 t4) (kpA.trans (kp3.trans (kp4.trans (Keep.new hT)))) ((d4.mono (by omega)).same s5) (.nod upd_same ((d3.tree kp4 b3).same s5) (b4.same s5)) ?_
    show t3.size + 1 + t4.size = m
    omega
end
end HSP
namespace HSP
open PySem PySem.Spec PyProof.Rows L2
theorem DrAt.neOf {H : Hp} {p q : Addr} {k : Nat} {ns : List Int} (d : DrAt H p k) (e : H q = some (.lst (ns.map V.int))) : q ≠ p := fun z => by
  obtain ⟨n, j, b, e2, _⟩ := d
  rw [z, e2] at e
  have h := HO.lst.inj (Option.some.inj e)
  match ns, h with
  | [], h => exact absurd (congrArg List.length h) (by simp)
  | [_], h => exact absurd (congrArg List.length h) (by simp)
  | [_, _], h => exact absurd (congrArg List.length h) (by simp)
  | _ :: _ :: z :: _, h => exact absurd (congrArg (fun l => l[2]?) h) (by simp)
theorem DrAt.put {H : Hp} {p q : Addr} {k : Nat} {o : HO} (d : DrAt H p k) (n : q ≠ p) : DrAt (upd H q o) p k := by
  obtain ⟨z, j, b, e, l⟩ := d
  exact ⟨z, j, b, by rw [upd_ne n.symm]; exact e, l⟩
/-- a place that was not tracked at first may be written -/
theorem Keep.put {p q : Addr} {H H1 : Hp} {o : HO} (h : H q = none) (k : Keep p H H1) : Keep p H (upd H1 q o) := fun b u n e => by
  rw [upd_ne (ne_of_none e h)]
  exact k b u n e
/-- a value drawn is near 0 -/
def Near (ns : List Int) : Prop := ∀ v, v ∈ ns → -1000001 ≤ v ∧ v ≤ 1000001
theorem Near.nil : Near [] := fun _ h => by cases h
theorem Near.snoc {ns : List Int} {v : Int} (h : Near ns) (h1 : -1000001 ≤ v ∧ v ≤ 1000001) : Near (ns ++ [v]) := fun x hx => by
  rcases List.mem_append.mp hx with z | z
  · exact h x z
  · rw [List.mem_singleton.mp z]
    exact h1
theorem Near.set {ns : List Int} {v : Int} {i : Nat} (h : Near ns) (h1 : -1000001 ≤ v ∧ v ≤ 1000001) : Near (ns.set i v) := fun x hx => by
  rcases List.mem_or_eq_of_mem_set hx with z | z
  · exact h x z
  · rw [z]
    exact h1
theorem near_of {r sp : Int} (h0 : 0 ≤ sp) (h1 : sp ≤ 1000000) : -1000001 ≤ r % (sp + 1) - sp / 2 ∧ r % (sp + 1) - sp / 2 ≤ 1000001 := by
  have a1 := Int.emod_nonneg r (show sp + 1 ≠ 0 by omega)
  have a2 := Int.emod_lt_of_pos r (show (0 : Int) < sp + 1 by omega)
  omega
end HSP
namespace HSP
open PySem PySem.Spec PyProof.Rows L2
section
variable {P : Program} {w : World} {K : PySem.W.Frag} {mg : Str → Option Value} {base : Heap}
/-! ### _law_values -/
theorem sc_law_values : FnScope n_law_values ["draws", "many"] (defScope s_law_values) := ⟨rfl, rfl, rfl, by decide +kernel, rfl, by decide +kernel, by decide +kernel⟩
def spValues : Sp := fun vs H Q _ => ∃ (p : Addr) (m k : Nat), vs = [.ref p, .int (m : Int)] ∧ m ≤ 1000 ∧ DrAt H p k ∧ k + m + 10 ≤ 100000 ∧ ∀ (H' : Hp) (q : Addr) (ns : List Int), Keep p H H' → DrAt H' p (k + m + 10) → H q = none → H' q = some (.lst (ns.map V.int)) → ns.length = m → Near ns → Q (.ref q) H'
theorem ok_values (B : Bl mg) (N : Df P w K mg base "_law_next" 1 ["draws"] spNext) (a : At K mg "_law_values" s_law_values) : Df P w K mg base "_law_values" 2 ["draws", "many"] spValues := by
  refine Df.mk' a sc_law_values (fun vs H Q E h => ?_) (fun _ _ _ _ _ _ us hl => match us, hl with | [_, _], _ => rfl) (fun f cdv A outer s H vs Q E hr h => ?_)
  · obtain ⟨p, m, k, rfl, _⟩ := h
    rfl
  obtain ⟨p, m, k, rfl, hm, hd, hk, q⟩ := h
  refine ⟨_, (pss_cons (ps_set (i := 2) sc_law_values.nd rfl (.inl rfl) (pe_df N hr (pa_cons (pv 0) pa_nil)))
 (pss_cons (ps_set (i := 3) sc_law_values.nd rfl (.inr rfl) (pe_ix ix_list (pe_lst (pa_cons pe_int (pa_cons (pv 1) (pa_cons (pe_op op_add (pe_op op_mul pe_int (pv 1)) pe_int) (pa_cons (pe_op op_powW pe_int pe_int) pa_nil))))) (pe_op op_mod (pe_callTy call_int1 (by rfl) B.int (by decide +kernel) (pa_cons (pv 2) pa_nil)) pe_int) (fun _ _ => rfl)))
 (pss_cons (ps_setLc (i := 5) (own := [("k", 4)]) (g := (gName 4)) (tt := tYes) (by rfl) sc_law_values.nd rfl rfl (sw_true rfl rfl rfl (by decide +kernel)) (pi_range1 (by rfl) B.range (pa_cons (pv 1) pa_nil)) (blkOk_by (N := n_law_values) (sc := defScope s_law_values) (by decide +kernel)) (fun _ _ _ _ _ => (pg_name (i := 4) sc_law_values.nd rfl (.inl rfl))) (fun _ _ _ _ _ => pts_nil) (fun _ _ _ _ _ => (pe_op op_sub (pe_op op_mod (pe_callTy call_int1 (by rfl) B.int (by decide +kernel) (pa_cons (pe_df N hr (pa_cons (pv 0) pa_nil)) pa_nil)) (pe_op op_add (pv 3) pe_int)) (pe_op op_fdiv (pv 3) pe_int))))
 (pss_cons (ps_if (PW.pt (pw_and (pt_cmpR op_eq (pe_op op_mod (pe_callTy call_int1 (by rfl) B.int (by decide +kernel) (pa_cons (pe_op op_fdiv (pv 2) pe_int) pa_nil)) pe_int) pe_int (nomark _)) (pw_and1 (pt_cmpR op_gt (pv 1) pe_int (nomark _))))) (pss_cons (ps_set (i := 5) sc_law_values.nd rfl (.inl rfl) (pe_callB cr_sortedI (by rfl) B.sorted (by decide +kernel) (pa_cons (pv 5) pa_nil)))
 (pss_one (ps_for PassesOwn.never rfl (pi_range1 (by rfl) B.range (pa_cons (pe_op op_mod (pe_callTy call_int1 (by rfl) B.int (by decide +kernel) (pa_cons (pe_op op_fdiv (pv 2) pe_int) pa_nil)) pe_int) pa_nil)) (pg_name (i := 4) sc_law_values.nd rfl (.inl rfl)) (pss_cons (ps_set (i := 6) sc_law_values.nd rfl (.inl rfl) (pe_op op_mod (pe_callTy call_int1 (by rfl) B.int (by decide +kernel) (pa_cons (pe_df N hr (pa_cons (pv 0) pa_nil)) pa_nil)) (pv 1)))
 (pss_one (ps_asg (pe_op op_sub (pe_op op_mod (pe_callTy call_int1 (by rfl) B.int (by decide +kernel) (pa_cons (pe_df N hr (pa_cons (pv 0) pa_nil)) pa_nil)) (pe_op op_add (pv 3) pe_int)) (pe_op op_fdiv (pv 3) pe_int)) (pg_sub (pv 5) (pv 6) set_list))))))) pss_nil)
 (pss_one (ps_ret (pv 5))))))), ?_⟩
  refine ⟨_, rfl, p, k, rfl, hd, by omega, fun H1 r1 kp1 d1 a1 a2 => ?_⟩
  refine ⟨_, rfl, _, rfl, _, _, rfl, rfl, .inl ⟨by decide, by decide⟩, _, _, rfl, rfl, _, _, rfl, rfl, ⟨by decide, by decide +kernel⟩, (by show 4 ≤ sizeLine; decide), fun L hL => ?_⟩
  obtain ⟨x, hx, sp, rfl, hsp, hsp2⟩ := at_any (xs := [V.int 3, V.int (m : Int), V.int (4 * (m : Int) + 1), V.int ((10 : Int) ^ (6 : Int).toNat)]) (C := fun x => ∃ j : Int, x = V.int j ∧ 0 ≤ j ∧ j ≤ 1000000) (fun x hx => by
    simp only [List.mem_cons, List.not_mem_nil, or_false] at hx
    rcases hx with rfl | rfl | rfl | rfl
    · exact ⟨3, rfl, by decide, by decide⟩
    · exact ⟨_, rfl, by omega, by omega⟩
    · exact ⟨_, rfl, by omega, by omega⟩
    · exact ⟨_, rfl, by decide, by decide⟩) (i := r1 % 4) (Int.emod_nonneg _ (by decide)) (Int.emod_lt_of_pos _ (by decide))
  refine ⟨_, rfl, .inl ⟨_, rfl, _, _, rfl, rfl, (by show (0 : Int) < 4; decide), L, _, _, _, rfl, rfl, .of upd_same, hx, ?_⟩⟩
  have kp2 : Keep p H (upd H1 L (.lst [V.int 3, V.int (m : Int), V.int (4 * (m : Int) + 1), V.int ((10 : Int) ^ (6 : Int).toNat)])) := kp1.trans (Keep.new hL)
  have d2 := d1.same (Same.new (o := .lst [V.int 3, V.int (m : Int), V.int (4 * (m : Int) + 1), V.int ((10 : Int) ^ (6 : Int).toNat)]) hL)
  have free2 : ∀ b, (upd H1 L (.lst [V.int 3, V.int (m : Int), V.int (4 * (m : Int) + 1), V.int ((10 : Int) ^ (6 : Int).toNat)])) b = none → H b = none ∧ b ≠ p := fun b hb => by
    refine ⟨?_, d2.ne hb⟩
    cases e : H b with
    | none => rfl
    | some o => cases hb.symm.trans (kp2 b o (d2.ne hb) e)
  generalize upd H1 L (.lst [V.int 3, V.int (m : Int), V.int (4 * (m : Int) + 1), V.int ((10 : Int) ^ (6 : Int).toNat)]) = H2 at kp2 d2 free2 ⊢
  refine ⟨_, rfl, _, rfl, by omega, by omega, fun D hD => ?_⟩
  refine lc_range (lo := 0) (n := m) (fun i H' => ∃ ns : List Int, Keep p H H' ∧ DrAt H' p (k + 1 + i) ∧ H' D = some (.lst (ns.map V.int)) ∧ ns.length = i ∧ Near ns) ⟨[], kp2.trans (Keep.new hD), d2.same (Same.new hD), upd_same, rfl, .nil⟩ (fun i H3 hi h3 => ?_) (fun H3 h3 => ?_)
  · obtain ⟨ns, kp3, d3, e3, l3, w3⟩ := h3
    refine ⟨rfl, ?_⟩
    refine ⟨_, rfl, p, k + 1 + i, rfl, d3, by omega, fun H4 r2 kp4 d4 b1 b2 => .inl ⟨_, rfl, _, rfl, _, _, rfl, rfl, _, _, rfl, rfl, (by show 0 < sp + 1; omega), _, rfl, _, _, rfl, rfl, ⟨by decide, by decide⟩, _, _, rfl, rfl, _, kp4 D _ (d3.neOf e3) e3, ?_, ?_⟩⟩
    · rw [List.length_map]
      exact small1000 (by omega)
    · refine ⟨ns ++ [r2 % (sp + 1) - sp / 2], Keep.put (free2 D hD).1 (kp3.trans kp4), d4.put (d3.neOf e3), ?_, ?_, w3.snoc (near_of hsp hsp2)⟩
      · rw [upd_same, List.map_append]
        rfl
      · rw [List.length_append, List.length_singleton, l3]
  · obtain ⟨ns, kp3, d3, e3, l3, w3⟩ := h3
    have nD := d3.neOf e3
    refine ⟨_, rfl, _, _, rfl, rfl, ⟨by decide, by decide⟩, .inl ⟨_, rfl, _, _, rfl, rfl, (by show (0 : Int) < 3; decide), rfl, _, rfl, ?_⟩⟩
    have back : Q (.ref D) H3 := q H3 D ns kp3 (d3.mono (by omega)) (free2 D hD).1 e3 l3 w3
    refine ite2 (fun c1 => ?_) (fun c1 => iteF ⟨_, rfl, back⟩)
    refine ⟨_, rfl, _, _, rfl, rfl, _, rfl, ite2 (fun c2 => ?_) (fun c2 => ⟨_, rfl, back⟩)⟩
    have mp : (0 : Int) < (m : Int) := of_decide_eq_true c2
    refine ⟨_, rfl, D, ns, rfl, .of e3, fun ns2 D2 hperm _ hD2 => ?_⟩
    refine ⟨_, rfl, _, _, rfl, rfl, ⟨by decide, by decide⟩, .inl ⟨_, rfl, _, _, rfl, rfl, (by show (0 : Int) < 4; decide), ?_⟩⟩
    have u1 := Int.emod_nonneg (r1 / 12) (show (4 : Int) ≠ 0 by decide)
    have u2 := Int.emod_lt_of_pos (r1 / 12) (show (0 : Int) < 4 by decide)
    refine ⟨_, rfl, by omega, by omega, ?_⟩
    have hD2' : H D2 = none ∧ D2 ≠ p := by
      refine ⟨?_, d3.ne hD2⟩
      cases e : H D2 with
      | none => rfl
      | some o => cases hD2.symm.trans (kp3 D2 o (d3.ne hD2) e)
    refine for_range (lo := 0) (n := (r1 / 12 % 4).toNat) (fun i σ H' => ∃ (ns' : List Int) (y4 y6 : Option V), σ = [some (.ref p), some (.int (m : Int)), some (.int r1), some (.int sp), y4, some (.ref D2), y6] ∧ Keep p H H' ∧ DrAt H' p (k + 1 + m + 2 * i) ∧ H' D2 = some (.lst (ns'.map V.int)) ∧ ns'.length = m ∧ Near ns')
      ⟨ns2, _, _, rfl, Keep.put hD2'.1 kp3, d3.put hD2'.2, upd_same, by rw [hperm.length_eq, l3], fun x hx => w3 x (hperm.mem_iff.mp hx)⟩ (fun i σ H4 hi h4 => ?_) (fun σ H4 h4 => ?_)
    · obtain ⟨ns', y4, y6, rfl, kp4, d4, e4, l4, w4⟩ := h4
      refine ⟨_, rfl, p, k + 1 + m + 2 * i, rfl, d4, by omega, fun H5 r5 kp5 d5 b1 b2 => .inl ⟨_, rfl, _, rfl, _, _, rfl, rfl, mp, ?_⟩⟩
      refine ⟨_, rfl, p, k + 1 + m + 2 * i + 1, rfl, d5, by omega, fun H6 r6 kp6 d6 b3 b4 => .inl ⟨_, rfl, _, rfl, _, _, rfl, rfl, _, _, rfl, rfl, (by show 0 < sp + 1; omega), _, rfl, _, _, rfl, rfl, ⟨by decide, by decide⟩, _, _, rfl, rfl, ?_⟩⟩
      have n4 := d4.neOf e4
      have e6 := kp6 D2 _ n4 (kp5 D2 _ n4 e4)
      have v1 := Int.emod_nonneg r5 (show (m : Int) ≠ 0 by omega)
      have v2 := Int.emod_lt_of_pos r5 mp
      refine ⟨_, rfl, _, rfl, D2, _, _, (r5 % (m : Int)).toNat, rfl, rfl, e6, ?_, ?_⟩
      · rw [List.length_map, l4]
        exact ixN_in v1 v2
      · refine ⟨ns'.set (r5 % (m : Int)).toNat (r6 % (sp + 1) - sp / 2), _, _, rfl, Keep.put hD2'.1 ((kp4.trans kp5).trans kp6), d6.put n4, ?_, ?_, w4.set (near_of hsp hsp2)⟩
        · rw [upd_same, List.map_set]
        · rw [List.length_set, l4]
    · obtain ⟨ns', y4, y6, rfl, kp4, d4, e4, l4, w4⟩ := h4
      exact ⟨_, rfl, q H4 D2 ns' kp4 (d4.mono (by omega)) hD2'.1 e4 l4 w4⟩
end
end HSP
namespace HSP
open PySem PySem.Spec PyProof.Rows L2
/-- the mark at a walk's end -/
def endV (r : Bool × Nat) : V := if r.1 = true then .str "found" else natV r.2
theorem pos_of_lt (b : Bool) : (if b = true then (1 : Int) else 0) = 0 ∨ (if b = true then (1 : Int) else 0) = 1 := by cases b <;> simp
section
variable {P : Program} {w : World} {K : PySem.W.Frag} {mg : Str → Option Value} {base : Heap}
/-! ### _law_visits -/
theorem sc_law_visits : FnScope n_law_visits p_law_visits (defScope s_law_visits) := ⟨rfl, rfl, rfl, by decide +kernel, rfl, by decide +kernel, by decide +kernel⟩
def spVisits (n : Nat) : Sp := fun vs H Q _ => ∃ (v : V) (t : Tr) (a : Addr) (ns : List Int) (tw : Int), vs = [v, .ref a, .int tw] ∧ TrAt H v t ∧ t.ht < n ∧ t.size ≤ 300 ∧ H a = some (.lst (ns.map V.int)) ∧ ns.length = t.size ∧
  ∀ (H' : Hp) (q : Addr), Same H H' → H q = none → H' q = some (.lst ((sPath (valAt ns) tw .fin t 0).map natV ++ [endV (sEnd (valAt ns) tw .fin t 0)])) → Q (.ref q) H'
theorem ok_visits {n : Nat} (B : Bl mg) (Z : Df P w K mg base "_law_size" n n_law_size (spSize n)) (a : At K mg "_law_visits" s_law_visits) : Df P w K mg base "_law_visits" (n + 1) p_law_visits (spVisits n) := by
  refine Df.mk' a sc_law_visits (fun vs H Q E h => ?_) (fun _ _ _ _ _ _ us hl => match us, hl with | [_, _, _], _ => rfl) (fun f cdv A outer s H vs Q E hr h => ?_)
  · obtain ⟨v, t, a, ns, tw, rfl, _⟩ := h
    rfl
  obtain ⟨v, t, a, ns, tw, rfl, ht, hd, hz, ha, hn, q⟩ := h
  refine ⟨_, (pss_cons (ps_set (i := 3) sc_law_visits.nd rfl (.inl rfl) (pe_lst pa_nil))
 (pss_cons (ps_set (i := 4) sc_law_visits.nd rfl (.inl rfl) pe_int)
 (pss_cons (ps_while PassesOwn.never (pt_cmpR op_notN (pv 0) pe_non (nomark _)) (pss_cons (ps_set (i := 5) sc_law_visits.nd rfl (.inl rfl) (pe_op op_add (pv 4) (pe_df Z hr (pa_cons (pe_ix ix_tup (pv 0) pe_int (fun _ _ => rfl)) pa_nil))))
 (pss_cons (ps_expr (pe_bm PySem.F.plainAttrs_list PySem.F.slot_list_append PySem.F.type_list_append mt_append (pv 3) (pa_cons (pv 5) pa_nil)))
 (pss_cons (ps_if (pt_cmpR op_eq (pe_op op_mul pe_int (pe_ix ix_list (pv 1) (pv 5) (fun _ _ => rfl))) (pv 2) (nomark _)) (pss_one (ps_ret (pe_op op_cat (pv 3) (pe_lst (pa_cons pe_str pa_nil))))) pss_nil)
 (pss_cons (ps_if (pt_cmpR op_gt (pv 2) (pe_op op_mul pe_int (pe_ix ix_list (pv 1) (pv 5) (fun _ _ => rfl))) (nomark _)) (pss_one (ps_set (i := 4) sc_law_visits.nd rfl (.inl rfl) (pe_op op_add (pv 5) pe_int))) pss_nil)
 (pss_one (ps_set (i := 0) sc_law_visits.nd rfl (.inl rfl) (pe_ix ix_tup (pv 0) (pe_callTy call_int1 (by rfl) B.int (by decide +kernel) (pa_cons (pe_cmpR op_gt (pv 2) (pe_op op_mul pe_int (pe_ix ix_list (pv 1) (pv 5) (fun _ _ => rfl))) (nomark _)) pa_nil)) (fun _ _ => rfl)))))))))
 (pss_one (ps_ret (pe_op op_cat (pv 3) (pe_lst (pa_cons (pv 4) pa_nil)))))))), ?_⟩
  refine ⟨Nat.zero_le _, fun l hl => ?_⟩
  have s0 : Same H (upd H l (.lst [])) := Same.new hl
  refine ⟨fun k σ H1 => ∃ (x : V) (u : Tr) (f : Nat) (z : List Nat) (y : Option V), σ = [some x, some (.ref a), some (.int tw), some (.ref l), some (.int (f : Int)), y] ∧ Same H H1 ∧ H1 l = some (.lst (z.map natV)) ∧ TrAt H x u ∧ u.ht < n ∧
      f + u.size ≤ t.size ∧ z.length ≤ f + (t.size - (f + u.size)) ∧ sPath (valAt ns) tw .fin t 0 = z ++ sPath (valAt ns) tw .fin u f ∧ sEnd (valAt ns) tw .fin t 0 = sEnd (valAt ns) tw .fin u f ∧ k = u.size,
    ⟨_, v, t, 0, [], none, rfl, s0, upd_same, ht, hd, by omega, by show 0 ≤ _; omega, rfl, rfl, rfl⟩, fun k σ H1 hW => ?_⟩
  obtain ⟨x, u, f, z, y, rfl, sm, el, hx, hux, hf, hzl, hP, hE, rfl⟩ := hW
  refine ⟨x, rfl, rfl, _, rfl, ?_⟩
  cases hx with
  | nil =>
    refine iteF ?_
    refine ⟨_, rfl, _, rfl, (by show 1 ≤ sizeLine; decide), fun e he => ?_⟩
    have s1 := Same.new (o := .lst [V.int (f : Int)]) he
    refine ⟨l, e, _, _, rfl, rfl, s1 _ _ el, upd_same, ?_, fun p hp => ?_⟩
    · rw [List.length_map]
      show z.length + 1 ≤ sizeLine
      exact Nat.le_of_lt (small1000 (by omega))
    · refine q _ p (sm.trans (s1.trans (Same.new hp))) (sm.free (s1.free hp)) ?_
      rw [upd_same, hP, hE]
      show _ = some (HO.lst ((z ++ []).map natV ++ [natV f]))
      rw [List.append_nil]
      rfl
  | @nod b x1 x2 t1 t2 eb h1 h2 =>
    refine iteT ⟨fun σ' H' => ∃ k', k' < (Tr.nod t1 t2).size ∧ ∃ (x : V) (u : Tr) (f : Nat) (z : List Nat) (y : Option V), σ' = [some x, some (.ref a), some (.int tw), some (.ref l), some (.int (f : Int)), y] ∧ Same H H' ∧ H' l = some (.lst (z.map natV)) ∧ TrAt H x u ∧ u.ht < n ∧
      f + u.size ≤ t.size ∧ z.length ≤ f + (t.size - (f + u.size)) ∧ sPath (valAt ns) tw .fin t 0 = z ++ sPath (valAt ns) tw .fin u f ∧ sEnd (valAt ns) tw .fin t 0 = sEnd (valAt ns) tw .fin u f ∧ k' = u.size, fun σ' H' hN => hN, ?_⟩
    have hsz : (Tr.nod t1 t2).size = t1.size + 1 + t2.size := rfl
    have hht : (Tr.nod t1 t2).ht = max t1.ht t2.ht + 1 := rfl
    rw [hsz] at hf hzl
    rw [hht] at hux
    refine ⟨_, rfl, _, rfl, b, _, _, x1, rfl, rfl, .of (sm _ _ eb), atI_nat (j := 0) rfl, x1, t1, rfl, h1.same sm, by omega, _, _, rfl, rfl, ?_⟩
    refine ⟨_, rfl, .inl ⟨rfl, _, .of el⟩, _, rfl, l, _, _, rfl, rfl, el, ?_, ?_⟩
    · rw [List.length_map]
      exact small1000 (by omega)
    have sm3 : Same H (upd H1 l (.lst (z.map natV ++ [V.int ((f : Int) + (t1.size : Int))]))) := fun c o e => by
      rw [upd_ne (ne_of_none e hl)]
      exact sm _ _ e
    have en : V.int ((f : Int) + (t1.size : Int)) = natV (f + t1.size) := congrArg V.int (by omega)
    have el3 : (upd H1 l (.lst (z.map natV ++ [V.int ((f : Int) + (t1.size : Int))]))) l = some (.lst ((z ++ [f + t1.size]).map natV)) := by
      rw [upd_same, List.map_append, en]
      rfl
    generalize upd H1 l (.lst (z.map natV ++ [V.int ((f : Int) + (t1.size : Int))])) = H3 at sm3 el3 ⊢
    have uP : sPath (valAt ns) tw .fin (.nod t1 t2) f = (f + t1.size) :: match wayOf tw (valAt ns (f + t1.size)) .fin with | .fin => [] | .lft => sPath (valAt ns) tw .fin t1 f | .rgt => sPath (valAt ns) tw .fin t2 (f + t1.size + 1) := rfl
    have uE : sEnd (valAt ns) tw .fin (.nod t1 t2) f = match wayOf tw (valAt ns (f + t1.size)) .fin with | .fin => (true, f + t1.size) | .lft => sEnd (valAt ns) tw .fin t1 f | .rgt => sEnd (valAt ns) tw .fin t2 (f + t1.size + 1) := rfl
    rw [uP] at hP
    rw [uE] at hE
    have item := at_of (z := (f : Int) + (t1.size : Int)) (j := f + t1.size) (by omega) (valAt_get (show f + t1.size < ns.length by omega))
    refine ⟨_, rfl, _, rfl, a, _, _, _, rfl, rfl, .of (sm3 _ _ ha), item, _, _, rfl, rfl, .inl ⟨by decide, by decide⟩, _, rfl, rfl, _, rfl, ite2 (fun c => ?_) (fun c => ?_)⟩
    · have c1 : 2 * valAt ns (f + t1.size) = tw := V.int.inj (of_decide_eq_true c)
      have ew : wayOf tw (valAt ns (f + t1.size)) .fin = .fin := by unfold wayOf; rw [if_pos c1.symm]
      rw [ew] at hP hE
      refine ⟨_, rfl, (by show 1 ≤ sizeLine; decide), fun e he => ?_⟩
      have s1 := Same.new (o := .lst [V.str "found"]) he
      refine ⟨l, e, _, _, rfl, rfl, s1 _ _ el3, upd_same, ?_, fun p hp => ?_⟩
      · rw [List.length_map, List.length_append, List.length_singleton]
        show z.length + 1 + 1 ≤ sizeLine
        exact Nat.le_of_lt (small1000 (by omega))
      · refine q _ p (sm3.trans (s1.trans (Same.new hp))) (sm3.free (s1.free hp)) ?_
        rw [upd_same, hP, hE]
        rfl
    · have c1 : ¬ 2 * valAt ns (f + t1.size) = tw := fun z => c (decide_eq_true (congrArg V.int z))
      refine ⟨_, rfl, _, rfl, _, rfl, a, _, _, _, rfl, rfl, .of (sm3 _ _ ha), item, _, _, rfl, rfl, .inl ⟨by decide, by decide⟩, _, _, rfl, rfl, _, rfl, ite2 (fun d => ?_) (fun d => ?_)⟩
      · have d1 : tw > 2 * valAt ns (f + t1.size) := of_decide_eq_true d
        have ew : wayOf tw (valAt ns (f + t1.size)) .fin = .rgt := by unfold wayOf; rw [if_neg (fun z => c1 z.symm), if_neg (by omega)]
        rw [ew] at hP hE
        refine ⟨_, rfl, _, _, rfl, rfl, ?_⟩
        refine ⟨_, rfl, _, rfl, _, rfl, _, rfl, a, _, _, _, rfl, rfl, .of (sm3 _ _ ha), item, _, _, rfl, rfl, .inl ⟨by decide, by decide⟩, _, _, rfl, rfl, .inr ⟨_, rfl, ?_⟩⟩
        refine ⟨b, _, _, x2, rfl, rfl, .of (sm3 _ _ eb), ?_, ?_⟩
        · rw [if_pos d]
          exact atI_nat (j := 1) rfl
        · refine ⟨t2.size, by omega, x2, t2, f + t1.size + 1, z ++ [f + t1.size], some (.int ((f : Int) + (t1.size : Int))), ?_, sm3, el3, h2, by omega, by omega, ?_, ?_, hE, rfl⟩
          · exact congrArg (fun q => [some x2, some (V.ref a), some (V.int tw), some (V.ref l), some (V.int q), some (V.int ((f : Int) + (t1.size : Int)))]) (by omega : (f : Int) + (t1.size : Int) + 1 = ((f + t1.size + 1 : Nat) : Int))
          · rw [List.length_append, List.length_singleton]
            omega
          · rw [hP, List.append_assoc]
            rfl
      · have d1 : ¬ tw > 2 * valAt ns (f + t1.size) := fun z => d (decide_eq_true z)
        have ew : wayOf tw (valAt ns (f + t1.size)) .fin = .lft := by unfold wayOf; rw [if_neg (fun z => c1 z.symm), if_pos (by omega)]
        rw [ew] at hP hE
        refine ⟨_, rfl, _, rfl, _, rfl, _, rfl, a, _, _, _, rfl, rfl, .of (sm3 _ _ ha), item, _, _, rfl, rfl, .inl ⟨by decide, by decide⟩, _, _, rfl, rfl, .inr ⟨_, rfl, ?_⟩⟩
        refine ⟨b, _, _, x1, rfl, rfl, .of (sm3 _ _ eb), ?_, ?_⟩
        · rw [if_neg d]
          exact atI_nat (j := 0) rfl
        · refine ⟨t1.size, by omega, x1, t1, f, z ++ [f + t1.size], some (.int ((f : Int) + (t1.size : Int))), rfl, sm3, el3, h1, by omega, by omega, ?_, ?_, hE, rfl⟩
          · rw [List.length_append, List.length_singleton]
            omega
          · rw [hP, List.append_assoc]
            rfl
end
end HSP
namespace HSP
open PySem PySem.Spec PyProof.Rows L2
/-! ## which numbers a node is met by -/
theorem way_lft {tw v : Int} (h : wayOf tw v .fin = .lft) : tw < 2 * v := by
  by_cases c : tw = 2 * v
  · unfold wayOf at h
    rw [if_pos c] at h
    cases h
  · by_cases d : tw < 2 * v
    · exact d
    · unfold wayOf at h
      rw [if_neg c, if_neg d] at h
      cases h
theorem way_rgt {tw v : Int} (h : wayOf tw v .fin = .rgt) : 2 * v < tw := by
  by_cases c : tw = 2 * v
  · unfold wayOf at h
    rw [if_pos c] at h
    cases h
  · by_cases d : tw < 2 * v
    · unfold wayOf at h
      rw [if_neg c, if_pos d] at h
      cases h
    · omega
/-- on the right side of a value above -/
def Past (g : Nat → Int) (tw : Int) (z : Nat × Bool) : Prop := if z.2 = true then 2 * g z.1 < tw else tw < 2 * g z.1
theorem met (g : Nat → Int) (tw : Int) : ∀ (t : Tr) (f i : Nat), f ≤ i → i < f + t.size → (i ∈ sPath g tw .fin t f ↔ ∀ z, z ∈ pOf t f i → Past g tw z)
  | .nil, f, i, h1, h2 => by
    have : Tr.nil.size = 0 := rfl
    omega
  | .nod l r, f, i, h1, h2 => by
    have e : sPath g tw .fin (.nod l r) f = (f + l.size) :: match wayOf tw (g (f + l.size)) .fin with | .fin => [] | .lft => sPath g tw .fin l f | .rgt => sPath g tw .fin r (f + l.size + 1) := rfl
    have ep : pOf (.nod l r) f i = if i = f + l.size then [] else if i < f + l.size then (f + l.size, false) :: pOf l f i else (f + l.size, true) :: pOf r (f + l.size + 1) i := rfl
    have z : (Tr.nod l r).size = l.size + 1 + r.size := rfl
    rw [z] at h2
    rw [e, ep]
    by_cases c : i = f + l.size
    · rw [if_pos c]
      exact ⟨fun _ z hz => absurd hz List.not_mem_nil, fun _ => by rw [c]; exact List.mem_cons_self⟩
    · rw [if_neg c]
      by_cases d : i < f + l.size
      · rw [if_pos d]
        have ih := met g tw l f i h1 d
        rw [List.mem_cons, List.forall_mem_cons]
        have pz : Past g tw (f + l.size, false) ↔ tw < 2 * g (f + l.size) := Iff.rfl
        rw [pz]
        by_cases k : tw < 2 * g (f + l.size)
        · have w : wayOf tw (g (f + l.size)) .fin = .lft := by unfold wayOf; rw [if_neg (by omega), if_pos k]
          rw [w]
          exact ⟨fun h => ⟨k, ih.mp (h.resolve_left c)⟩, fun h => .inr (ih.mpr h.2)⟩
        · refine ⟨fun h => ?_, fun h => absurd h.1 k⟩
          have h := h.resolve_left c
          cases w : wayOf tw (g (f + l.size)) .fin with
          | fin => rw [w] at h; cases h
          | lft => exact absurd (way_lft w) k
          | rgt =>
            rw [w] at h
            have := sPath_in g tw .fin r (f + l.size + 1) i h
            omega
      · rw [if_neg d]
        have ih := met g tw r (f + l.size + 1) i (by omega) (by omega)
        rw [List.mem_cons, List.forall_mem_cons]
        have pz : Past g tw (f + l.size, true) ↔ 2 * g (f + l.size) < tw := Iff.rfl
        rw [pz]
        by_cases k : 2 * g (f + l.size) < tw
        · have w : wayOf tw (g (f + l.size)) .fin = .rgt := by unfold wayOf; rw [if_neg (by omega), if_neg (by omega)]
          rw [w]
          exact ⟨fun h => ⟨k, ih.mp (h.resolve_left c)⟩, fun h => .inr (ih.mpr h.2)⟩
        · refine ⟨fun h => ?_, fun h => absurd h.1 k⟩
          have h := h.resolve_left c
          cases w : wayOf tw (g (f + l.size)) .fin with
          | fin => rw [w] at h; cases h
          | lft =>
            rw [w] at h
            have := sPath_in g tw .fin l f i h
            omega
          | rgt => exact absurd (way_rgt w) k
/-- between two bounds -/
def Btw (lo hi : Option Int) (tw : Int) : Prop := (∀ l, lo = some l → 2 * l < tw) ∧ ∀ h, hi = some h → tw < 2 * h
theorem past_btw (g : Nat → Int) (tw : Int) : ∀ p : List (Nat × Bool), (∀ z, z ∈ p → Past g tw z) ↔ Btw (lowOf g p) (highOf g p) tw
  | [] => ⟨fun _ => ⟨fun _ h => (by cases h), fun _ h => (by cases h)⟩, fun _ z hz => absurd hz List.not_mem_nil⟩
  | (n, true) :: r => by
    have ih := past_btw g tw r
    have el : lowOf g ((n, true) :: r) = match lowOf g r with | none => some (g n) | some m => some (max (g n) m) := rfl
    have eh : highOf g ((n, true) :: r) = highOf g r := rfl
    rw [List.forall_mem_cons, ih, el, eh]
    have pz : Past g tw (n, true) ↔ 2 * g n < tw := Iff.rfl
    rw [pz]
    cases lowOf g r with
    | none => exact ⟨fun h => ⟨fun l e => (by cases e; exact h.1), h.2.2⟩, fun h => ⟨h.1 _ rfl, fun l e => (by cases e), h.2⟩⟩
    | some m => exact ⟨fun h => ⟨fun l e => (by cases e; have := h.2.1 _ rfl; have := h.1; omega), h.2.2⟩, fun h => ⟨(by have := h.1 _ rfl; omega), fun l e => (by cases e; have := h.1 _ rfl; omega), h.2⟩⟩
  | (n, false) :: r => by
    have ih := past_btw g tw r
    have el : highOf g ((n, false) :: r) = match highOf g r with | none => some (g n) | some m => some (min (g n) m) := rfl
    have eh : lowOf g ((n, false) :: r) = lowOf g r := rfl
    rw [List.forall_mem_cons, ih, el, eh]
    have pz : Past g tw (n, false) ↔ tw < 2 * g n := Iff.rfl
    rw [pz]
    cases highOf g r with
    | none => exact ⟨fun h => ⟨h.2.1, fun l e => (by cases e; exact h.1)⟩, fun h => ⟨h.2 _ rfl, h.1, fun l e => (by cases e)⟩⟩
    | some m => exact ⟨fun h => ⟨h.2.1, fun l e => (by cases e; have := h.2.2 _ rfl; have := h.1; omega)⟩, fun h => ⟨(by have := h.2 _ rfl; omega), h.1, fun l e => (by cases e; have := h.2 _ rfl; omega)⟩⟩
end HSP
namespace HSP
open PySem PySem.Spec PyProof.Rows L2
/-! ## sorted(a set of ints), any number of them -/
section
variable {P : Program} {w : World} {A : Around} {E : Value → Shared → Prop} {s : Shared} {a : Addr}
theorem sorted_setB {S : Int → Bool} {n : Nat} {Q : Value → Shared → Prop} (R : SetR w s.heap a S n) (hh : A.handled = none)
    (hQ : ∀ s' p (out : List Value) (c : Nat) (ns : List Int), (∀ b o, s.heap.get? b = some o → s'.heap.get? b = some o) → s'.gens = s.gens → s'.os = s.os → s.heap.objs.size ≤ p →
      s'.heap.get? p = some (seqObj "list" out.toArray c) → IntsAre out ns → ns.Pairwise (· < ·) → (∀ k, k ∈ ns ↔ S k = true) → ns.length = n → Q (.ref p) s') :
    wpAny (model P w) A (call (.builtin "sorted") [.ref a]) Q E s := by
  obtain ⟨o, es, ep, t, ho, hex, hd, g, nd, hm, hb, hf, hn, hr, hl⟩ := R
  refine Calls.call_function_entry kind_sorted plain_sorted entry_sorted (args_sorted1 _) ?_
  unfold Builtin.«sorted»
  refine wpAny_bind (m := PySem.checkCount "sorted" 1 1 _) (wpAny_pure ?_)
  refine wpAny_bind (collect_set (A := A.in1) hh ⟨o, ho, hex.1, hd⟩ hf hb hr hl fun s1 vs k1 hz g1 o1 pm => ?_)
  have hvl : vs.length = n := by rw [pm.length_eq, List.length_map, Array.length_toList]; exact hn
  have hI : IntsAre vs (vs.map Builtin.Re.reRawOf) := ints_of vs fun v hv => by
    obtain ⟨e, he, q⟩ := List.mem_map.mp (pm.mem_iff.mp hv)
    obtain ⟨k, tk, h1, _⟩ := g e he
    exact ⟨k, tk, by rw [← q]; exact h1⟩
  have pk : (vs.map Builtin.Re.reRawOf).Perm (es.toList.map keyOf) := by
    have q := pm.map Builtin.Re.reRawOf
    rw [List.map_map] at q
    exact q
  have hzl : vs.length ≤ sizeLine := by
    rw [pm.length_eq, List.length_map, Array.length_toList]
    exact fits_of_scanBound hb
  refine wpAny_bind (wpAny_newList ?_ hzl)
  have hoL : (s1.heap.push (seqObj "list" vs.toArray 0)).get? s1.heap.objs.size = some (seqObj "list" vs.toArray 0) := Heap.get?_push_size _ rfl
  refine wpAny_bind (wpAny_holding (wpAny_call_entry slot_list_sort ⟨_, hoL, rfl⟩ entry_list_sort (SrtO.list_sort_ord SrtO.swo_int hoL hzl (fun h2 => SrtO.ints_sortable hI h2) fun out h1 h2 => ⟨_, rfl, ?_⟩) (args_list_sort _)))
  obtain ⟨q1, q2, q3⟩ := SrtO.ints_out hI h1 h2
  obtain ⟨c, hc⟩ := sortedHeap_at (vs := vs) (out := out.toArray) hoL
  have pn := q2.trans pk
  refine wpAny_pure ⟨_, rfl, hQ _ s1.heap.objs.size out c _ (fun b u e => ?_) g1 o1 hz hc q1 (lt_of_le_nodup _ q3 (pn.nodup_iff.mpr nd)) (fun k => by rw [pn.mem_iff, ← hm k]) ?_⟩
  · have q := k1 b u e
    have hlt := Heap.lt_size q
    show (sortedHeap (s1.heap.push (seqObj "list" vs.toArray 0)) s1.heap.objs.size vs out.toArray).get? b = some u
    rw [sortedHeap_old (Nat.ne_of_lt hlt) (by rw [size_push']; exact Nat.lt_succ_of_lt hlt)]
    exact Heap.get?_push_of_some _ q
  · rw [pn.length_eq, List.length_map, Array.length_toList]; exact hn
end
section
variable {X : Cx}
def rSortedSetB (w : World) : List V → Hp → VK → Prop := fun vs H Q => ∃ (a : Addr) (S : Int → Bool) (n : Nat), vs = [V.ref a] ∧ H a = some (SetO w a S n) ∧ n ≤ 10000 ∧
  ∀ (ns : List Int) (p : Addr), ns.Pairwise (· < ·) → (∀ k : Int, k ∈ ns ↔ S k = true) → ns.length = n → H p = none → Q (.ref p) (upd H p (.lst (ns.map V.int)))
theorem cr_sortedSetB (hc : X.calm = true) : CallR X (.builtin "sorted") (rSortedSetB X.w) := by
  intro pins s σ H vs us Q I r h
  obtain ⟨a, S, n, rfl, ha, hnb, q⟩ := h
  have R := setO_get I ha
  rw [Vals.ref1 r]
  refine sorted_setB R (I.ok.hd hc) fun s' p out c ns k g o hp hg hi hs hm hl => ?_
  have hlen : (ns.map V.int).length ≤ sizeLine := by
    rw [List.length_map, hl, sizeLine_eq]
    omega
  have hn : H p = none := I.hok.fresh hp
  have J : Inv X pins σ (upd H p (.lst (ns.map V.int))) { s with heap := s'.heap, gens := s'.gens, drawn := s'.drawn, toks := s'.toks } :=
    I.call (ch := []) (Un.laid k hp hn) (I.hok.laid k hp ⟨hlen, out, c, vals_of_ints hi, hg⟩) (by rw [g]; exact I.bare) (fun _ z => nomatch z)
  have e : s' = { s with heap := s'.heap, gens := s'.gens, drawn := s'.drawn, toks := s'.toks } := by
    cases s'
    cases s
    cases o
    rfl
  rw [e]
  exact ⟨.ref p, _, J, rfl, q ns p hs hm hl hn⟩
end
end HSP
namespace HSP
open PySem PySem.Spec PyProof.Rows L2
/-- the numbers that matter -/
def threeOf (v : Int) : List Int := [2 * v - 1, 2 * v, 2 * v + 1]
theorem three_len (ns : List Int) : ((ns.map threeOf).flatten).length = 3 * ns.length := by
  induction ns with
  | nil => rfl
  | cons v r ih =>
    rw [List.map_cons, List.flatten_cons, List.length_append, ih, List.length_cons]
    show 3 + 3 * r.length = _
    omega
section
variable {P : Program} {w : World} {K : PySem.W.Frag} {mg : Str → Option Value} {base : Heap}
/-! ### _law_probes -/
theorem sc_law_probes : FnScope n_law_probes p_law_probes (defScope s_law_probes) := ⟨rfl, rfl, rfl, by decide +kernel, rfl, by decide +kernel, by decide +kernel⟩
def spProbes : Sp := fun vs H Q _ => ∃ (a : Addr) (ns : List Int), vs = [.ref a] ∧ H a = some (.lst (ns.map V.int)) ∧ ns.length ≤ 100 ∧ ∀ (H' : Hp) (q : Addr) (ps : List Int), Same H H' → H' q = some (.lst (ps.map V.int)) → ps.Pairwise (· < ·) → (∀ k, k ∈ ps ↔ k = 0 ∨ ∃ v, v ∈ ns ∧ k ∈ threeOf v) → ps.length ≤ 3 * ns.length + 1 → Q (.ref q) H'
theorem ok_probes (B : Bl mg) (a : At K mg "_law_probes" s_law_probes) : Df P w K mg base "_law_probes" 1 p_law_probes spProbes := by
  refine Df.mk' a sc_law_probes (fun vs H Q E h => ?_) (fun _ _ _ _ _ _ us hl => match us, hl with | [_], _ => rfl) (fun f cdv A outer s H vs Q E hr h => ?_)
  · obtain ⟨a, ns, rfl, _⟩ := h
    rfl
  obtain ⟨a, ns, rfl, ha, hl, q⟩ := h
  refine ⟨_, (pss_one (ps_ret (pe_callB (cr_sortedSetB rfl) (by rfl) B.sorted (by decide +kernel) (pa_cons (pe_callTy (cr_setInts rfl) (by rfl) B.set (by decide +kernel) (pa_cons (pe_callB (cr_sumL rfl) (by rfl) B.sum (by decide +kernel) (pa_cons (pe_lc (own := [("value", 1)]) (g := (gName 1)) (tt := tYes) (by rfl) sc_law_probes.nd (pi_list (pv 0)) (blkOk_by (N := n_law_probes) (sc := defScope s_law_probes) (by decide +kernel)) (fun _ _ _ _ _ => (pg_name (i := 1) sc_law_probes.nd rfl (.inl rfl))) (fun _ _ _ _ _ => pts_nil) (fun _ _ _ _ _ => (pe_lst (pa_cons (pe_op op_sub (pe_op op_mul pe_int (pv 1)) pe_int) (pa_cons (pe_op op_mul pe_int (pv 1)) (pa_cons (pe_op op_add (pe_op op_mul pe_int (pv 1)) pe_int) pa_nil)))))) (pa_cons (pe_lst (pa_cons pe_int pa_nil)) pa_nil))) pa_nil)) pa_nil)))), ?_⟩
  refine ⟨_, rfl, a, rfl, ⟨_, .of ha⟩, fun D hD => ?_⟩
  have nDa : a ≠ D := ne_of_none ha hD
  refine lc_list (xs := ns.map V.int) (fun i H' => ∃ rows : List Addr, Same H H' ∧ H' D = some (.lst (rows.map V.ref)) ∧ rows.length = i ∧ Paired (fun r zs => H' r = some (.lst (zs.map V.int)) ∧ r ≠ D) rows ((ns.take i).map threeOf)) ⟨[], Same.new hD, upd_same, rfl, .nil⟩ (fun i H3 _ h3 => ?_) (fun i x H3 hx h3 => ?_) (fun H3 h3 => ?_)
  · obtain ⟨rows, s3, _⟩ := h3
    exact .of (s3 _ _ ha)
  · obtain ⟨rows, s3, e3, l3, p3⟩ := h3
    rw [List.getElem?_map] at hx
    cases hv : ns[i]? with
    | none => rw [hv] at hx; cases hx
    | some v =>
      rw [hv] at hx
      cases hx
      have hi : i < ns.length := (List.getElem?_eq_some_iff.mp hv).1
      refine ⟨rfl, ?_⟩
      refine ⟨_, rfl, _, _, rfl, rfl, .inl ⟨by decide, by decide⟩, _, _, rfl, rfl, _, rfl, _, _, rfl, rfl, .inl ⟨by decide, by decide⟩, _, rfl, _, _, rfl, rfl, .inl ⟨by decide, by decide⟩, _, _, rfl, rfl, (by show 3 ≤ sizeLine; decide), fun R hR => ?_⟩
      have sR := Same.new (o := .lst [V.int (2 * v - 1), V.int (2 * v), V.int (2 * v + 1)]) hR
      have nRD : D ≠ R := ne_of_none e3 hR
      refine ⟨_, sR _ _ e3, ?_, ?_⟩
      · rw [List.length_map, l3]
        exact small1000 (by omega)
      · refine ⟨rows ++ [R], fun b o e => ?_, ?_, ?_, ?_⟩
        · rw [upd_ne (ne_of_none e hD)]
          exact sR _ _ (s3 _ _ e)
        · rw [upd_same, List.map_append]
          rfl
        · rw [List.length_append, List.length_singleton, l3]
        · rw [List.take_add_one, hv, List.map_append]
          refine Paired.app (Paired.mapP p3 fun r zs h => ⟨?_, h.2⟩) (.cons ⟨?_, nRD.symm⟩ .nil)
          · rw [upd_ne h.2]
            exact sR _ _ h.1
          · rw [upd_ne nRD.symm, upd_same]
            rfl
  · obtain ⟨rows, s3, e3, l3, p3⟩ := h3
    rw [List.length_map] at l3 p3
    rw [List.take_length] at p3
    refine ⟨(by show 1 ≤ sizeLine; decide), fun Z hZ => ?_⟩
    have sZ := Same.new (o := .lst [V.int 0]) hZ
    have hlen : ((ns.map threeOf).flatten).length = 3 * ns.length := three_len ns
    refine ⟨D, Z, rows, ns.map threeOf, [0], rfl, sZ _ _ e3, upd_same, Paired.mapP p3 fun r zs h => sZ _ _ h.1, ?_, fun H4 M s4 eM => ?_⟩
    · rw [hlen]
      show 1 + 3 * ns.length ≤ sizeLine
      exact Nat.le_of_lt (small1000 (by omega))
    refine ⟨M, _, rfl, eM, ?_, fun S c hS hc => ?_⟩
    · rw [List.length_append, hlen, List.length_singleton]
      omega
    refine ⟨S, _, c, rfl, upd_same, ?_, fun ps p hps hmem hl2 hp => ?_⟩
    · rw [List.length_append, hlen, List.length_singleton] at hc
      omega
    · refine q _ p ps (s3.trans (sZ.trans (s4.trans ((Same.new hS).trans (Same.new hp))))) upd_same hps (fun k => ?_) ?_
      · rw [hmem k, decide_eq_true_eq, List.mem_append, List.mem_singleton, List.mem_flatten]
        refine or_congr Iff.rfl ⟨fun ⟨l, h1, h2⟩ => ?_, fun ⟨v, h1, h2⟩ => ⟨_, List.mem_map.mpr ⟨v, h1, rfl⟩, h2⟩⟩
        obtain ⟨v, h3, rfl⟩ := List.mem_map.mp h1
        exact ⟨v, h3, h2⟩
      · rw [List.length_append, hlen, List.length_singleton] at hc
        omega
end
end HSP
namespace HSP
open PySem PySem.Spec PyProof.Rows L2
theorem low_at (g : Nat → Int) : ∀ (p : List (Nat × Bool)) (l : Int), lowOf g p = some l → ∃ z, z ∈ p ∧ g z.1 = l
  | [], _, h => by cases h
  | (n, false) :: r, l, h => by
    obtain ⟨z, hz, e⟩ := low_at g r l h
    exact ⟨z, List.mem_cons_of_mem _ hz, e⟩
  | (n, true) :: r, l, h => by
    have el : lowOf g ((n, true) :: r) = match lowOf g r with | none => some (g n) | some m => some (max (g n) m) := rfl
    rw [el] at h
    cases q : lowOf g r with
    | none => rw [q] at h; exact ⟨_, List.mem_cons_self, Option.some.inj h⟩
    | some m =>
      rw [q] at h
      have h := Option.some.inj h
      by_cases c : m ≤ g n
      · exact ⟨_, List.mem_cons_self, by show g n = l; omega⟩
      · obtain ⟨z, hz, e⟩ := low_at g r m q
        exact ⟨z, List.mem_cons_of_mem _ hz, by omega⟩
theorem high_at (g : Nat → Int) : ∀ (p : List (Nat × Bool)) (l : Int), highOf g p = some l → ∃ z, z ∈ p ∧ g z.1 = l
  | [], _, h => by cases h
  | (n, true) :: r, l, h => by
    obtain ⟨z, hz, e⟩ := high_at g r l h
    exact ⟨z, List.mem_cons_of_mem _ hz, e⟩
  | (n, false) :: r, l, h => by
    have el : highOf g ((n, false) :: r) = match highOf g r with | none => some (g n) | some m => some (min (g n) m) := rfl
    rw [el] at h
    cases q : highOf g r with
    | none => rw [q] at h; exact ⟨_, List.mem_cons_self, Option.some.inj h⟩
    | some m =>
      rw [q] at h
      have h := Option.some.inj h
      by_cases c : g n ≤ m
      · exact ⟨_, List.mem_cons_self, by show g n = l; omega⟩
      · obtain ⟨z, hz, e⟩ := high_at g r m q
        exact ⟨z, List.mem_cons_of_mem _ hz, by omega⟩
/-! ## the law's label is the program's -/
/-- the numbers that matter and meet a node -/
def hereOf (g : Nat → Int) (t : Tr) (ps : List Int) (i : Nat) : List Int := ps.filter fun tw => decide (i ∈ sPath g tw .fin t 0)
/-- what the law makes of them -/
def lawLb (v : Int) : List Int → Lb
  | [] => .dead
  | x :: r => if 2 * v ∈ x :: r then .found else if 2 * v > x then .high else .low
theorem law_label {t : Tr} {ps ns : List Int} {i : Nat} (hn : ns.length = t.size) (hi : i < t.size) (hp : ∀ k, k ∈ ps ↔ k = 0 ∨ ∃ v, v ∈ ns ∧ k ∈ threeOf v) : lawLb (valAt ns i) (hereOf (valAt ns) t ps i) = labAt (valAt ns) t i := by
  have val : ∀ k, k < t.size → valAt ns k ∈ ns := fun k hk => by
    have hk' : k < ns.length := by omega
    have e : valAt ns k = ns[k] := by
      unfold valAt
      rw [List.getD_eq_getElem?_getD, List.getElem?_eq_getElem hk']
      rfl
    rw [e]
    exact List.getElem_mem hk'
  have three : ∀ k, k < t.size → ∀ x, x ∈ threeOf (valAt ns k) → x ∈ ps := fun k hk x hx => (hp x).mpr (.inr ⟨_, val k hk, hx⟩)
  have in3 : ∀ v : Int, 2 * v - 1 ∈ threeOf v ∧ 2 * v ∈ threeOf v ∧ 2 * v + 1 ∈ threeOf v := fun v => ⟨List.mem_cons_self, List.mem_cons_of_mem _ List.mem_cons_self, List.mem_cons_of_mem _ (List.mem_cons_of_mem _ List.mem_cons_self)⟩
  have zero : (0 : Int) ∈ ps := (hp 0).mpr (.inl rfl)
  have mem : ∀ tw, tw ∈ hereOf (valAt ns) t ps i ↔ tw ∈ ps ∧ Btw (lowOf (valAt ns) (pOf t 0 i)) (highOf (valAt ns) (pOf t 0 i)) tw := fun tw => by
    unfold hereOf
    rw [List.mem_filter, decide_eq_true_eq, met (valAt ns) tw t 0 i (Nat.zero_le _) (by omega), past_btw]
  have lowV : ∀ l, lowOf (valAt ns) (pOf t 0 i) = some l → ∀ x, x ∈ threeOf l → x ∈ ps := fun l hl x hx => by
    obtain ⟨z, hz, e⟩ := low_at _ _ _ hl
    have b := pOf_in t 0 i z hz
    rw [← e] at hx
    exact three z.1 (by omega) x hx
  have highV : ∀ l, highOf (valAt ns) (pOf t 0 i) = some l → ∀ x, x ∈ threeOf l → x ∈ ps := fun l hl x hx => by
    obtain ⟨z, hz, e⟩ := high_at _ _ _ hl
    have b := pOf_in t 0 i z hz
    rw [← e] at hx
    exact three z.1 (by omega) x hx
  have own := three i hi _ (in3 _).2.1
  have out : labAt (valAt ns) t i = lbOf (bndOf (valAt ns) (pOf t 0 i)) (valAt ns i) := rfl
  rw [out]
  unfold bndOf
  generalize lowOf (valAt ns) (pOf t 0 i) = lo at mem lowV ⊢
  generalize highOf (valAt ns) (pOf t 0 i) = hi' at mem highV ⊢
  generalize hereOf (valAt ns) t ps i = here at mem ⊢
  generalize valAt ns i = v at own ⊢
  match here, mem with
  | [], mem =>
    have no : ∀ tw, tw ∈ ps → ¬ Btw lo hi' tw := fun tw h1 h2 => by
      have := (mem tw).mpr ⟨h1, h2⟩
      cases this
    match lo, hi', no, lowV, highV with
    | none, none, no, _, _ => exact absurd ⟨fun _ h => (by cases h), fun _ h => (by cases h)⟩ (no 0 zero)
    | some l, none, no, lowV, _ => exact absurd ⟨fun _ h => (by cases h; omega), fun _ h => (by cases h)⟩ (no _ (lowV l rfl _ (in3 l).2.2))
    | none, some b, no, _, highV => exact absurd ⟨fun _ h => (by cases h), fun _ h => (by cases h; omega)⟩ (no _ (highV b rfl _ (in3 b).1))
    | some l, some b, no, lowV, highV =>
      by_cases c : l ≥ b
      · show Lb.dead = lbOf (if l ≥ b then none else some (some l, some b)) v
        rw [if_pos c]
        rfl
      · exact absurd ⟨fun _ h => (by cases h; omega), fun _ h => (by cases h; omega)⟩ (no _ (lowV l rfl _ (in3 l).2.2))
  | x :: r, mem =>
    have hx := ((mem x).mp List.mem_cons_self).2
    have e0 : lawLb v (x :: r) = if 2 * v ∈ x :: r then .found else if 2 * v > x then .high else .low := rfl
    rw [e0]
    have hv : 2 * v ∈ x :: r ↔ Btw lo hi' (2 * v) := ⟨fun h => ((mem _).mp h).2, fun h => (mem _).mpr ⟨own, h⟩⟩
    match lo, hi', hv, hx with
    | none, none, hv, hx =>
      rw [if_pos (hv.mpr ⟨fun _ h => (by cases h), fun _ h => (by cases h)⟩)]
      rfl
    | some l, none, hv, hx =>
      have h1 := hx.1 l rfl
      show _ = if v ≤ l then Lb.low else .found
      by_cases c : v ≤ l
      · rw [if_pos c, if_neg (fun h => by have := (hv.mp h).1 l rfl; omega), if_neg (by omega)]
      · rw [if_neg c, if_pos (hv.mpr ⟨fun _ h => (by cases h; omega), fun _ h => (by cases h)⟩)]
    | none, some b, hv, hx =>
      have h1 := hx.2 b rfl
      show _ = if v ≥ b then Lb.high else .found
      by_cases c : v ≥ b
      · rw [if_pos c, if_neg (fun h => by have := (hv.mp h).2 b rfl; omega), if_pos (by omega)]
      · rw [if_neg c, if_pos (hv.mpr ⟨fun _ h => (by cases h), fun _ h => (by cases h; omega)⟩)]
    | some l, some b, hv, hx =>
      have h1 := hx.1 l rfl
      have h2 := hx.2 b rfl
      show _ = lbOf (if l ≥ b then none else some (some l, some b)) v
      rw [if_neg (show ¬ l ≥ b by omega)]
      show _ = if v ≤ l then Lb.low else if v ≥ b then .high else .found
      by_cases c : v ≤ l
      · rw [if_pos c, if_neg (fun h => by have := (hv.mp h).1 l rfl; omega), if_neg (by omega)]
      · by_cases d : v ≥ b
        · rw [if_neg c, if_pos d, if_neg (fun h => by have := (hv.mp h).2 b rfl; omega), if_pos (by omega)]
        · rw [if_neg c, if_neg d, if_pos (hv.mpr ⟨fun _ h => (by cases h; omega), fun _ h => (by cases h; omega)⟩)]
end HSP
namespace HSP
open PySem PySem.Spec PyProof.Rows L2
section
variable {P : Program} {w : World} {K : PySem.W.Frag} {mg : Str → Option Value} {base : Heap}
/-- what a walk met, for each number -/
def SeenAt (H : Hp) (g : Nat → Int) (t : Tr) (r : Addr) (tw : Int) : Prop := ∃ b, H r = some (.tup [.int tw, .ref b]) ∧ H b = some (.lst ((sPath g tw .fin t 0).map natV))
theorem SeenAt.same {H H' : Hp} {g : Nat → Int} {t : Tr} {r : Addr} {tw : Int} (h : SeenAt H g t r tw) (s : Same H H') : SeenAt H' g t r tw := by
  obtain ⟨b, e1, e2⟩ := h
  exact ⟨b, s _ _ e1, s _ _ e2⟩
theorem SeenAt.ne {H : Hp} {g : Nat → Int} {t : Tr} {r : Addr} {tw : Int} (h : SeenAt H g t r tw) {D : Addr} (hD : H D = none) : r ≠ D := by
  obtain ⟨b, e1, _⟩ := h
  exact ne_of_none e1 hD
/-! ### _law_labels -/
theorem sc_law_labels : FnScope n_law_labels p_law_labels (defScope s_law_labels) := ⟨rfl, rfl, rfl, by decide +kernel, rfl, by decide +kernel, by decide +kernel⟩
def spLawLabels (n : Nat) : Sp := fun vs H Q _ => ∃ (v : V) (t : Tr) (a : Addr) (ns : List Int), vs = [v, .ref a] ∧ TrAt H v t ∧ t.ht < n ∧ t.size ≤ 64 ∧ H a = some (.lst (ns.map V.int)) ∧ ns.length = t.size ∧
  ∀ (H' : Hp) (q : Addr), Same H H' → H q = none → H' q = some (.lst (labsV (valAt ns) t t.size)) → Q (.ref q) H'
theorem ok_lawLabels {n : Nat} (hn1 : 1 ≤ n) (B : Bl mg) (Pr : Df P w K mg base "_law_probes" 1 p_law_probes spProbes) (Vi : Df P w K mg base "_law_visits" (n + 1) p_law_visits (spVisits n)) (a : At K mg "_law_labels" s_law_labels) : Df P w K mg base "_law_labels" (n + 2) p_law_labels (spLawLabels n) := by
  refine Df.mk' a sc_law_labels (fun vs H Q E h => ?_) (fun _ _ _ _ _ _ us hl => match us, hl with | [_, _], _ => rfl) (fun f cdv A outer s H vs Q E hr h => ?_)
  · obtain ⟨v, t, a, ns, rfl, _⟩ := h
    rfl
  obtain ⟨v, t, a, ns, rfl, ht, hd, hz, ha, hn, q⟩ := h
  refine ⟨_, (pss_cons (ps_setLc (i := 2) (own := [("twice", 6)]) (g := (gName 6)) (tt := tYes) (by rfl) sc_law_labels.nd rfl rfl (sw_true rfl rfl rfl (by decide +kernel)) (pi_list (pe_df Pr (hr.mono (by omega)) (pa_cons (pv 1) pa_nil))) (blkOk_by (N := n_law_labels) (sc := defScope s_law_labels) (by decide +kernel)) (fun _ _ _ _ _ => (pg_name (i := 6) sc_law_labels.nd rfl (.inl rfl))) (fun _ _ _ _ _ => pts_nil) (fun _ _ _ _ _ => (pe_tup (pa_cons (pv 6) (pa_cons (pe_slice (show SlR _ (rSlL K) from sl_list) (pe_df Vi hr (pa_cons (pv 0) (pa_cons (pv 1) (pa_cons (pv 6) pa_nil)))) po_none (po_some (pe_un un_neg pe_int))) pa_nil)))))
 (pss_cons (ps_set (i := 3) sc_law_labels.nd rfl (.inl rfl) (pe_lst pa_nil))
 (pss_cons (ps_for PassesOwn.never rfl (pi_range1 (by rfl) B.range (pa_cons (pe_callB call_len_seq (by rfl) B.len PySem.boot_len (pa_cons (pv 1) pa_nil)) pa_nil)) (pg_name (i := 4) sc_law_labels.nd rfl (.inr rfl)) (pss_cons (ps_setLc (i := 5) (own := [("twice", 6), ("nodes", 7)]) (g := (gTup K 2 (gCons (gName 6) (gCons (gName 7) gNil)))) (by rfl) sc_law_labels.nd rfl rfl (sw_true rfl rfl rfl (by decide +kernel)) (pi_list (pv 2)) (blkOk_by (N := n_law_labels) (sc := defScope s_law_labels) (by decide +kernel)) (fun _ _ _ _ _ => (pg_tup rfl (pgs_cons (pg_name (i := 6) sc_law_labels.nd rfl (.inl rfl)) (pgs_cons (pg_name (i := 7) sc_law_labels.nd rfl (.inl rfl)) pgs_nil)))) (fun _ _ _ _ _ => (pts_one (pt_cmpR (show OpR _ (compareOp .In) (rIn K false) from op_in_seq) (pv 4) (pv 7) (by rfl)))) (fun _ _ _ _ _ => (pv 6)))
 (pss_one (ps_if (pt_cmpR (op_eqD hr.units) (pv 5) (pe_lst pa_nil) (nomark _)) (pss_one (ps_expr (pe_bm PySem.F.plainAttrs_list PySem.F.slot_list_append PySem.F.type_list_append mt_append (pv 3) (pa_cons pe_str pa_nil)))) (pss_one (ps_if (pt_cmpR op_in_seq (pe_op op_mul pe_int (pe_ix ix_list (pv 1) (pv 4) (fun _ _ => rfl))) (pv 5) (by rfl)) (pss_one (ps_expr (pe_bm PySem.F.plainAttrs_list PySem.F.slot_list_append PySem.F.type_list_append mt_append (pv 3) (pa_cons pe_str pa_nil)))) (pss_one (ps_expr (pe_bm PySem.F.plainAttrs_list PySem.F.slot_list_append PySem.F.type_list_append mt_append (pv 3) (pa_cons (pe_ix ix_list (pe_lst (pa_cons pe_str (pa_cons pe_str pa_nil))) (pe_callTy call_int1 (by rfl) B.int (by decide +kernel) (pa_cons (pe_cmpR op_gt (pe_op op_mul pe_int (pe_ix ix_list (pv 1) (pv 4) (fun _ _ => rfl))) (pe_ix ix_list (pv 5) pe_int (fun _ _ => rfl)) (nomark _)) pa_nil)) (fun _ _ => rfl)) pa_nil))))))))))
 (pss_one (ps_ret (pv 3)))))), ?_⟩
  refine ⟨_, rfl, a, ns, rfl, ha, by omega, fun H1 u ps s1 eu _ hps hpl => ⟨u, rfl, ⟨_, .of eu⟩, fun D hD => ?_⟩⟩
  have ht1 := ht.same s1
  -- seen
  refine lc_list (xs := ps.map V.int) (fun i H' => ∃ rows : List Addr, Same H1 H' ∧ H' D = some (.lst (rows.map V.ref)) ∧ rows.length = i ∧ Paired (fun r tw => r ≠ D ∧ ∃ b, b ≠ D ∧ H' r = some (.tup [.int tw, .ref b]) ∧ H' b = some (.lst ((sPath (valAt ns) tw .fin t 0).map natV))) rows (ps.take i)) ⟨[], Same.new hD, upd_same, rfl, .nil⟩ (fun i H3 _ h3 => ?_) (fun i x H3 hx h3 => ?_) (fun H3 h3 => ?_)
  · obtain ⟨rows, s3, _⟩ := h3
    exact .of (s3 _ _ eu)
  · obtain ⟨rows, s3, e3, l3, p3⟩ := h3
    rw [List.getElem?_map] at hx
    obtain ⟨tw, htw, rfl⟩ := Option.map_eq_some_iff.mp hx
    have hi : i < ps.length := (List.getElem?_eq_some_iff.mp htw).1
    refine ⟨rfl, ?_⟩
    refine ⟨_, rfl, v, rfl, _, rfl, _, rfl, v, t, a, ns, tw, rfl, ht1.same s3, hd, by omega, s3 _ _ (s1 _ _ ha), hn, fun H4 b s4 n4 e4 => ?_⟩
    refine ⟨_, rfl, _, rfl, b, _, rfl, .of e4, fun c hc => ?_⟩
    rw [cut_last]
    refine ⟨(by show 2 ≤ sizeLine; decide), fun T hT => ?_⟩
    have sc := Same.new (o := .lst ((sPath (valAt ns) tw .fin t 0).map natV)) hc
    have sT := Same.new (o := .tup [V.int tw, V.ref c]) hT
    have s5 := (s4.trans sc).trans sT
    have e5 := s5 _ _ e3
    have nDT : D ≠ T := ne_of_none (sc _ _ (s4 _ _ e3)) hT
    refine ⟨_, e5, ?_, rows ++ [T], fun b o e => ?_, ?_, ?_, ?_⟩
    · rw [List.length_map, l3]
      exact small1000 (by omega)
    · rw [upd_ne (ne_of_none e hD)]
      exact s5 _ _ (s3 _ _ e)
    · rw [upd_same, List.map_append]
      rfl
    · rw [List.length_append, List.length_singleton, l3]
    · rw [List.take_add_one, htw]
      refine Paired.app (Paired.mapP p3 fun r tw h => ?_) (.cons ⟨nDT.symm, c, (ne_of_none (s4 _ _ e3) hc).symm, ?_, ?_⟩ .nil)
      · obtain ⟨h1, b, h2, h3, h4⟩ := h
        exact ⟨h1, b, h2, by rw [upd_ne h1]; exact s5 _ _ h3, by rw [upd_ne h2]; exact s5 _ _ h4⟩
      · rw [upd_ne nDT.symm, upd_same]
      · rw [upd_ne (ne_of_none (s4 _ _ e3) hc).symm]
        exact sT _ _ upd_same
  obtain ⟨rows, s3, e3, l3, p3⟩ := h3
  rw [List.length_map] at l3 p3
  rw [List.take_length] at p3
  have p4 : Paired (fun r tw => SeenAt H3 (valAt ns) t r tw) rows ps := Paired.mapP p3 fun r tw h => by
    obtain ⟨_, b, _, h3, h4⟩ := h
    exact ⟨b, h3, h4⟩
  have ha3 := s3 _ _ (s1 _ _ ha)
  clear p3
  -- told, the nodes
  refine ⟨Nat.zero_le _, fun L hL => ?_⟩
  have sL := Same.new (o := .lst []) hL
  have lenV : (ns.map V.int).length = t.size := by rw [List.length_map]; exact hn
  refine ⟨_, rfl, a, _, rfl, .inl (.of (sL _ _ ha3)), ?_⟩
  rw [lenV]
  refine ⟨_, rfl, by omega, by omega, ?_⟩
  refine for_range (lo := 0) (n := ((t.size : Nat) : Int).toNat) (fun i σ H' => ∃ y4 y5 y6 y7 : Option V, σ = [some v, some (.ref a), some (.ref D), some (.ref L), y4, y5, y6, y7] ∧ Same H3 H' ∧ H' L = some (.lst (labsV (valAt ns) t i))) ⟨_, _, _, _, rfl, sL, upd_same⟩ (fun i σ H4 hi h4 => ?_) (fun σ H4 h4 => ?_)
  · obtain ⟨y4, y5, y6, y7, rfl, s4, e4⟩ := h4
    have hi' : i < t.size := by omega
    have ei : (0 : Int) + (i : Int) = (i : Int) := by omega
    rw [ei]
    -- here
    refine ⟨_, rfl, D, rfl, ⟨_, .of (s4 _ _ e3)⟩, fun M hM => ?_⟩
    have sM := Same.new (o := .lst []) hM
    refine lc_list (xs := rows.map V.ref) (fun k H' => Same H4 H' ∧ H' M = some (.lst ((hereOf (valAt ns) t (ps.take k) i).map V.int))) ⟨sM, upd_same⟩ (fun k H5 _ h5 => .of (h5.1 _ _ (s4 _ _ e3))) (fun k x H5 hx h5 => ?_) (fun H5 h5 => ?_)
    · obtain ⟨s5, e5⟩ := h5
      rw [List.getElem?_map] at hx
      obtain ⟨r, hr2, rfl⟩ := Option.map_eq_some_iff.mp hx
      obtain ⟨tw, htw, b, eb1, eb2⟩ := Paired.getL p4 hr2
      have hk : k < ps.length := (List.getElem?_eq_some_iff.mp htw).1
      have f1 := s5 _ _ (s4 _ _ eb1)
      have f2 := s5 _ _ (s4 _ _ eb2)
      refine ⟨r, _, rfl, .of f1, rfl, _, _, rfl, _, [], rfl, rfl, rfl, ?_⟩
      refine ⟨_, rfl, _, rfl, b, _, rfl, .inl (.of f2), rfl, flat_nats _, _, rfl, ?_⟩
      have more : hereOf (valAt ns) t (ps.take (k + 1)) i = hereOf (valAt ns) t (ps.take k) i ++ if i ∈ sPath (valAt ns) tw .fin t 0 then [tw] else [] := by
        unfold hereOf
        rw [List.take_add_one, htw, List.filter_append]
        congr 1
        show List.filter _ [tw] = _
        by_cases c : i ∈ sPath (valAt ns) tw .fin t 0
        · rw [if_pos c, List.filter_cons_of_pos (p := fun tw => decide (i ∈ sPath (valAt ns) tw .fin t 0)) (decide_eq_true c)]
          rfl
        · rw [if_neg c, List.filter_cons_of_neg (p := fun tw => decide (i ∈ sPath (valAt ns) tw .fin t 0)) (fun z => c (of_decide_eq_true z))]
          rfl
      have short : (hereOf (valAt ns) t (ps.take k) i).length ≤ 200 := by
        unfold hereOf
        have h1 := List.length_filter_le (fun tw => decide (i ∈ sPath (valAt ns) tw .fin t 0)) (ps.take k)
        have h2 := List.length_take_le k ps
        rw [List.length_take] at h1
        omega
      rw [show inV (V.int (i : Int)) ((sPath (valAt ns) tw .fin t 0).map natV) = _ from inV_nat i _]
      by_cases c : i ∈ sPath (valAt ns) tw .fin t 0
      · refine ite_yes c ?_
        refine ⟨_, rfl, _, e5, ?_, fun b o e => ?_, ?_⟩
        · rw [List.length_map]
          exact small1000 (by omega)
        · rw [upd_ne (ne_of_none e hM)]
          exact s5 _ _ e
        · rw [upd_same, more, if_pos c, List.map_append]
          rfl
      · refine ite_no c ⟨s5, ?_⟩
        rw [more, if_neg c, List.append_nil]
        exact e5
    · obtain ⟨s5, e5⟩ := h5
      rw [List.length_map, l3, List.take_length] at e5
      have lb := law_label hn hi' hps
      generalize hereOf (valAt ns) t ps i = here at e5 lb
      have ha5 : H5 a = some (.lst (ns.map V.int)) := s5 _ _ (s4 _ _ ha3)
      have eL5 := s5 _ _ e4
      have fin : ∀ (H6 : Hp) (y6 y7 : Option V), Same H3 H6 → H6 L = some (.lst (labsV (valAt ns) t i)) → ∃ y4 y5 y6' y7' : Option V, [some v, some (V.ref a), some (.ref D), some (.ref L), some (.int (i : Int)), some (.ref M), y6, y7] = [some v, some (.ref a), some (.ref D), some (.ref L), y4, y5, y6', y7'] ∧ Same H3 (upd H6 L (.lst (labsV (valAt ns) t i ++ [V.str (labAt (valAt ns) t i).str]))) ∧ (upd H6 L (.lst (labsV (valAt ns) t i ++ [V.str (labAt (valAt ns) t i).str]))) L = some (.lst (labsV (valAt ns) t (i + 1))) := fun H6 y6 y7 s6 e6 => by
        refine ⟨_, _, _, _, rfl, fun b o e => ?_, ?_⟩
        · rw [upd_ne (ne_of_none e hL)]
          exact s6 _ _ e
        · rw [upd_same, labsV_more]
      refine ⟨_, rfl, (by show 0 ≤ sizeLine; decide), fun Z hZ => ?_⟩
      have sZ := Same.new (o := .lst []) hZ
      refine ⟨intsD here, intsD [], .lst (.of (sZ _ _ e5)) (ints_dpAll _), .lst (.of upd_same) (ints_dpAll []), ints_shaped _, ints_shaped _, _, rfl, ?_⟩
      rw [ints_none]
      have len1 : (labsV (valAt ns) t i).length ≤ 1000 := by rw [labsV_len]; omega
      have item := at_of (z := (i : Int)) (j := i) rfl (valAt_get (ns := ns) (show i < ns.length by omega))
      match here, e5, lb with
      | [], e5, lb =>
        refine ite_yes rfl ?_
        refine ⟨_, rfl, .inl ⟨rfl, _, .of (sZ _ _ eL5)⟩, L, _, _, rfl, rfl, sZ _ _ eL5, small1000 len1, ?_⟩
        have e1 : V.str "dead" = V.str (labAt (valAt ns) t i).str := by rw [← lb]; rfl
        rw [e1]
        exact fin _ _ _ (s4.trans (s5.trans sZ)) (sZ _ _ eL5)
      | x :: r, e5, lb =>
        refine ite_no (List.cons_ne_nil _ _) ?_
        refine ⟨_, rfl, _, rfl, a, _, _, _, rfl, rfl, .of (sZ _ _ ha5), item, _, _, rfl, rfl, .inl ⟨by decide, by decide⟩, _, rfl, M, _, rfl, .inl (.of (sZ _ _ e5)), rfl, flat_ints _, _, rfl, ?_⟩
        rw [inV_int]
        have lb0 : lawLb (valAt ns i) (x :: r) = if 2 * valAt ns i ∈ x :: r then .found else if 2 * valAt ns i > x then .high else .low := rfl
        rw [lb0] at lb
        by_cases c : 2 * valAt ns i ∈ x :: r
        · refine ite_yes c ?_
          rw [if_pos c] at lb
          refine ⟨_, rfl, .inl ⟨rfl, _, .of (sZ _ _ eL5)⟩, L, _, _, rfl, rfl, sZ _ _ eL5, small1000 len1, ?_⟩
          have e1 : V.str "found" = V.str (labAt (valAt ns) t i).str := by rw [← lb]; rfl
          rw [e1]
          exact fin _ _ _ (s4.trans (s5.trans sZ)) (sZ _ _ eL5)
        · refine ite_no c ?_
          rw [if_neg c] at lb
          refine ⟨_, rfl, .inl ⟨rfl, _, .of (sZ _ _ eL5)⟩, (by show 2 ≤ sizeLine; decide), fun Y hY => ?_⟩
          have sY := sZ.trans (Same.new (o := .lst [V.str "low", V.str "high"]) hY)
          refine ⟨_, rfl, _, rfl, a, _, _, _, rfl, rfl, .of (sY _ _ ha5), item, _, _, rfl, rfl, .inl ⟨by decide, by decide⟩, _, rfl, M, _, _, _, rfl, rfl, .of (sY _ _ e5), atI_nat (j := 0) rfl, _, _, rfl, rfl, .inr ⟨_, rfl, ?_⟩⟩
          refine ⟨Y, _, _, V.str (labAt (valAt ns) t i).str, rfl, rfl, .of upd_same, ?_, ?_⟩
          · rw [← lb]
            by_cases d : 2 * valAt ns i > x
            · rw [decide_eq_true d, if_pos d]
              rfl
            · rw [decide_eq_false d, if_neg d]
              rfl
          · refine ⟨L, _, _, rfl, rfl, sY _ _ eL5, small1000 len1, ?_⟩
            exact fin _ _ _ (s4.trans (s5.trans sY)) (sY _ _ eL5)
  · obtain ⟨y4, y5, y6, y7, rfl, s4, e4⟩ := h4
    exact ⟨_, rfl, q H4 L (s1.trans (s3.trans s4)) (s1.free (s3.free hL)) e4⟩
end
end HSP
namespace HSP
open PySem PySem.Spec PyProof.Rows L2
/-! ## the law's call, where nothing is being shown -/
section
variable {P : Program} {w : World} {K : PySem.W.Frag} {mg mb : Str → Option Value} {k : Nat} {fa a : Addr} {fd : FuncData} {x : Str} {sp : Sp} {s1 : Shared} {vs : List Value} {ns : List Int}
/-- from an abstract heap that tracks nothing but, perhaps, the script -/
theorem callG_core (kin : K.In s1.heap) (hns : s1.heap.Ns mainGlobals mg) (hb : s1.heap.Ns builtinsNs mb) (hbb : ∀ x : Str, x ≠ "__name__" → mb x = bootBuiltins x) (hlim : s1.heap.NoLimit) (hg : s1.gens = #[])
    (ha : s1.heap.get? a = some { cls := .type "list", data := .seq vs.toArray }) (hr : Room k callerA) (F : ∀ base : Heap, K.In base → base.Ns mainGlobals mg → FnG P w K mg base CX0 k fa fd [x] sp)
    (hbind : ∀ (s : Shared) (u : Value), BindsTo s fd ⟨[u], []⟩ [(x, u)]) (H : Hp) (hO : Only H) (hsp : sp [.ref a] H (fun v _ => v = .bl true) fun _ _ _ => False) (hok : HOk P w H s1.heap) (hA : ∀ b o, H b = some o → b = a) (hK : ∀ o, H a = some o → K.lookup a = none) :
    codeAny (model P w) callerA (.call (.ref fa) ⟨[.ref a], []⟩) (fun r s' => r = .ok (.ret (.bool true)) ∧ OldK s1.heap s'.heap ∧ s'.os = s1.os ∧ AllBare s'.gens) s1 := by
  -- no dict is tracked
  have free : ∀ {b : Addr} {o : Obj} {es : Array DictEntry} {ep : Nat}, s1.heap.get? b = some o → o.data = .dict es ep → H b = none := by
    intro b o es ep e d
    match q : H b with
    | none => rfl
    | some u =>
      rw [hA b u q, ha] at e
      cases e
      cases d
  have nsB : ∀ {b : Addr} {m : Str → Option Value}, s1.heap.Ns b m → (hidT s1.heap H).Ns b m := by
    intro b m h
    obtain ⟨o, es, ep, e, d, r⟩ := h
    exact ⟨o, es, ep, hidT_get e (free e d), d, r⟩
  have kinB : K.In (hidT s1.heap H) := by
    intro b o e
    refine hidT_get (kin b o e) ?_
    match q : H b with
    | none => rfl
    | some u =>
      have eb := hA b u q
      rw [eb] at e q
      rw [hK u q] at e
      cases e
  have md : Mod K mg (hidT s1.heap H) := by
    obtain ⟨mc, c1, c2⟩ := hlim
    exact ⟨kinB, nsB hns, ⟨mb, nsB hb, hbb⟩, mc, nsB c1, c2⟩
  have env : Env0 P w K mg (hidT s1.heap H) callerA [] s1 H := ⟨rfl, md, fun b o e => of_hidT e, Nat.le_of_eq (hidT_size _ _), trivial, (fun b z => by cases z), hok, .of_eq hg⟩
  refine codeAny_mono ((F _ kinB (nsB hns)).run callerA [] s1 H ⟨[.ref a], []⟩ [.ref a] [.ref a] _ _ rfl hr env (hbind s1 (.ref a)) (.cons rfl .nil) hsp) fun r s' h => ?_
  match r, h with
  | .error _, h => exact (show False from h).elim
  | .ok (.ret u), h =>
    obtain ⟨v, H', os, bare, un, hok', rv, q⟩ := h
    have q' : v = .bl true := q
    rw [q'] at rv
    have eu : u = Value.bool true := rv
    rw [eu]
    refine ⟨rfl, OldK.of_keep fun b o e => ?_, os, bare⟩
    match q : H b with
    | none => exact un.keep b o e q (fun z => by cases z) (fun z => by cases z)
    | some u =>
      rcases hO b with z | ⟨ob, xs, z⟩
      · rw [q] at z
        cases z
      · have b1 := (hok b _ z).1
        have b2 := (hok' b _ (un.frzs b ob _ z)).1
        rw [e] at b1
        cases b1
        exact b2
theorem law_callG (kin : K.In s1.heap) (hns : s1.heap.Ns mainGlobals mg) (hb : s1.heap.Ns builtinsNs mb) (hbb : ∀ x : Str, x ≠ "__name__" → mb x = bootBuiltins x) (hlim : s1.heap.NoLimit) (hg : s1.gens = #[])
    (ha : s1.heap.get? a = some { cls := .type "list", data := .seq vs.toArray }) (hi : IntsAre vs ns) (hl : ns.length ≤ sizeLine) (hr : Room k callerA) (F : ∀ base : Heap, K.In base → base.Ns mainGlobals mg → FnG P w K mg base CX0 k fa fd [x] sp)
    (hbind : ∀ (s : Shared) (u : Value), BindsTo s fd ⟨[u], []⟩ [(x, u)]) (hsp : ∀ H : Hp, Only H → SqL K H a (ns.map V.int) → sp [.ref a] H (fun v _ => v = .bl true) fun _ _ _ => False) :
    codeAny (model P w) callerA (.call (.ref fa) ⟨[.ref a], []⟩) (fun r s' => r = .ok (.ret (.bool true)) ∧ OldK s1.heap s'.heap ∧ s'.os = s1.os ∧ AllBare s'.gens) s1 := by
  have rv := vals_ints hi
  have le : vs.length = ns.length := hi.length
  match hk : K.lookup a with
  | some o =>
    have e := kin a o hk
    rw [ha] at e
    cases e
    refine callG_core kin hns hb hbb hlim hg ha hr F hbind (fun _ => none) (fun _ => .inl rfl) (hsp _ (fun _ => .inl rfl) ?_) (fun b u z => by cases z) (fun b o z => by cases z) (fun o z => by cases z)
    exact .inr ⟨_, vs.toArray, _, hk, rfl, rfl, rfl, by rw [List.size_toArray, le]; exact hl, by rw [List.toList_toArray]; exact rv⟩
  | none =>
    let H : Hp := fun b => if b = a then some (.frz { cls := .type "list", data := .seq vs.toArray } (.lst (ns.map V.int))) else none
    have at_a : H a = some (.frz { cls := .type "list", data := .seq vs.toArray } (.lst (ns.map V.int))) := if_pos rfl
    have off : ∀ b, b ≠ a → H b = none := fun b n => if_neg n
    have only : Only H := fun b => by
      by_cases c : b = a
      · rw [c]; exact .inr ⟨_, _, at_a⟩
      · exact .inl (off b c)
    refine callG_core kin hns hb hbb hlim hg ha hr F hbind H only (hsp H only (.inl (.inr ⟨_, at_a⟩))) (fun b u z => ?_) (fun b o z => ?_) (fun _ _ => hk)
    · by_cases c : b = a
      · rw [c] at z ⊢
        rw [at_a] at z
        cases z
        exact ⟨ha, by rw [List.length_map]; exact hl, vs, _, rv, ha⟩
      · rw [off b c] at z
        cases z
    · by_cases c : b = a
      · exact c
      · rw [off b c] at z
        cases z
end
/-- what the head leaves, from the law's promise -/
theorem walk_ofG {l : PySem.W.OpenLaw} {n k : Nat} {q : Program} {loose : List Str} {XP : (Str → Option Value) → Heap → Prop} {YP : World → Heap → Prop} {d : DefRec} {K : Params → PySem.W.Frag} {sp : World → Sp} {x : Str} (hn : l.most = some n) (hn2 : n ≤ sizeLine) (hdf : d.params.defaults = []) (hr : Room k callerA)
    (hY : ∀ (w : World) (h : Heap), YP w h → (K w.params).In h)
    (F : ∀ (w : World) (mg : Str → Option Value) (fa : Addr) (h : Heap), (K w.params).In h → h.Ns mainGlobals mg → mg d.name = some (.ref fa) → ∃ fd : FuncData, (∀ (s : Shared) (u : Value), BindsTo s fd ⟨[u], []⟩ [(x, u)]) ∧
        ∀ base : Heap, (K w.params).In base → base.Ns mainGlobals mg → FnG l.prog w (K w.params) mg base CX0 k fa fd [x] (sp w))
    (hsp : ∀ (w : World) (H : Hp) (a : Addr) (ns : List Int), ns.length ≤ n → Only H → SqL (K w.params) H a (ns.map V.int) → sp w [.ref a] H (fun v _ => v = .bl true) fun _ _ _ => False) : PySem.W.WalkO q loose XP YP l.row.toRowW d [] (fun f vs => PySem.call f vs) := by
  refine Att.attach_call hn hdf fun w s0 s1 mg mb fa o pm cd doc a vs ns G Y ho hd hcd hmg hobj hints hlen hg => ?_
  obtain ⟨fd, hbd, hF⟩ := F w mg fa _ (hY w _ Y) G.T.g hmg
  exact law_callG (hY w _ Y) G.T.g G.T.b G.T.builtins G.T.nolimit hg hobj hints (Nat.le_trans hlen hn2) hr hF hbd fun H hO hS => hsp w H a ns hlen hO hS
end HSP
namespace HSP
open PySem PySem.Spec PyProof.Rows L2
/-! ## how data are shown: lengths -/
theorem piled_le (c : Nat) : ∀ ds : List PyData, (∀ d, d ∈ ds → d.shown.length ≤ c) → piled (PyData.shownAll ds) ≤ ds.length * (c + 2)
  | [], _ => by simp [PyData.shownAll, piled_nil]
  | d :: ds, h => by
    have ih := piled_le c ds fun e he => h e (List.mem_cons_of_mem _ he)
    have h1 := h d List.mem_cons_self
    have e : PyData.shownAll (d :: ds) = d.shown :: PyData.shownAll ds := by simp [PyData.shownAll]
    rw [e, piled_cons, List.length_cons, Nat.add_mul]
    omega
theorem listText_le : ∀ ts : List Str, (listText ts).length ≤ piled ts + 2
  | [] => by decide +kernel
  | t :: r => by
    have e : listText (t :: r) = textFrom 1 (("[" : Str) ++ (if 0 > 0 then ", " else "" : String) ++ t) r ++ "]" := rfl
    rw [e, strLen_append, textFrom_length_pos _ _ _ (by decide), strLen_append, strLen_append, piled_cons]
    have e1 : (("[" : String) : Str).length = 1 := rfl
    have e2 : (("]" : String) : Str).length = 1 := rfl
    have e3 : ((if 0 > 0 then ", " else "" : String) : Str).length = 0 := rfl
    omega
theorem tupleText_le (ts : List Str) : (tupleText ts).length ≤ piled ts + 3 := by
  unfold tupleText
  rw [strLen_append, strLen_append]
  have e1 : (("(" : String) : Str).length = 1 := rfl
  have e2 : ((if ts.length == 1 then ",)" else ")" : String) : Str).length ≤ 2 := by
    split <;> decide +kernel
  have e3 : (Str.join ", " ts).length ≤ piled ts := by
    by_cases c : ts = []
    · rw [c]
      decide +kernel
    · have := join_length_add ts c
      omega
  omega
theorem shown_list_le (c : Nat) (ds : List PyData) (h : ∀ d, d ∈ ds → d.shown.length ≤ c) : (PyData.list ds).shown.length ≤ ds.length * (c + 2) + 2 := by
  have e : (PyData.list ds).shown = listText (PyData.shownAll ds) := by simp only [PyData.shown]
  rw [e]
  have h1 := listText_le (PyData.shownAll ds)
  have h2 := piled_le c ds h
  omega
/-! ### trees as data -/
def treeD : Tr → PyData
  | .nil => .none
  | .nod l r => .tuple [treeD l, treeD r]
theorem treeD_len : ∀ t : Tr, (treeD t).shown.length ≤ 11 * t.size + 4
  | .nil => by
    show (PyData.none).shown.length ≤ _
    simp only [PyData.shown]
    decide +kernel
  | .nod l r => by
    have h1 := treeD_len l
    have h2 := treeD_len r
    have e : (treeD (.nod l r)).shown = tupleText [(treeD l).shown, (treeD r).shown] := by
      show (PyData.tuple [treeD l, treeD r]).shown = _
      simp only [PyData.shown, PyData.shownAll]
    have z : (Tr.nod l r).size = l.size + 1 + r.size := rfl
    have h3 := tupleText_le [(treeD l).shown, (treeD r).shown]
    rw [piled_cons, piled_cons, piled_nil] at h3
    rw [e, z]
    omega
theorem treeD_show : ∀ t : Tr, (treeD t).showable = true
  | .nil => by simp only [treeD, PyData.showable]
  | .nod l r => by simp only [treeD, PyData.showable, PyData.showableAll, treeD_show l, treeD_show r, Bool.and_self]
theorem treeD_dict : ∀ t : Tr, (treeD t).hasDict = false
  | .nil => by simp only [treeD, PyData.hasDict]
  | .nod l r => by simp only [treeD, PyData.hasDict, PyData.hasDictAll, treeD_dict l, treeD_dict r, Bool.or_self]
theorem treeD_deep : ∀ t : Tr, (treeD t).depth ≤ t.ht
  | .nil => by simp only [treeD, PyData.depth]; exact Nat.zero_le _
  | .nod l r => by
    have h1 := treeD_deep l
    have h2 := treeD_deep r
    have e : (Tr.nod l r).ht = max l.ht r.ht + 1 := rfl
    simp only [treeD, PyData.depth, PyData.depthAll]
    omega
theorem TrAt.dp {K : PySem.W.Frag} {H : Hp} {v : V} {t : Tr} (h : TrAt H v t) : Dp K H v (treeD t) := by
  induction h with
  | nil => exact .non
  | nod eb _ _ ih1 ih2 => exact .tup (.of eb) (.cons ih1 (.cons ih2 .nil))
/-! ### lists of numbers -/
theorem ints_show : ∀ l : List Int, (∀ v, v ∈ l → v.natAbs.log2 < 1920) → PyData.showableAll (l.map PyData.int) = true
  | [], _ => by simp [PyData.showableAll]
  | z :: r, h => by
    have ih := ints_show r fun v hv => h v (List.mem_cons_of_mem _ hv)
    have h1 := h z List.mem_cons_self
    simp only [List.map_cons, PyData.showableAll, PyData.showable, ih, decide_eq_true h1, Bool.and_self]
theorem ints_dict : ∀ l : List Int, PyData.hasDictAll (l.map PyData.int) = false
  | [] => by simp [PyData.hasDictAll]
  | z :: r => by simp only [List.map_cons, PyData.hasDictAll, PyData.hasDict, ints_dict r, Bool.or_self]
theorem int_len {z : Int} (h : z.natAbs < 10 ^ 30) : (PyData.int z).shown.length ≤ 31 := by
  simp only [PyData.shown]
  rw [show (Str.ofString (toString z)).length = (toString z).length from PySem.ofString_length _]
  exact int_text_length_le10 (k := 30) (by decide) h
theorem int_log {z : Int} (h : z.natAbs < 10 ^ 30) : z.natAbs.log2 < 1920 := by
  by_cases c : z.natAbs = 0
  · rw [c]
    decide
  · exact (Nat.log2_lt c).mpr (Nat.lt_of_lt_of_le h (by decide +kernel))
/-- what repr and == ask of data -/
structure Fine (d : PyData) : Prop where
  show_ : d.showable = true
  dict : d.hasDict = false
  deep : d.depth ≤ 60
  len : d.shown.length ≤ sizeLine
/-- numbers that are not too great -/
def Tame (l : List Int) : Prop := ∀ v, v ∈ l → v.natAbs < 10 ^ 30
theorem intsD_len {l : List Int} (h : Tame l) : (intsD l).shown.length ≤ l.length * 33 + 2 := by
  have := shown_list_le 31 (l.map PyData.int) fun d hd => by
    obtain ⟨v, hv, rfl⟩ := List.mem_map.mp hd
    exact int_len (h v hv)
  rw [List.length_map] at this
  exact this
theorem ints_fine {l : List Int} (h : Tame l) (n : l.length ≤ 1000) : Fine (intsD l) := by
  have h1 := intsD_len h
  have h2 := ints_deep l
  refine ⟨?_, ?_, ?_, ?_⟩
  · unfold intsD
    simp only [PyData.showable]
    exact ints_show l fun v hv => int_log (h v hv)
  · unfold intsD
    simp only [PyData.hasDict]
    exact ints_dict l
  · unfold intsD
    simp only [PyData.depth]
    omega
  · have : sizeLine = 16777216 := rfl
    omega
/-- [d, e] -/
theorem pair_fine {d e : PyData} (hd : Fine d) (he : Fine e) (h1 : d.depth ≤ 59) (h2 : e.depth ≤ 59) (c : Nat) (l1 : d.shown.length ≤ c) (l2 : e.shown.length ≤ c) (hc : c ≤ 100000) : Fine (.list [d, e]) := by
  refine ⟨?_, ?_, ?_, ?_⟩
  · simp only [PyData.showable, PyData.showableAll, hd.show_, he.show_, Bool.and_self]
  · simp only [PyData.hasDict, PyData.hasDictAll, hd.dict, he.dict, Bool.or_self]
  · simp only [PyData.depth, PyData.depthAll]
    omega
  · have := shown_list_le c [d, e] fun x hx => by
      rcases List.mem_cons.mp hx with z | z
      · rw [z]; exact l1
      · rw [List.mem_singleton.mp z]; exact l2
    have e1 : [d, e].length = 2 := rfl
    rw [e1] at this
    have : sizeLine = 16777216 := rfl
    omega
theorem tree_fine {t : Tr} (h : t.size ≤ 100) (d : t.ht ≤ 40) : Fine (treeD t) := by
  have h1 := treeD_len t
  have h2 := treeD_deep t
  have : sizeLine = 16777216 := rfl
  exact ⟨treeD_show t, treeD_dict t, by omega, by omega⟩
/-- [tree, values] -/
def argsD (t : Tr) (ns : List Int) : PyData := .list [treeD t, intsD ns]
theorem args_fine {t : Tr} {ns : List Int} (h : t.size ≤ 20) (n : ns.length ≤ 20) (hn : Tame ns) : Fine (argsD t ns) := by
  have h1 := treeD_len t
  have h2 := treeD_deep t
  have h3 := t.ht_le
  have h4 := intsD_len hn
  have h5 : (intsD ns).depth ≤ 2 := by
    have := ints_deep ns
    unfold intsD
    simp only [PyData.depth]
    omega
  exact pair_fine (tree_fine (by omega) (by omega)) (ints_fine hn (by omega)) (by omega) (by omega) 1000 (by omega) (by omega) (by decide)
/-- numbers that the law may make of those drawn -/
def Mid (ns : List Int) : Prop := ∀ v, v ∈ ns → -10000000000000000000000 < v ∧ v < 10000000000000000000000
theorem Mid.tame {ns : List Int} (h : Mid ns) : Tame ns := fun v hv => by
  have := h v hv
  have e : (10 : Nat) ^ 30 = 1000000000000000000000000000000 := by decide +kernel
  rw [e]
  omega
theorem Mid.nil : Mid [] := fun _ h => by cases h
theorem Mid.snoc {ns : List Int} {v : Int} (h : Mid ns) (h1 : -10000000000000000000000 < v ∧ v < 10000000000000000000000) : Mid (ns ++ [v]) := fun x hx => by
  rcases List.mem_append.mp hx with z | z
  · exact h x z
  · rw [List.mem_singleton.mp z]
    exact h1
theorem Mid.set {ns : List Int} {v : Int} {i : Nat} (h : Mid ns) (h1 : -10000000000000000000000 < v ∧ v < 10000000000000000000000) : Mid (ns.set i v) := fun x hx => by
  rcases List.mem_or_eq_of_mem_set hx with z | z
  · exact h x z
  · rw [z]
    exact h1
theorem ints_can0 (l : List Int) : PyData.canLay0 (intsD l) = true := by
  unfold intsD
  simp only [PyData.canLay0]
  exact ints_can l
theorem args_dp {K : PySem.W.Frag} {H : Hp} {a b : Addr} {v : V} {t : Tr} {ns : List Int} (ha : H a = some (.lst [v, .ref b])) (hv : TrAt H v t) (hb : H b = some (.lst (ns.map V.int))) : Dp K H (.ref a) (argsD t ns) :=
  .lst (.of ha) (.cons hv.dp (.cons (.lst (.of hb) (ints_dpAll ns)) .nil))
end HSP
namespace HSP
open PySem PySem.Spec PyProof.Rows L2
/-! ## what the laws' right sides share -/
theorem Mid.of {ns : List Int} (h : Near ns) : Mid ns := fun v hv => by
  have := h v hv
  omega
def spRight : Sp := fun vs H Q _ => ∃ (p : Addr) (k : Nat), vs = [.ref p] ∧ DrAt H p k ∧ k ≤ 1000 ∧ ∀ H' : Hp, Keep p H H' → DrAt H' p (k + 200) → Q (.bl true) H'
end HSP
namespace HSP
open PySem PySem.Spec PyProof.Rows L2
/-! ## lists of texts as data -/
def ssD (l : List Str) : PyData := .list (l.map PyData.str)
theorem ss_dpAll {K : PySem.W.Frag} {H : Hp} : ∀ l : List Str, DpAll K H (l.map V.str) (l.map PyData.str)
  | [] => .nil
  | z :: r => .cons (.str z) (ss_dpAll r)
theorem ss_canAll : ∀ {l : List Str}, (∀ s, s ∈ l → PyData.strOk s = true) → PyData.canLayAll0 (l.map PyData.str) = true
  | [], _ => by simp [PyData.canLayAll0]
  | z :: r, h => by
    have ih := ss_canAll (l := r) fun s hs => h s (List.mem_cons_of_mem _ hs)
    have h1 := h z List.mem_cons_self
    simp only [List.map_cons, PyData.canLayAll0, PyData.canLay0, ih, h1, Bool.and_self]
theorem ss_can {l : List Str} (h : ∀ s, s ∈ l → PyData.strOk s = true) : PyData.canLay0 (ssD l) = true := by
  unfold ssD
  simp only [PyData.canLay0]
  exact ss_canAll h
theorem ss_deep : ∀ l : List Str, PyData.depthAll (l.map PyData.str) ≤ 1
  | [] => by simp [PyData.depthAll]
  | z :: r => by
    have ih := ss_deep r
    simp only [List.map_cons, PyData.depthAll, PyData.depth]
    omega
theorem ss_shaped {l : List Str} (h : ∀ s, s ∈ l → PyData.strOk s = true) : SeqAt.shaped (ssD l) = true := by
  unfold SeqAt.shaped
  rw [Bool.and_eq_true]
  refine ⟨ss_can h, decide_eq_true ?_⟩
  have := ss_deep l
  unfold ssD
  simp only [PyData.depth]
  omega
theorem ss_eqvAll : ∀ a b : List Str, PyData.eqvAll (a.map PyData.str) (b.map PyData.str) = decide (a = b)
  | [], [] => by simp [PyData.eqvAll]
  | [], y :: b => by simp [PyData.eqvAll]
  | x :: a, [] => by simp [PyData.eqvAll]
  | x :: a, y :: b => by
    have ih := ss_eqvAll a b
    simp only [List.map_cons, PyData.eqvAll, PyData.eqv, ih]
    by_cases c : x = y
    · subst c
      simp
    · simp [c]
theorem ss_eqv (a b : List Str) : PyData.eqv (ssD a) (ssD b) = decide (a = b) := by
  unfold ssD
  simp only [PyData.eqv]
  exact ss_eqvAll a b
end HSP
namespace HSP
open PySem PySem.Spec PyProof.Rows L2
/-! ## classes of errors: what the top tells of them -/
structure ClsT (K : PySem.W.Frag) (C : Addr) : Prop where
  k : PySem.W.keepIn K (.ref C) = true
  b : PySem.W.subIn K (.ref C) (.type "BaseException") = some true
  t : PySem.W.typeIn K (.ref C) = some (.type "type")
  c : ∃ q, PySem.W.clsIn K C = some q
  a : PySem.W.findIn K (.ref C) "__getattribute__" = some (some (.builtin "BaseException.__getattribute__"))
  g : PySem.W.findIn K (.ref C) "__getattr__" = some none
  d : PySem.W.hasDictIn K C = true
  l : PySem.W.findIn K (.ref C) "__class__" = some (some (.builtin "object.__class__"))
  n : PySem.W.specialIn K (.builtin "object.__class__") "__get__" = some (some (.builtin "getset_descriptor.__get__"))
  h : PySem.W.takesIn K (.builtin "object.__class__") = some true
  m : PySem.W.mroIn K C (.type "object") = some true
section
variable {K : PySem.W.Frag} {C C1 C2 : Addr} {b : Bool}
theorem ClsT.exc (T : ClsT K C) : ExcC K C := ⟨T.a, T.g, T.b, T.d, T.l, T.n, T.h, T.m⟩
theorem ClsT.xf (T : ClsT K C) : XfC K C := ⟨T.a, T.g, T.b, T.d⟩
theorem kit_sub {t : Value} (T2 : ClsT K C2) (s : PySem.W.subIn K t (.ref C2) = some b) : PySem.W.kitCls K t (.ref C2) = some b := by
  obtain ⟨q, e⟩ := T2.c
  show (if ((PySem.W.clsIn K C2).isSome && PySem.W.typeIn K (.ref C2) == some (.type "type")) = true then PySem.W.subIn K t (.ref C2) else none) = some b
  rw [if_pos, s]
  rw [e, T2.t]
  rfl
theorem kit_cls (T2 : ClsT K C2) (ne : (Value.ref C1 == Value.ref C2) = false) (s : PySem.W.subIn K (.ref C1) (.ref C2) = some b) : PySem.W.kitOne K (.ref C1) (.ref C2) = some b := by
  unfold PySem.W.kitOne
  rw [ne, if_neg Bool.false_ne_true]
  exact kit_sub T2 s
theorem kit_self : PySem.W.kitOne K (.ref C) (.ref C) = some true := by
  unfold PySem.W.kitOne
  rw [if_pos (beq_self_eq_true _)]
theorem exm_cls {t : Value} (T2 : ClsT K C2) (s : PySem.W.subIn K t (.ref C2) = some b) : PySem.W.exmOne K t (.ref C2) = some b := by
  unfold PySem.W.exmOne
  rw [if_pos (by rw [T2.b]; rfl)]
  exact kit_sub T2 s
theorem exm_two {t c1 c2 : Value} {b1 b2 : Bool} (h1 : PySem.W.exmOne K t c1 = some b1) (h2 : PySem.W.exmOne K t c2 = some b2) : PySem.W.exmAny K t [c1, c2] = some (b1 || (b2 || false)) := by
  simp only [PySem.W.exmAny, h1, h2]
end
end HSP
namespace HSP
open PySem PySem.Spec PyProof.Rows L2
theorem label_text : ∀ s, s ∈ labelL → (reprText s).length ≤ 7 := by decide +kernel
theorem label_strOk : ∀ s, s ∈ labelL → PyData.strOk s = true := by decide +kernel
theorem ss_show : ∀ l : List Str, PyData.showableAll (l.map PyData.str) = true
  | [] => by simp [PyData.showableAll]
  | z :: r => by simp only [List.map_cons, PyData.showableAll, PyData.showable, ss_show r, Bool.and_self]
theorem ss_nodict : ∀ l : List Str, PyData.hasDictAll (l.map PyData.str) = false
  | [] => by simp [PyData.hasDictAll]
  | z :: r => by simp only [List.map_cons, PyData.hasDictAll, PyData.hasDict, ss_nodict r, Bool.or_self]
def pairD (vs : List Int) (ss : List Str) : PyData := .tuple [intsD vs, ssD ss]
theorem pairT_fine {vs : List Int} {ss : List Str} (hv : Tame vs) (hs : ∀ s, s ∈ ss → s ∈ labelL) (lv : vs.length ≤ 100) (ls : ss.length ≤ 100) : Fine (pairD vs ss) := by
  have f := ints_fine hv (by omega)
  have d1 := ints_deep vs
  have d2 := ss_deep ss
  unfold pairD
  refine ⟨?_, ?_, ?_, ?_⟩
  · have := f.show_
    simp only [PyData.showable, PyData.showableAll, ssD, ss_show, this, Bool.and_self]
  · have := f.dict
    simp only [PyData.hasDict, PyData.hasDictAll, ssD, ss_nodict, this, Bool.or_self]
  · simp only [PyData.depth, PyData.depthAll, intsD, ssD]
    omega
  · have hI := intsD_len hv
    have hS : (ssD ss).shown.length ≤ ss.length * 9 + 2 := by
      have := shown_list_le 7 (ss.map PyData.str) fun d hd => by
        obtain ⟨s, h, rfl⟩ := List.mem_map.mp hd
        simp only [PyData.shown]
        exact label_text s (hs s h)
      rw [List.length_map] at this
      exact this
    have h3 := tupleText_le (PyData.shownAll [intsD vs, ssD ss])
    simp only [PyData.shownAll, piled_cons, piled_nil] at h3
    simp only [PyData.shown] at h3 ⊢
    simp only [PyData.shownAll] at h3 ⊢
    have line : sizeLine = 16777216 := rfl
    omega
theorem pairT_can {vs : List Int} {ss : List Str} (hs : ∀ s, s ∈ ss → s ∈ labelL) : PyData.canLay0 (pairD vs ss) = true := by
  have h1 : PyData.canLay0 (intsD vs) = true := by
    unfold intsD
    simp only [PyData.canLay0]
    exact ints_can vs
  have h2 := ss_can fun s h => label_strOk s (hs s h)
  unfold pairD
  simp only [PyData.canLay0, PyData.canLayAll0, h1, h2, Bool.and_self]
theorem pairT_shaped {vs : List Int} {ss : List Str} (hs : ∀ s, s ∈ ss → s ∈ labelL) : SeqAt.shaped (pairD vs ss) = true := by
  unfold SeqAt.shaped
  rw [Bool.and_eq_true]
  refine ⟨pairT_can hs, decide_eq_true ?_⟩
  have d1 := ints_deep vs
  have d2 := ss_deep ss
  unfold pairD
  simp only [PyData.depth, PyData.depthAll, intsD, ssD]
  omega
theorem pair_dp {K : PySem.W.Frag} {H : Hp} {r A B : Addr} {vs : List Int} {ss : List Str} (er : H r = some (.tup [.ref A, .ref B])) (eA : H A = some (.lst (vs.map V.int))) (eB : H B = some (.lst (ss.map V.str))) : Dp K H (.ref r) (pairD vs ss) :=
  .tup (.of er) (.cons (.lst (.of eA) (ints_dpAll _)) (.cons (.lst (.of eB) (ss_dpAll _)) .nil))
theorem same_put {H H' : Hp} {a : Addr} {o : HO} (s : Same H H') (h : H a = none) : Same H (upd H' a o) := fun b u e => by
  rw [upd_ne (ne_of_none e h)]
  exact s b u e
section
variable {P : Program} {w : World} {K : PySem.W.Frag} {mg : Str → Option Value} {base : Heap}
theorem sc_law_right : FnScope n_law_right ["draws"] (defScope s_law_right) := ⟨rfl, rfl, rfl, by decide +kernel, rfl, by decide +kernel, by decide +kernel⟩
theorem ok_right {C : Addr} (B : Bl mg) (Rp : mg "repr" = none) (N : Df P w K mg base "_law_next" 1 ["draws"] spNext) (T : Df P w K mg base "_law_tree" 18 ["draws", "room"] (spDraw 17)) (To : TreeOf1 P w K mg base) (Z : Df P w K mg base "_law_size" 17 n_law_size (spSize 17)) (Va : Df P w K mg base "_law_values" 2 ["draws", "many"] spValues)
    (La : Df P w K mg base "_law_labels" 19 p_law_labels (spLawLabels 17)) (Fo : DfB P w K mg base "format_list" 5 ["tree", "values"] ["values", "tree"] spFormat) (Pa : DfB P w K mg base "parse_list" 3 ["text"] ["text"] (fun vs H Q _ => spParse C vs H Q fun _ _ _ => False))
    (a : At K mg "_law_right" s_law_right) : DfG P w K mg base "_law_right" 20 ["draws"] spRight := by
  refine DfG.mk' a sc_law_right (fun vs H Q E h => ?_) (fun _ _ _ _ _ _ us hl => match us, hl with | [_], _ => rfl) (fun f cdv A outer s H vs Q E hg hr h => ?_)
  · obtain ⟨p, k, rfl, _⟩ := h
    rfl
  obtain ⟨p, k, rfl, hd, hk, q⟩ := h
  refine ⟨_, (pss_cons (ps_set (i := 1) sc_law_right.nd rfl (.inl rfl) (pe_df T (hr.mono (by decide)) (pa_cons (pv 0) (pa_cons (pe_op op_mod (pe_callTy call_int1 (by rfl) B.int (by decide +kernel) (pa_cons (pe_df N (hr.mono (by decide)) (pa_cons (pv 0) pa_nil)) pa_nil)) pe_int) pa_nil))))
 (C8.pss_cut (ps_if (pt_cmpR op_eq (pe_op op_mod (pe_callTy call_int1 (by rfl) B.int (by decide +kernel) (pa_cons (pe_df N (hr.mono (by decide)) (pa_cons (pv 0) pa_nil)) pa_nil)) pe_int) pe_int (nomark _)) (pss_one (ps_set (i := 1) sc_law_right.nd rfl (.inl rfl) (pe_treeOf1 To (hr.mono (by decide)) (pa_cons (pe_op op_add pe_int (pe_op op_mod (pe_callTy call_int1 (by rfl) B.int (by decide +kernel) (pa_cons (pe_df N (hr.mono (by decide)) (pa_cons (pv 0) pa_nil)) pa_nil)) pe_int)) pa_nil)))) pss_nil)
 (pss_cons (ps_set (i := 2) sc_law_right.nd rfl (.inl rfl) (pe_df Va (hr.mono (by decide)) (pa_cons (pv 0) (pa_cons (pe_df Z (hr.mono (by decide)) (pa_cons (pv 1) pa_nil)) pa_nil))))
 (C8.pss_cut (ps_if (pt_cmpR op_eq (pe_op op_mod (pe_callTy call_int1 (by rfl) B.int (by decide +kernel) (pa_cons (pe_df N (hr.mono (by decide)) (pa_cons (pv 0) pa_nil)) pa_nil)) pe_int) pe_int (nomark _)) (pss_one (ps_setLc (i := 2) (own := [("node", 3), ("value", 11)]) (g := (gTup K 2 (gCons (gName 3) (gCons (gName 11) gNil)))) (tt := tYes) (by rfl) sc_law_right.nd rfl rfl (sw_true rfl rfl rfl (by decide +kernel)) (pi_enum (by rfl) B.enumerate (pa_cons (pv 2) pa_nil)) (blkOk_by (N := n_law_right) (sc := defScope s_law_right) (by decide +kernel)) (fun _ _ _ _ _ => (pg_tup rfl (pgs_cons (pg_name (i := 3) sc_law_right.nd rfl (.inl rfl)) (pgs_cons (pg_name (i := 11) sc_law_right.nd rfl (.inl rfl)) pgs_nil)))) (fun _ _ _ _ _ => pts_nil) (fun _ _ _ _ _ => (pe_op op_sub (pe_op op_mul (pv 11) (pe_op op_sub (pe_op op_mul pe_int (pe_op op_pow pe_int pe_int)) pe_int)) (pv 3))))) pss_nil)
 (pss_cons (ps_set (i := 4) sc_law_right.nd rfl (.inl rfl) (pe_df La hr (pa_cons (pv 1) (pa_cons (pv 2) pa_nil))))
 (pss_cons (ps_set (i := 5) sc_law_right.nd rfl (.inl rfl) (pe_lst pa_nil))
 (pss_cons (ps_for PassesOwn.never rfl (pi_enum (by rfl) B.enumerate (pa_cons (pv 4) pa_nil)) (pg_tup rfl (pgs_cons (pg_name (i := 3) sc_law_right.nd rfl (.inl rfl)) (pgs_cons (pg_name (i := 6) sc_law_right.nd rfl (.inl rfl)) pgs_nil))) (pss_one (ps_expr (pe_bm PySem.F.plainAttrs_list PySem.F.slot_list_append PySem.F.type_list_append mt_append (pv 5) (pa_cons (pe_op op_add_str (pe_op op_add_str (pe_op op_add_str (pe_op op_add_str (pe_callTy call_str_int (by rfl) B.str (by decide +kernel) (pa_cons (pv 3) pa_nil)) pe_str) (pe_callTy call_str_int (by rfl) B.str (by decide +kernel) (pa_cons (pe_ix (show IxR _ (rIxL K) from ix_list) (pv 2) (pv 3) (fun _ _ => rfl)) pa_nil))) pe_str) (pv 6)) pa_nil)))))
 (pss_cons (ps_set (i := 7) sc_law_right.nd rfl (.inl rfl) (pe_join pe_str (pv 5)))
 (pss_cons (ps_if (PW.pt (pw_or (pt_cmpR op_ne (pe_df Fo.df (hr.mono (by decide)) (pa_cons (pv 1) (pa_cons (pv 2) pa_nil))) (pv 7) (nomark _)) (pw_or1 (pt_cmpR op_ne (pe_dfK Fo (hr.mono (by decide))  (pk_cons (pv 2) (pk_cons (pv 1) pk_nil))) (pv 7) (nomark _))))) (pss_one (ps_ret pe_bl)) pss_nil)
 (pss_cons (ps_set (i := 8) sc_law_right.nd rfl (.inl rfl) (pe_df Pa.df (hr.mono (by decide)) (pa_cons (pv 7) pa_nil)))
 (pss_cons (ps_if (PW.pt (pw_or (pt_cmpR op_ne (pe_callB (cr_reprD hg hr.units) (by rfl) Rp (by decide +kernel) (pa_cons (pv 8) pa_nil)) (pe_callB (cr_reprD hg hr.units) (by rfl) Rp (by decide +kernel) (pa_cons (pe_tup (pa_cons (pv 2) (pa_cons (pv 4) pa_nil))) pa_nil)) (nomark _)) (pw_or1 (pt_cmpR (op_neD hr.units) (pe_dfK Pa (hr.mono (by decide))  (pk_cons (pv 7) pk_nil)) (pv 8) (nomark _))))) (pss_one (ps_ret pe_bl)) pss_nil)
 (pss_cons (ps_par (i := 9) (j := 10) (by rfl) sc_law_right.nd rfl rfl (by decide) rfl rfl (pa_cons (pe_ix ix_tup (pv 8) pe_int (fun _ _ => rfl)) (pa_cons (pe_ix ix_tup (pv 8) pe_int (fun _ _ => rfl)) pa_nil)) (by rfl))
 (pss_cons (ps_expr (pe_bm PySem.F.plainAttrs_list PySem.F.slot_list_append PySem.F.type_list_append mt_append (pv 9) (pa_cons pe_non pa_nil)))
 (pss_cons (ps_if (pt_cmpR (op_neD hr.units) (pv 10) (pv 4) (nomark _)) (pss_one (ps_ret pe_bl)) pss_nil)
 (pss_cons (ps_expr (pe_bm PySem.F.plainAttrs_list PySem.F.slot_list_append PySem.F.type_list_append mt_append (pv 10) (pa_cons pe_non pa_nil)))
 (pss_one (ps_ret (pe_cmpR (op_eqD hr.units) (pe_df Pa.df (hr.mono (by decide)) (pa_cons (pv 7) pa_nil)) (pe_tup (pa_cons (pv 2) (pa_cons (pv 4) pa_nil))) (nomark _))))))))))))))))))), ?_⟩
  have zero : 0 ≤ sizeLine := by show 0 ≤ sizeLine; decide
  have two : 2 ≤ sizeLine := by show 2 ≤ sizeLine; decide
  -- the tree
  refine ⟨_, rfl, _, rfl, p, k, rfl, hd, by omega, fun H1 r1 kp1 d1 a1 a2 => .inl ⟨_, rfl, _, _, rfl, rfl, (by show (0 : Int) < 17; decide), ?_⟩⟩
  have m1 := Int.emod_nonneg r1 (show (17 : Int) ≠ 0 by decide)
  have m2 := Int.emod_lt_of_pos r1 (show (0 : Int) < 17 by decide)
  refine ⟨p, (r1 % 17).toNat, k + 1, congrArg (fun z => [V.ref p, V.int z]) (by omega : r1 % 17 = (((r1 % 17).toNat : Nat) : Int)), by omega, d1, by omega, fun H2 v0 t0 kp2 d2 ht0 hs => ?_⟩
  refine ⟨fun σ H5 => ∃ (v : V) (t : Tr), σ = [some (.ref p), some v, none, none, none, none, none, none, none, none, none, none] ∧ Keep p H H5 ∧ DrAt H5 p (k + 45) ∧ TrAt H5 v t ∧ t.size ≤ 64 ∧ t.ht ≤ 16, ?_, ?_⟩
  · refine ⟨_, rfl, p, _, rfl, d2, by omega, fun H3 r3 kp3 d3 b1 b2 => .inl ⟨_, rfl, _, _, rfl, rfl, (by show (0 : Int) < 4; decide), rfl, _, rfl, ?_⟩⟩
    have kpB := (kp1.trans kp2).trans kp3
    have ht3 := d2.tree kp3 ht0
    refine ite2 (fun c => ?_) (fun c => ⟨v0, t0, rfl, kpB, d3.mono (by omega), ht3, by omega, Nat.le_trans t0.ht_le (by omega)⟩)
    refine ⟨_, rfl, p, _, rfl, d3, by omega, fun H5 r5 kp5 d5 _ _ => .inl ⟨_, rfl, _, _, rfl, rfl, (by show (0 : Int) < 48; decide), _, _, rfl, rfl, ?_⟩⟩
    have q1 := Int.emod_nonneg r5 (show (48 : Int) ≠ 0 by decide)
    have q2 := Int.emod_lt_of_pos r5 (show (0 : Int) < 48 by decide)
    refine ⟨(17 + r5 % 48).toNat, true, congrArg (fun z => [V.int z, ruleV true]) (by omega : 17 + r5 % 48 = (((17 + r5 % 48).toNat : Nat) : Int)), by omega, fun H6 v t s6 tv z g => ?_⟩
    exact ⟨v, t, rfl, kpB.trans (kp5.trans (.of s6)), (d5.same s6).mono (by omega), tv, by omega, by omega⟩
  rintro σ H2' ⟨v, t, rfl, kpT, dT, tvT, t64, h16⟩
  have hht : t.ht < 17 := by omega
  refine ⟨_, rfl, v, rfl, v, t, rfl, tvT, hht, ?_⟩
  refine ⟨p, t.size, k + 45, rfl, by omega, dT, by omega, fun H3 a ns kp3 d3 na ea la near => ?_⟩
  have ht3 : TrAt H3 v t := dT.tree kp3 tvT
  have kpA : Keep p H H3 := kpT.trans kp3
  -- great numbers
  refine ⟨fun σ H5 => ∃ (a : Addr) (ns : List Int) (y3 y11 : Option V), σ = [some (.ref p), some v, some (.ref a), y3, none, none, none, none, none, none, none, y11] ∧ Keep p H H5 ∧ DrAt H5 p (k + 130) ∧ TrAt H5 v t ∧ H5 a = some (.lst (ns.map V.int)) ∧ ns.length = t.size ∧ a ≠ p ∧ ∀ z, z ∈ ns → z.natAbs < 10 ^ 24, ?_, ?_⟩
  · refine ⟨_, rfl, p, _, rfl, d3, by omega, fun H4 r4 kp4 d4 b1 b2 => .inl ⟨_, rfl, _, _, rfl, rfl, (by show (0 : Int) < 4; decide), rfl, _, rfl, ?_⟩⟩
    have kpB : Keep p H H4 := kpA.trans kp4
    have ht4 : TrAt H4 v t := d3.tree kp4 ht3
    have nap : a ≠ p := d3.neOf ea
    have ea4 : H4 a = some (.lst (ns.map V.int)) := kp4 _ _ nap ea
    refine ite2 (fun c => ?_) (fun c => ⟨a, ns, _, _, rfl, kpB, d4.mono (by omega), ht4, ea4, la, nap, fun z hz => by have := near z hz; omega⟩)
    refine ⟨_, rfl, a, _, rfl, .of ea4, fun D hD => ?_⟩
    refine lc_it (walk_enum (K := K) (a := a) (xs := ns.map V.int)) (fun i H' => ∃ ms : List Int, Same H4 H' ∧ H' D = some (.lst (ms.map V.int)) ∧ ms.length = i ∧ ∀ z, z ∈ ms → z.natAbs < 10 ^ 24) ⟨[], Same.new hD, upd_same, rfl, fun z hz => nomatch hz⟩ (fun i H5 _ h5 => ?_) (fun i x H5 H6 hi h5 hy => ?_) (fun H5 h5 => ?_)
    · obtain ⟨ms, s5, _⟩ := h5
      exact .of (s5 _ _ ea4)
    · obtain ⟨ms, s5, e5, l5, tm⟩ := h5
      obtain ⟨T2, x1, x2, rfl, nT, rfl, g1, g2⟩ := hy
      rw [List.length_map] at hi
      cases (show some (V.int ((i : Nat) : Int)) = some x1 from g1)
      cases (valAt_get hi).symm.trans g2
      have nz := near _ (valAt_mem hi)
      have sT := Same.new (o := .tup [V.int ((i : Nat) : Int), V.int (valAt ns i)]) nT
      refine ⟨T2, _, rfl, .of upd_same, rfl, _, _, rfl, _, [], rfl, rfl, rfl, ?_⟩
      refine ⟨_, rfl, _, _, rfl, rfl, ⟨by decide, by decide, by decide⟩, _, _, rfl, rfl, .inl ⟨by decide +kernel, by decide +kernel⟩, _, _, rfl, rfl, _, _, rfl, rfl, .inr ⟨by decide +kernel, by decide +kernel⟩, _, rfl, _, _, rfl, rfl, _, sT _ _ e5, ?_, ms ++ [valAt ns i * (2 * (10 : Int) ^ (14 : Int).toNat - 1) - (i : Int)], fun b o e => ?_, ?_, ?_, fun z hz => ?_⟩
      · rw [List.length_map]
        exact small1000 (by omega)
      · rw [upd_ne (ne_of_none e hD)]
        exact sT _ _ (s5 _ _ e)
      · rw [upd_same, List.map_append]
        rfl
      · rw [List.length_append, List.length_singleton, l5]
      · rcases List.mem_append.mp hz with hz | hz
        · exact tm z hz
        · rw [List.mem_singleton.mp hz, show (14 : Int).toNat = 14 from rfl]
          omega
    · obtain ⟨ms, s5, e5, l5, tm⟩ := h5
      rw [List.length_map] at l5
      exact ⟨D, ms, _, _, rfl, kpB.trans (.of s5), (d4.same s5).mono (by omega), ht4.same s5, e5, by omega, d4.ne hD, tm⟩
  rintro σ H5 ⟨a, ns, y3, y11, rfl, kp5, d5, tv5, ea5, la, nap, sm⟩
  clear kp1 kp2 kp3 d1 d2 d3 ht0 ht3 kpA na ea near kpT dT tvT
  have near : ∀ i, i < t.size → (valAt ns i).natAbs < 10 ^ 24 := fun i hi => sm _ (valAt_mem (by omega))
  have labs : ∀ i, i < t.size → labS ns t i ∈ labelL := fun i _ => lab_in _
  refine ⟨v, rfl, _, rfl, v, t, a, ns, rfl, tv5, hht, t64, ea5, la, fun H6 du s6 n6 e6 => ?_⟩
  refine ⟨zero, fun L hL => ?_⟩
  have sL := Same.new (o := .lst []) hL
  have e7 := sL _ _ e6
  have eL : (upd H6 L (.lst [])) L = some (.lst []) := upd_same
  have s57 := s6.trans sL
  have n57 : H5 L = none := s6.free hL
  generalize upd H6 L (.lst []) = H7 at e7 eL s57 ⊢
  have nuL : du ≠ L := ne_of_none e6 hL
  have ea7 := s57 _ _ ea5
  have naL : a ≠ L := ne_of_none ea5 n57
  refine ⟨_, rfl, du, _, rfl, .of e7, for_it (walk_enum (K := K) (a := du) (xs := labsV (valAt ns) t t.size)) (fun i σ H' => ∃ y3 y6 : Option V, σ = [some (.ref p), some v, some (.ref a), y3, some (.ref du), some (.ref L), y6, none, none, none, none, y11] ∧ Stay [L] H7 H' ∧ H' L = some (.lst (((List.range i).map fun i => lineS i (valAt ns i) (labS ns t i)).map V.str))) ⟨_, _, rfl, .refl _ _, eL⟩ (fun i σ H' _ h' => ?_) (fun i x σ H8 H9 hi h8 hy => ?_) (fun σ H8 h8 => ?_)⟩
  · obtain ⟨_, _, _, st, _⟩ := h'
    exact .of (st _ _ (no1 nuL) e7)
  · obtain ⟨y3, y6, rfl, st, e8⟩ := h8
    obtain ⟨T, x1, x2, rfl, nT, rfl, g1, g2⟩ := hy
    rw [labsV_len] at hi
    cases (show some (V.int ((i : Nat) : Int)) = some x1 from g1)
    have g2 : (labsV (valAt ns) t t.size)[i]? = some x2 := g2
    unfold labsV at g2
    rw [List.getElem?_map, List.getElem?_range hi] at g2
    cases g2
    have sT := Same.new (o := .tup [V.int ((i : Nat) : Int), V.str (labAt (valAt ns) t i).str]) nT
    have nm : ((i : Nat) : Int).natAbs.log2 < 1920 := log_less (show ((i : Nat) : Int).natAbs < _ from Nat.lt_of_lt_of_le (show i < 100 by omega) (by decide))
    have nv : (valAt ns i).natAbs.log2 < 1920 := log_less (Nat.lt_of_lt_of_le (near i hi) (Nat.pow_le_pow_right (by decide) (by decide)))
    have lq : (Str.ofString (toString (valAt ns i))).length ≤ 25 := intS_len near labs (by omega) hi
    have l0 : (TL.numL i).length ≤ 2 := TL.numL_len (by decide) (by omega)
    have lb := (lab_signs near labs (by omega) _ (lab_in (labAt (valAt ns) t i))).1
    have l1 : (Str.ofString (toString ((i : Nat) : Int))).length ≤ 2 := by
      rw [TL.len_tl, TL.tl_num]
      exact l0
    have sp : (" " : Str).length = 1 := by decide +kernel
    have line : sizeLine = 16777216 := rfl
    have ea9 := sT _ _ (st _ _ (no1 naL) ea7)
    have e9 := sT _ _ e8
    have st9 := st.then sT
    have eT : (upd H8 T (.tup [V.int ((i : Nat) : Int), V.str (labAt (valAt ns) t i).str])) T = some (.tup [V.int ((i : Nat) : Int), V.str (labAt (valAt ns) t i).str]) := upd_same
    generalize upd H8 T (.tup [V.int ((i : Nat) : Int), V.str (labAt (valAt ns) t i).str]) = H9 at ea9 e9 eT st9 ⊢
    refine ⟨T, _, rfl, .of eT, rfl, _, _, rfl, _, [], rfl, rfl, ?_⟩
    refine ⟨_, rfl, .inl ⟨rfl, _, .of e9⟩, _, rfl, _, rfl, nm, _, _, rfl, rfl, ?_, _, rfl, _, rfl, a, _, _, _, rfl, rfl, .of ea9, atI_nat (j := i) (v := V.int (valAt ns i)) (valAt_get (ns := ns) (i := i) (by omega)), _, rfl, nv, _, _, rfl, rfl, ?_, _, _, rfl, rfl, ?_, _, rfl, _, _, rfl, rfl, ?_, L, _, _, rfl, rfl, e9, ?_, ?_⟩
    · omega
    · rw [app_len]; omega
    · rw [app_len, app_len]; omega
    · rw [app_len, app_len, app_len]; omega
    · rw [List.length_map, List.length_map, List.length_range]
      exact small1000 (by omega)
    refine ⟨_, _, rfl, st9.put List.mem_cons_self, ?_⟩
    rw [upd_same, List.range_succ, List.map_append, List.map_append]
    refine congrArg (fun z => some (HO.lst (_ ++ [V.str z]))) (TL.ext_tl ?_)
    have es : TL.tl (" " : Str) = [32] := by decide +kernel
    show TL.tl (Str.ofString (toString ((i : Nat) : Int)) ++ (" " : Str) ++ Str.ofString (toString (valAt ns i)) ++ (" " : Str) ++ (labAt (valAt ns) t i).str) = TL.tl (lineS i (valAt ns i) (labS ns t i))
    rw [tl_line, TL.tl_append, TL.tl_append, TL.tl_append, TL.tl_append, es, List.append_assoc, List.append_assoc, List.append_assoc]
    rfl
  obtain ⟨y3, y6, rfl, st, e8⟩ := h8
  rw [labsV_len] at e8
  have s58 : Same H5 H8 := Stay.same (X := [L]) s57 (fun y hy => (List.mem_singleton.mp hy) ▸ n57) st
  have ea8 := s58 _ _ ea5
  have ed8 := st _ _ (no1 nuL) e7
  have tv8 := tv5.same s58
  have kp8 := kp5.trans (.of s58)
  have d8 := d5.same s58
  clear s58 ea7 e7 st s57 eL s6 sL tv5 ea5 e6 kp5
  refine ⟨⟨_, rfl⟩, _, rfl, _, L, linesG (valAt ns) (labS ns t) t.size, rfl, rfl, .inl (.of e8), lines_sum near labs (by omega), ?_⟩
  have xl := text_len near labs (by omega)
  have good := text_good near labs (by omega)
  have back := lines_back near labs (by omega)
  have xv := text_vals near labs (by omega)
  have xb := text_labs near labs (by omega)
  have xs := text_lines near labs (by omega)
  have few : (linesT (textG (valAt ns) (labS ns t) t.size)).length ≤ 601 := by
    rw [back]
    unfold linesG
    rw [List.length_map, List.length_range]
    omega
  have vals : (List.range t.size).map (valAt ns) = ns := by
    rw [← la]
    refine List.ext_getElem? fun i => ?_
    rw [List.getElem?_map]
    by_cases h : i < ns.length
    · have z := valAt_get (ns := ns) h
      rw [List.getElem?_map, List.getElem?_eq_getElem h] at z
      rw [List.getElem?_range h, List.getElem?_eq_getElem h]
      exact congrArg some (V.int.inj (Option.some.inj z)).symm
    · rw [List.getElem?_eq_none (by rw [List.length_range]; omega), List.getElem?_eq_none (by omega)]
      rfl
  rw [vals] at xv
  have duL : labsV (valAt ns) t t.size = ((List.range t.size).map (labS ns t)).map V.str := by
    unfold labsV
    rw [List.map_map]
    rfl
  rw [duL] at ed8
  have inL : ∀ s, s ∈ (List.range t.size).map (labS ns t) → s ∈ labelL := fun s hs => by
    obtain ⟨i, hi, rfl⟩ := List.mem_map.mp hs
    exact lab_in _
  have fine : Fine (pairD ns ((List.range t.size).map (labS ns t))) := pairT_fine (fun z hz => by have := sm z hz; omega) inL (by omega) (by rw [List.length_map, List.length_range]; omega)
  have shp := pairT_shaped (vs := ns) inL
  have lbl : ((List.range t.size).map (labS ns t)).length = t.size := by rw [List.length_map, List.length_range]
  have eqv : PyData.eqv (pairD ns ((List.range t.size).map (labS ns t))) (pairD ns ((List.range t.size).map (labS ns t))) = true := SeqAt.eqv_refl _ (pairT_can inL)
  have bad : ∀ (H : Hp) i, badT (linesT (textG (valAt ns) (labS ns t) t.size)) = some i → ET C (fun _ _ _ => False) H (natV (i + 1)) := fun H i hi => by
    rw [good] at hi
    cases hi
  rw [show Txt.join ("\n" : Str) (linesG (valAt ns) (labS ns t) t.size) = textG (valAt ns) (labS ns t) t.size from rfl]
  -- format_list
  refine ⟨v, rfl, _, rfl, v, t, a, ns, rfl, tv8, t64, ea8, la, sm, fun H9 s9 => ⟨_, rfl, rfl, _, rfl, ?_⟩⟩
  rw [decide_eq_true (show V.str (textG (valAt ns) (labS ns t) t.size) = V.str (textG (valAt ns) (labS ns t) t.size) from rfl)]
  refine iteF ?_
  have ea9 := s9 _ _ ea8
  have tv9 := tv8.same s9
  refine ⟨_, rfl, _, rfl, rfl, rfl, v, t, a, ns, rfl, tv9, t64, ea9, la, sm, fun H10 s10 => ⟨_, rfl, rfl, _, rfl, ?_⟩⟩
  rw [decide_eq_true (show V.str (textG (valAt ns) (labS ns t) t.size) = V.str (textG (valAt ns) (labS ns t) t.size) from rfl)]
  refine iteF ?_
  have s810 := s9.trans s10
  have ea10 := s810 _ _ ea8
  have ed10 := s810 _ _ ed8
  have kp10 := kp8.trans (.of s810)
  have d10 := d8.same s810
  clear tv8 tv9 ea8 ea9 ed8 kp8 d8 s9 s10 s810 back near labs e8
  generalize textG (valAt ns) (labS ns t) t.size = x at *
  generalize (List.range t.size).map (labS ns t) = lbs at *
  -- parse_list
  refine ⟨_, rfl, x, rfl, by omega, few, xs, fun _ H11 r A1 B1 s11 nr nA nB er eA eB nAB => ?_, bad _⟩
  rw [xv] at eA
  rw [xb] at eB
  have ea11 := s11 _ _ ea10
  have ed11 := s11 _ _ ed10
  refine ⟨_, rfl, r, _, rfl, pair_dp er eA eB, fine.show_, fine.dict, fine.deep, fine.len, ?_⟩
  refine ⟨_, rfl, _, rfl, two, fun T hT => ?_⟩
  have sT := Same.new (o := .tup [V.ref a, V.ref du]) hT
  have eT : (upd H11 T (.tup [V.ref a, V.ref du])) T = some (.tup [V.ref a, V.ref du]) := upd_same
  generalize upd H11 T (.tup [V.ref a, V.ref du]) = H12 at sT eT ⊢
  refine ⟨T, _, rfl, pair_dp eT (sT _ _ ea11) (sT _ _ ed11), fine.show_, fine.dict, fine.deep, fine.len, rfl, _, rfl, ?_⟩
  rw [decide_eq_true (show V.str (pairD ns lbs).shown = V.str (pairD ns lbs).shown from rfl)]
  refine iteF ?_
  refine ⟨_, rfl, rfl, rfl, x, rfl, by omega, few, xs, fun _ H13 r2 A2 B2 s13 nr2 nA2 nB2 er2 eA2 eB2 _ => ?_, bad _⟩
  rw [xv] at eA2
  rw [xb] at eB2
  have s1113 := sT.trans s13
  have er13 := s1113 _ _ er
  have eA13 := s1113 _ _ eA
  have eB13 := s1113 _ _ eB
  refine ⟨_, rfl, _, _, pair_dp er2 eA2 eB2, pair_dp er13 eA13 eB13, shp, shp, _, rfl, ?_⟩
  rw [eqv]
  refine iteF ?_
  -- the two parts
  refine ⟨_, rfl, r, _, _, _, rfl, rfl, .of er13, rfl, _, rfl, r, _, _, _, rfl, rfl, .of er13, rfl, _, _, rfl, ?_⟩
  have s1013 := s11.trans s1113
  refine ⟨_, rfl, .inl ⟨rfl, _, .of eA13⟩, A1, _, _, rfl, rfl, eA13, by rw [List.length_map]; exact small1000 (by omega), ?_⟩
  have s1014 : Same H10 (upd H13 A1 (.lst (ns.map V.int ++ [V.non]))) := same_put s1013 nA
  have eB14 : (upd H13 A1 (.lst (ns.map V.int ++ [V.non]))) B1 = some (.lst (lbs.map V.str)) := (upd_ne nAB.symm).trans eB13
  have shS : SeqAt.shaped (ssD lbs) = true := ss_shaped fun s h => label_strOk s (inL s h)
  have eqs : PyData.eqv (ssD lbs) (ssD lbs) = true := SeqAt.eqv_refl _ (ss_can fun s h => label_strOk s (inL s h))
  refine ⟨_, rfl, _, rfl, ssD lbs, ssD lbs, .lst (.of eB14) (ss_dpAll _), .lst (.of (s1014 _ _ ed10)) (ss_dpAll _), shS, shS, _, rfl, ?_⟩
  rw [eqs]
  refine iteF ?_
  refine ⟨_, rfl, .inl ⟨rfl, _, .of eB14⟩, B1, _, _, rfl, rfl, eB14, by rw [List.length_map]; exact small1000 (by omega), ?_⟩
  have s1015 := same_put (o := .lst (lbs.map V.str ++ [V.non])) s1014 nB
  generalize upd (upd H13 A1 (.lst (ns.map V.int ++ [V.non]))) B1 (.lst (lbs.map V.str ++ [V.non])) = H15 at s1015 ⊢
  refine ⟨_, rfl, x, rfl, by omega, few, xs, fun _ H16 r3 A3 B3 s16 nr3 nA3 nB3 er3 eA3 eB3 _ => ?_, bad _⟩
  rw [xv] at eA3
  rw [xb] at eB3
  have s1016 := s1015.trans s16
  refine ⟨_, rfl, _, rfl, two, fun T3 hT3 => ?_⟩
  have sT3 := Same.new (o := .tup [V.ref a, V.ref du]) hT3
  refine ⟨_, _, pair_dp (sT3 _ _ er3) (sT3 _ _ eA3) (sT3 _ _ eB3), pair_dp upd_same (sT3 _ _ (s1016 _ _ ea10)) (sT3 _ _ (s1016 _ _ ed10)), shp, shp, ?_⟩
  rw [eqv]
  have fs := s1016.trans sT3
  exact q _ (kp10.trans (.of fs)) ((d10.same fs).mono (by omega))
end
end HSP
namespace HSP
open PySem PySem.Spec PyProof.Rows L2
section
variable {P : Program} {w : World} {K : PySem.W.Frag} {mg : Str → Option Value} {base : Heap}
/-! ### law -/
theorem sc_law : FnScope n_law ["script"] (defScope s_law) := ⟨rfl, rfl, rfl, by decide +kernel, rfl, by decide +kernel, by decide +kernel⟩
def spLaw (K : PySem.W.Frag) : Sp := fun vs H Q _ => ∃ (a : Addr) (ns : List Int), vs = [.ref a] ∧ SqL K H a (ns.map V.int) ∧ ns.length ≤ 63 ∧ ∀ H', Q (.bl true) H'
theorem ok_law {f : Addr} {fd : FuncData} (B : Bl mg) (F : Fun K "law" "law" s_law f fd) (D : Df P w K mg base "_law_draws" 1 ["cell"] spDraws) (R : DfG P w K mg base "_law_right" 20 ["draws"] spRight) : FnG P w K mg base CX0 21 f fd ["script"] (spLaw K) := by
  refine FnG.mk' F sc_law (fun vs H Q E h => ?_) (fun cdv A outer s H vs Q E hg hr h => ?_)
  · obtain ⟨a, ns, rfl, _⟩ := h
    rfl
  obtain ⟨a, ns, rfl, hS, h63, q⟩ := h
  refine ⟨_, PSs.nox (pss_cons (ps_for PassesOwn.never rfl (pi_list (pe_op op_cat (pe_slice sl_list (pv 0) po_none (po_some pe_int)) (pe_lst (pa_cons pe_int pa_nil)))) (pg_name (i := 1) sc_law.nd rfl (.inl rfl)) (pss_cons (ps_set (i := 2) sc_law.nd rfl (.inl rfl) (pe_df D (hr.mono (by decide)) (pa_cons (pv 1) pa_nil)))
 (pss_one (ps_for PassesOwn.never rfl (pi_range1 (by rfl) B.range (pa_cons pe_int pa_nil)) (pg_name (i := 3) sc_law.nd rfl (.inl rfl)) (pss_one (ps_if (pt_not (pt_val (pe_dfG R hg hr (pa_cons (pv 2) pa_nil)))) (pss_one (ps_ret pe_bl)) pss_nil))))))
 (pss_one (ps_ret pe_bl))), ?_⟩
  refine ⟨_, rfl, 6, rfl, a, _, rfl, hS, fun c1 hc1 => ?_⟩
  refine ⟨(by show 1 ≤ sizeLine; decide), fun c2 hc2 => ?_⟩
  have s1 := Same.new (o := .lst (cutV (ns.map V.int) none (some 6))) hc1
  have s2 := Same.new (o := .lst [V.int 0]) hc2
  refine ⟨c1, c2, _, _, rfl, rfl, s2 _ _ upd_same, upd_same, ?_, fun C hC => ?_⟩
  · have z := cutV_length (ns.map V.int) none (some 6)
    rw [List.length_map] at z
    show _ + 1 ≤ sizeLine
    exact Nat.le_of_lt (small1000 (by omega))
  have cells : ∀ x, x ∈ cutV (ns.map V.int) none (some 6) ++ [V.int 0] → ∃ z, x = V.int z := fun x hx => by
    rcases List.mem_append.mp hx with hx | hx
    · have h1 := List.mem_of_mem_take hx
      have h2 := List.mem_of_mem_drop h1
      obtain ⟨z, _, rfl⟩ := List.mem_map.mp h2
      exact ⟨z, rfl⟩
    · exact ⟨0, List.mem_singleton.mp hx⟩
  have eC : (upd (upd (upd H c1 (.lst (cutV (ns.map V.int) none (some 6)))) c2 (.lst [V.int 0])) C (.lst (cutV (ns.map V.int) none (some 6) ++ [V.int 0]))) C = some (.lst (cutV (ns.map V.int) none (some 6) ++ [V.int 0])) := upd_same
  generalize cutV (ns.map V.int) none (some 6) ++ [V.int 0] = xs at cells eC ⊢
  generalize upd (upd (upd H c1 (.lst (cutV (ns.map V.int) none (some 6)))) c2 (.lst [V.int 0])) C (.lst xs) = H1 at eC ⊢
  refine ⟨C, rfl, ⟨_, .of eC⟩, for_list (xs := xs) (fun i σ H' => ∃ y0 y1 y2 y3, σ = [y0, y1, y2, y3] ∧ H' C = some (.lst xs)) ⟨_, _, _, _, rfl, eC⟩ (fun i σ H2 _ h2 => ?_) (fun i x σ H2 hx h2 => ?_) (fun σ H2 _ => q H2)⟩
  · obtain ⟨_, _, _, _, _, e2⟩ := h2
    exact .of e2
  · obtain ⟨y0, y1, y2, y3, rfl, e2⟩ := h2
    obtain ⟨z, rfl⟩ := cells x (List.mem_of_getElem? hx)
    refine ⟨_, rfl, z, rfl, fun H3 p s3 np d3 => ?_⟩
    have nC : C ≠ p := ne_of_none e2 np
    refine ⟨3, rfl, by decide, by decide, ?_⟩
    refine for_range (lo := 0) (n := 3) (fun j σ H' => ∃ y0 y1 y3, σ = [y0, y1, some (.ref p), y3] ∧ H' C = some (.lst xs) ∧ DrAt H' p (200 * j)) ⟨_, _, _, rfl, s3 _ _ e2, d3⟩ (fun j σ H4 hj h4 => ?_) (fun σ H4 h4 => ?_)
    · obtain ⟨y0, y1, y3, rfl, e4, d4⟩ := h4
      refine ⟨_, rfl, p, 200 * j, rfl, d4, by omega, fun H5 k5 d5 => ⟨true, rfl, iteF ?_⟩⟩
      exact ⟨_, _, _, rfl, k5 C _ nC e4, d5.mono (by omega)⟩
    · obtain ⟨y0, y1, y3, rfl, e4, _⟩ := h4
      exact ⟨_, _, _, _, rfl, e4⟩
end
/-! ## what the top has written -/
theorem all_mk {l : PySem.W.OpenLaw} {w : World} {K : PySem.W.Frag} {h : Heap} {mg : Str → Option Value} {fa : Addr} (X : K.In h) (G : h.Ns mainGlobals mg) (hfa : mg "law" = some (.ref fa))
    {f1 : Addr} {od1 an1 : Option Addr} {sl1 : Array (Option Value)} {oc1 kV1 dc1 pm1 cd1 ct1 : Value}
    (a1 : PySem.W.nsIn K mainGlobals "is_whole" = some (some (.ref f1))) (l1 : K.lookup f1 = some ⟨oc1, od1, .func (PySem.W.fnOf "is_whole" "is_whole" (defArgs s_is_whole) (defBody s_is_whole) (defScope s_is_whole) .none kV1 dc1 pm1 an1 cd1 ct1), sl1⟩) (c1 : PySem.W.codeIn K cd1 "is_whole" = true) (k1 : PySem.W.keepIn K (.ref f1) = true)
    {f2 : Addr} {od2 an2 : Option Addr} {sl2 : Array (Option Value)} {oc2 kV2 dc2 pm2 cd2 ct2 : Value}
    (a2 : PySem.W.nsIn K mainGlobals "is_tree" = some (some (.ref f2))) (l2 : K.lookup f2 = some ⟨oc2, od2, .func (PySem.W.fnOf "is_tree" "is_tree" (defArgs s_is_tree) (defBody s_is_tree) (defScope s_is_tree) .none kV2 dc2 pm2 an2 cd2 ct2), sl2⟩) (c2 : PySem.W.codeIn K cd2 "is_tree" = true) (k2 : PySem.W.keepIn K (.ref f2) = true)
    {f3 : Addr} {od3 an3 : Option Addr} {sl3 : Array (Option Value)} {oc3 kV3 dc3 pm3 cd3 ct3 : Value}
    (a3 : PySem.W.nsIn K mainGlobals "count_nodes" = some (some (.ref f3))) (l3 : K.lookup f3 = some ⟨oc3, od3, .func (PySem.W.fnOf "count_nodes" "count_nodes" (defArgs s_count_nodes) (defBody s_count_nodes) (defScope s_count_nodes) .none kV3 dc3 pm3 an3 cd3 ct3), sl3⟩) (c3 : PySem.W.codeIn K cd3 "count_nodes" = true) (k3 : PySem.W.keepIn K (.ref f3) = true)
    {f4 : Addr} {od4 an4 : Option Addr} {sl4 : Array (Option Value)} {oc4 kV4 dc4 pm4 cd4 ct4 : Value}
    (a4 : PySem.W.nsIn K mainGlobals "walk" = some (some (.ref f4))) (l4 : K.lookup f4 = some ⟨oc4, od4, .func (PySem.W.fnOf "walk" "walk" (defArgs s_walk) (defBody s_walk) (defScope s_walk) .none kV4 dc4 pm4 an4 cd4 ct4), sl4⟩) (c4 : PySem.W.codeIn K cd4 "walk" = true) (k4 : PySem.W.keepIn K (.ref f4) = true)
    {f5 : Addr} {od5 an5 : Option Addr} {sl5 : Array (Option Value)} {oc5 kV5 dc5 pm5 cd5 ct5 : Value}
    (a5 : PySem.W.nsIn K mainGlobals "paths_of" = some (some (.ref f5))) (l5 : K.lookup f5 = some ⟨oc5, od5, .func (PySem.W.fnOf "paths_of" "paths_of" (defArgs s_paths_of) (defBody s_paths_of) (defScope s_paths_of) .none kV5 dc5 pm5 an5 cd5 ct5), sl5⟩) (c5 : PySem.W.codeIn K cd5 "paths_of" = true) (k5 : PySem.W.keepIn K (.ref f5) = true)
    {f6 : Addr} {od6 an6 : Option Addr} {sl6 : Array (Option Value)} {oc6 kV6 dc6 pm6 cd6 ct6 : Value}
    (a6 : PySem.W.nsIn K mainGlobals "check_tree" = some (some (.ref f6))) (l6 : K.lookup f6 = some ⟨oc6, od6, .func (PySem.W.fnOf "check_tree" "check_tree" (defArgs s_check_tree) (defBody s_check_tree) (defScope s_check_tree) .none kV6 dc6 pm6 an6 cd6 ct6), sl6⟩) (c6 : PySem.W.codeIn K cd6 "check_tree" = true) (k6 : PySem.W.keepIn K (.ref f6) = true)
    {f7 : Addr} {od7 an7 : Option Addr} {sl7 : Array (Option Value)} {oc7 kV7 dc7 pm7 cd7 ct7 : Value}
    (a7 : PySem.W.nsIn K mainGlobals "check_row" = some (some (.ref f7))) (l7 : K.lookup f7 = some ⟨oc7, od7, .func (PySem.W.fnOf "check_row" "check_row" (defArgs s_check_row) (defBody s_check_row) (defScope s_check_row) .none kV7 dc7 pm7 an7 cd7 ct7), sl7⟩) (c7 : PySem.W.codeIn K cd7 "check_row" = true) (k7 : PySem.W.keepIn K (.ref f7) = true)
    {f8 : Addr} {od8 an8 : Option Addr} {sl8 : Array (Option Value)} {oc8 kV8 dc8 pm8 cd8 ct8 : Value}
    (a8 : PySem.W.nsIn K mainGlobals "check_values" = some (some (.ref f8))) (l8 : K.lookup f8 = some ⟨oc8, od8, .func (PySem.W.fnOf "check_values" "check_values" (defArgs s_check_values) (defBody s_check_values) (defScope s_check_values) .none kV8 dc8 pm8 an8 cd8 ct8), sl8⟩) (c8 : PySem.W.codeIn K cd8 "check_values" = true) (k8 : PySem.W.keepIn K (.ref f8) = true)
    {f9 : Addr} {od9 an9 : Option Addr} {sl9 : Array (Option Value)} {oc9 kV9 dc9 pm9 cd9 ct9 : Value}
    (a9 : PySem.W.nsIn K mainGlobals "bounds_below" = some (some (.ref f9))) (l9 : K.lookup f9 = some ⟨oc9, od9, .func (PySem.W.fnOf "bounds_below" "bounds_below" (defArgs s_bounds_below) (defBody s_bounds_below) (defScope s_bounds_below) .none kV9 dc9 pm9 an9 cd9 ct9), sl9⟩) (c9 : PySem.W.codeIn K cd9 "bounds_below" = true) (k9 : PySem.W.keepIn K (.ref f9) = true)
    {f10 : Addr} {od10 an10 : Option Addr} {sl10 : Array (Option Value)} {oc10 kV10 dc10 pm10 cd10 ct10 : Value}
    (a10 : PySem.W.nsIn K mainGlobals "label_of" = some (some (.ref f10))) (l10 : K.lookup f10 = some ⟨oc10, od10, .func (PySem.W.fnOf "label_of" "label_of" (defArgs s_label_of) (defBody s_label_of) (defScope s_label_of) .none kV10 dc10 pm10 an10 cd10 ct10), sl10⟩) (c10 : PySem.W.codeIn K cd10 "label_of" = true) (k10 : PySem.W.keepIn K (.ref f10) = true)
    {f11 : Addr} {od11 an11 : Option Addr} {sl11 : Array (Option Value)} {oc11 kV11 dc11 pm11 cd11 ct11 : Value}
    (a11 : PySem.W.nsIn K mainGlobals "labels_of" = some (some (.ref f11))) (l11 : K.lookup f11 = some ⟨oc11, od11, .func (PySem.W.fnOf "labels_of" "labels_of" (defArgs s_labels_of) (defBody s_labels_of) (defScope s_labels_of) .none kV11 dc11 pm11 an11 cd11 ct11), sl11⟩) (c11 : PySem.W.codeIn K cd11 "labels_of" = true) (k11 : PySem.W.keepIn K (.ref f11) = true)
    {f12 : Addr} {od12 an12 : Option Addr} {sl12 : Array (Option Value)} {oc12 kV12 dc12 pm12 cd12 ct12 : Value}
    (a12 : PySem.W.nsIn K mainGlobals "is_number" = some (some (.ref f12))) (l12 : K.lookup f12 = some ⟨oc12, od12, .func (PySem.W.fnOf "is_number" "is_number" (defArgs s_is_number) (defBody s_is_number) (defScope s_is_number) .none kV12 dc12 pm12 an12 cd12 ct12), sl12⟩) (c12 : PySem.W.codeIn K cd12 "is_number" = true) (k12 : PySem.W.keepIn K (.ref f12) = true)
    {f13 : Addr} {od13 an13 : Option Addr} {sl13 : Array (Option Value)} {oc13 kV13 dc13 pm13 cd13 ct13 : Value}
    (a13 : PySem.W.nsIn K mainGlobals "is_line" = some (some (.ref f13))) (l13 : K.lookup f13 = some ⟨oc13, od13, .func (PySem.W.fnOf "is_line" "is_line" (defArgs s_is_line) (defBody s_is_line) (defScope s_is_line) .none kV13 dc13 pm13 an13 cd13 ct13), sl13⟩) (c13 : PySem.W.codeIn K cd13 "is_line" = true) (k13 : PySem.W.keepIn K (.ref f13) = true)
    {f14 : Addr} {od14 an14 : Option Addr} {sl14 : Array (Option Value)} {oc14 kV14 dc14 pm14 cd14 ct14 : Value}
    (a14 : PySem.W.nsIn K mainGlobals "format_list" = some (some (.ref f14))) (l14 : K.lookup f14 = some ⟨oc14, od14, .func (PySem.W.fnOf "format_list" "format_list" (defArgs s_format_list) (defBody s_format_list) (defScope s_format_list) .none kV14 dc14 pm14 an14 cd14 ct14), sl14⟩) (c14 : PySem.W.codeIn K cd14 "format_list" = true) (k14 : PySem.W.keepIn K (.ref f14) = true)
    {f15 : Addr} {od15 an15 : Option Addr} {sl15 : Array (Option Value)} {oc15 kV15 dc15 pm15 cd15 ct15 : Value}
    (a15 : PySem.W.nsIn K mainGlobals "parse_list" = some (some (.ref f15))) (l15 : K.lookup f15 = some ⟨oc15, od15, .func (PySem.W.fnOf "parse_list" "parse_list" (defArgs s_parse_list) (defBody s_parse_list) (defScope s_parse_list) .none kV15 dc15 pm15 an15 cd15 ct15), sl15⟩) (c15 : PySem.W.codeIn K cd15 "parse_list" = true) (k15 : PySem.W.keepIn K (.ref f15) = true)
    {f16 D16 : Addr} {od16 an16 : Option Addr} {sl16 : Array (Option Value)} {oc16 dc16 pm16 cd16 ct16 u16 : Value}
    (a16 : PySem.W.nsIn K mainGlobals "tree_of" = some (some (.ref f16))) (l16 : K.lookup f16 = some ⟨oc16, od16, .func (PySem.W.fnOf "tree_of" "tree_of" (defArgs s_tree_of) (defBody s_tree_of) (defScope s_tree_of) .none (.ref D16) dc16 pm16 an16 cd16 ct16), sl16⟩) (c16 : PySem.W.codeIn K cd16 "tree_of" = true) (k16 : PySem.W.keepIn K (.ref f16) = true)
    (d16 : PySem.W.nsIn K D16 "rule" = some (some u16)) (r16 : ∃ t, u16 = .str "upper" t)
    {f17 : Addr} {od17 an17 : Option Addr} {sl17 : Array (Option Value)} {oc17 kV17 dc17 pm17 cd17 ct17 : Value}
    (a17 : PySem.W.nsIn K mainGlobals "halved" = some (some (.ref f17))) (l17 : K.lookup f17 = some ⟨oc17, od17, .func (PySem.W.fnOf "halved" "halved" (defArgs s_halved) (defBody s_halved) (defScope s_halved) .none kV17 dc17 pm17 an17 cd17 ct17), sl17⟩) (c17 : PySem.W.codeIn K cd17 "halved" = true) (k17 : PySem.W.keepIn K (.ref f17) = true)
    {f18 : Addr} {od18 an18 : Option Addr} {sl18 : Array (Option Value)} {oc18 kV18 dc18 pm18 cd18 ct18 : Value}
    (a18 : PySem.W.nsIn K mainGlobals "_law_draws" = some (some (.ref f18))) (l18 : K.lookup f18 = some ⟨oc18, od18, .func (PySem.W.fnOf "_law_draws" "_law_draws" (defArgs s_law_draws) (defBody s_law_draws) (defScope s_law_draws) .none kV18 dc18 pm18 an18 cd18 ct18), sl18⟩) (c18 : PySem.W.codeIn K cd18 "_law_draws" = true) (k18 : PySem.W.keepIn K (.ref f18) = true)
    {f19 : Addr} {od19 an19 : Option Addr} {sl19 : Array (Option Value)} {oc19 kV19 dc19 pm19 cd19 ct19 : Value}
    (a19 : PySem.W.nsIn K mainGlobals "_law_next" = some (some (.ref f19))) (l19 : K.lookup f19 = some ⟨oc19, od19, .func (PySem.W.fnOf "_law_next" "_law_next" (defArgs s_law_next) (defBody s_law_next) (defScope s_law_next) .none kV19 dc19 pm19 an19 cd19 ct19), sl19⟩) (c19 : PySem.W.codeIn K cd19 "_law_next" = true) (k19 : PySem.W.keepIn K (.ref f19) = true)
    {f20 : Addr} {od20 an20 : Option Addr} {sl20 : Array (Option Value)} {oc20 kV20 dc20 pm20 cd20 ct20 : Value}
    (a20 : PySem.W.nsIn K mainGlobals "_law_size" = some (some (.ref f20))) (l20 : K.lookup f20 = some ⟨oc20, od20, .func (PySem.W.fnOf "_law_size" "_law_size" (defArgs s_law_size) (defBody s_law_size) (defScope s_law_size) .none kV20 dc20 pm20 an20 cd20 ct20), sl20⟩) (c20 : PySem.W.codeIn K cd20 "_law_size" = true) (k20 : PySem.W.keepIn K (.ref f20) = true)
    {f21 : Addr} {od21 an21 : Option Addr} {sl21 : Array (Option Value)} {oc21 kV21 dc21 pm21 cd21 ct21 : Value}
    (a21 : PySem.W.nsIn K mainGlobals "_law_tree" = some (some (.ref f21))) (l21 : K.lookup f21 = some ⟨oc21, od21, .func (PySem.W.fnOf "_law_tree" "_law_tree" (defArgs s_law_tree) (defBody s_law_tree) (defScope s_law_tree) .none kV21 dc21 pm21 an21 cd21 ct21), sl21⟩) (c21 : PySem.W.codeIn K cd21 "_law_tree" = true) (k21 : PySem.W.keepIn K (.ref f21) = true)
    {f22 : Addr} {od22 an22 : Option Addr} {sl22 : Array (Option Value)} {oc22 kV22 dc22 pm22 cd22 ct22 : Value}
    (a22 : PySem.W.nsIn K mainGlobals "_law_values" = some (some (.ref f22))) (l22 : K.lookup f22 = some ⟨oc22, od22, .func (PySem.W.fnOf "_law_values" "_law_values" (defArgs s_law_values) (defBody s_law_values) (defScope s_law_values) .none kV22 dc22 pm22 an22 cd22 ct22), sl22⟩) (c22 : PySem.W.codeIn K cd22 "_law_values" = true) (k22 : PySem.W.keepIn K (.ref f22) = true)
    {f23 : Addr} {od23 an23 : Option Addr} {sl23 : Array (Option Value)} {oc23 kV23 dc23 pm23 cd23 ct23 : Value}
    (a23 : PySem.W.nsIn K mainGlobals "_law_visits" = some (some (.ref f23))) (l23 : K.lookup f23 = some ⟨oc23, od23, .func (PySem.W.fnOf "_law_visits" "_law_visits" (defArgs s_law_visits) (defBody s_law_visits) (defScope s_law_visits) .none kV23 dc23 pm23 an23 cd23 ct23), sl23⟩) (c23 : PySem.W.codeIn K cd23 "_law_visits" = true) (k23 : PySem.W.keepIn K (.ref f23) = true)
    {f24 : Addr} {od24 an24 : Option Addr} {sl24 : Array (Option Value)} {oc24 kV24 dc24 pm24 cd24 ct24 : Value}
    (a24 : PySem.W.nsIn K mainGlobals "_law_probes" = some (some (.ref f24))) (l24 : K.lookup f24 = some ⟨oc24, od24, .func (PySem.W.fnOf "_law_probes" "_law_probes" (defArgs s_law_probes) (defBody s_law_probes) (defScope s_law_probes) .none kV24 dc24 pm24 an24 cd24 ct24), sl24⟩) (c24 : PySem.W.codeIn K cd24 "_law_probes" = true) (k24 : PySem.W.keepIn K (.ref f24) = true)
    {f25 : Addr} {od25 an25 : Option Addr} {sl25 : Array (Option Value)} {oc25 kV25 dc25 pm25 cd25 ct25 : Value}
    (a25 : PySem.W.nsIn K mainGlobals "_law_labels" = some (some (.ref f25))) (l25 : K.lookup f25 = some ⟨oc25, od25, .func (PySem.W.fnOf "_law_labels" "_law_labels" (defArgs s_law_labels) (defBody s_law_labels) (defScope s_law_labels) .none kV25 dc25 pm25 an25 cd25 ct25), sl25⟩) (c25 : PySem.W.codeIn K cd25 "_law_labels" = true) (k25 : PySem.W.keepIn K (.ref f25) = true)
    {f26 : Addr} {od26 an26 : Option Addr} {sl26 : Array (Option Value)} {oc26 kV26 dc26 pm26 cd26 ct26 : Value}
    (a26 : PySem.W.nsIn K mainGlobals "_law_right" = some (some (.ref f26))) (l26 : K.lookup f26 = some ⟨oc26, od26, .func (PySem.W.fnOf "_law_right" "_law_right" (defArgs s_law_right) (defBody s_law_right) (defScope s_law_right) .none kV26 dc26 pm26 an26 cd26 ct26), sl26⟩) (c26 : PySem.W.codeIn K cd26 "_law_right" = true) (k26 : PySem.W.keepIn K (.ref f26) = true)
    {f27 : Addr} {od27 an27 : Option Addr} {sl27 : Array (Option Value)} {oc27 kV27 dc27 pm27 cd27 ct27 : Value}
    (a27 : PySem.W.nsIn K mainGlobals "law" = some (some (.ref f27))) (l27 : K.lookup f27 = some ⟨oc27, od27, .func (PySem.W.fnOf "law" "law" (defArgs s_law) (defBody s_law) (defScope s_law) .none kV27 dc27 pm27 an27 cd27 ct27), sl27⟩) (c27 : PySem.W.codeIn K cd27 "law" = true) (k27 : PySem.W.keepIn K (.ref f27) = true)
    (z0 : PySem.W.nsIn K mainGlobals "isinstance" = some none)
    (z1 : PySem.W.nsIn K mainGlobals "int" = some none)
    (z2 : PySem.W.nsIn K mainGlobals "bool" = some none)
    (z3 : PySem.W.nsIn K mainGlobals "tuple" = some none)
    (z4 : PySem.W.nsIn K mainGlobals "list" = some none)
    (z5 : PySem.W.nsIn K mainGlobals "str" = some none)
    (z6 : PySem.W.nsIn K mainGlobals "len" = some none)
    (z7 : PySem.W.nsIn K mainGlobals "range" = some none)
    (z8 : PySem.W.nsIn K mainGlobals "enumerate" = some none)
    (z9 : PySem.W.nsIn K mainGlobals "sorted" = some none)
    (z10 : PySem.W.nsIn K mainGlobals "set" = some none)
    (z11 : PySem.W.nsIn K mainGlobals "sum" = some none)
    (z12 : PySem.W.nsIn K mainGlobals "max" = some none)
    (z13 : PySem.W.nsIn K mainGlobals "abs" = some none)
    (z14 : PySem.W.nsIn K mainGlobals "zip" = some none)
    (z15 : PySem.W.nsIn K mainGlobals "min" = some none)
    (z16 : PySem.W.nsIn K mainGlobals "repr" = some none)
    (z17 : PySem.W.nsIn K mainGlobals "all" = some none)
    {C1 fI aL : Addr} {odI anI dL : Option Addr} {slI slL : Array (Option Value)} {ocI kVI dcI pmI cdI ctI : Value} {nmI qqI : Str} {NNI : Addr} {bsI : List Value} {snI : List Str} {subI : List Value} {abI : Bool} {colI : Option Bool} {dddI : Option Addr} {m0 m1 m2 m3 m5 : Option Value} {zt t1 t2 t3 t4 : Tok} {nL : Nat}
    (cg1 : PySem.W.nsIn K mainGlobals "InvalidText" = some (some (.ref C1)))
    (ci1 : PySem.W.findIn K (.ref C1) "__init__" = some (some (.ref fI)))
    (cT1 : ClsT K C1)
    (cs11 : PySem.W.subIn K (.ref C1) (.ref C1) = some true)
    (csV : PySem.W.subIn K (.ref C1) (.type "ValueError") = some true)
    (cL1 : K.lookup C1 = some (excClassObj nmI qqI C1 NNI bsI [.type "ValueError", .type "Exception", .type "BaseException", .type "object"] true snI subI abI colI dddI m0 m1 m2 m3 m5 "ValueError.__new__"))
    (csa1 : PySem.W.findIn K (.ref C1) "__setattr__" = some (some (.builtin "object.__setattr__")))
    (cn1 : PySem.W.findIn K (.ref C1) "line" = some none)
    (htI : PySem.W.typeIn K (.ref fI) = some (.type "function"))
    (clI : K.lookup fI = some ⟨ocI, odI, .func (PySem.W.fnOf "__init__" "InvalidText.__init__" (defArgs s_itInit) (defBody s_itInit) (defScope s_itInit) .none kVI dcI pmI anI cdI ctI), slI⟩)
    (ccI : PySem.W.codeIn K cdI "InvalidText.__init__" = true)
    (ckI : PySem.W.keepIn K (.ref fI) = true)
    (cvE : PySem.W.nsIn K mainGlobals "ValueError" = some none)
    (cvV : PySem.W.findCls K (.type "ValueError") (.type "type") "__init__" = some (.val (.builtin "ValueError.__init__")))
    (zdig : PySem.W.nsIn K mainGlobals "DIGITS" = some (some (.str "0123456789" zt)))
    (zlab : PySem.W.nsIn K mainGlobals "LABELS" = some (some (.ref aL)))
    (zlk : K.lookup aL = some ⟨.type "tuple", dL, .seq #[.str "dead" t1, .str "found" t2, .str "high" t3, .str "low" t4] nL, slL⟩)
    : ∃ fd : FuncData, (∀ (s : Shared) (v : Value), BindsTo s fd ⟨[v], []⟩ [("script", v)]) ∧ ∀ base : Heap, K.In base → base.Ns mainGlobals mg → FnG l.prog w K mg base CX0 21 fa fd ["script"] (spLaw K) := by
  cases hfa.symm.trans (PySem.W.mg_of X G a27)
  have B : Bl mg := ⟨PySem.W.mg_none_of X G z0, PySem.W.mg_none_of X G z1, PySem.W.mg_none_of X G z2, PySem.W.mg_none_of X G z3, PySem.W.mg_none_of X G z4, PySem.W.mg_none_of X G z5, PySem.W.mg_none_of X G z6, PySem.W.mg_none_of X G z7, PySem.W.mg_none_of X G z8, PySem.W.mg_none_of X G z9, PySem.W.mg_none_of X G z10, PySem.W.mg_none_of X G z11, PySem.W.mg_none_of X G z12, PySem.W.mg_none_of X G z13, PySem.W.mg_none_of X G z14, PySem.W.mg_none_of X G z15⟩
  have A1 : At K mg "is_whole" s_is_whole := ⟨_, _, PySem.W.mg_of X G a1, fun_mk l1 c1 k1⟩
  have A2 : At K mg "is_tree" s_is_tree := ⟨_, _, PySem.W.mg_of X G a2, fun_mk l2 c2 k2⟩
  have A3 : At K mg "count_nodes" s_count_nodes := ⟨_, _, PySem.W.mg_of X G a3, fun_mk l3 c3 k3⟩
  have A4 : At K mg "walk" s_walk := ⟨_, _, PySem.W.mg_of X G a4, fun_mk l4 c4 k4⟩
  have A5 : At K mg "paths_of" s_paths_of := ⟨_, _, PySem.W.mg_of X G a5, fun_mk l5 c5 k5⟩
  have A6 : At K mg "check_tree" s_check_tree := ⟨_, _, PySem.W.mg_of X G a6, fun_mk l6 c6 k6⟩
  have A7 : At K mg "check_row" s_check_row := ⟨_, _, PySem.W.mg_of X G a7, fun_mk l7 c7 k7⟩
  have A8 : At K mg "check_values" s_check_values := ⟨_, _, PySem.W.mg_of X G a8, fun_mk l8 c8 k8⟩
  have A9 : At K mg "bounds_below" s_bounds_below := ⟨_, _, PySem.W.mg_of X G a9, fun_mk l9 c9 k9⟩
  have A10 : At K mg "label_of" s_label_of := ⟨_, _, PySem.W.mg_of X G a10, fun_mk l10 c10 k10⟩
  have A11 : At K mg "labels_of" s_labels_of := ⟨_, _, PySem.W.mg_of X G a11, fun_mk l11 c11 k11⟩
  have A12 : At K mg "is_number" s_is_number := ⟨_, _, PySem.W.mg_of X G a12, fun_mk l12 c12 k12⟩
  have A13 : At K mg "is_line" s_is_line := ⟨_, _, PySem.W.mg_of X G a13, fun_mk l13 c13 k13⟩
  have A14 : At K mg "format_list" s_format_list := ⟨_, _, PySem.W.mg_of X G a14, fun_mk l14 c14 k14⟩
  have A15 : At K mg "parse_list" s_parse_list := ⟨_, _, PySem.W.mg_of X G a15, fun_mk l15 c15 k15⟩
  have A16 : AtO K mg := ⟨_, _, PySem.W.mg_of X G a16, ⟨⟨_, _, _, _, _, _, _, _, _, _, rfl, l16, c16, .inl ⟨rfl, rfl⟩, .inr ⟨D16, rfl, fun q hq => by cases List.mem_singleton.mp hq; exact ⟨u16, d16, r16⟩⟩⟩, k16⟩⟩
  have A17 : At K mg "halved" s_halved := ⟨_, _, PySem.W.mg_of X G a17, fun_mk l17 c17 k17⟩
  have A18 : At K mg "_law_draws" s_law_draws := ⟨_, _, PySem.W.mg_of X G a18, fun_mk l18 c18 k18⟩
  have A19 : At K mg "_law_next" s_law_next := ⟨_, _, PySem.W.mg_of X G a19, fun_mk l19 c19 k19⟩
  have A20 : At K mg "_law_size" s_law_size := ⟨_, _, PySem.W.mg_of X G a20, fun_mk l20 c20 k20⟩
  have A21 : At K mg "_law_tree" s_law_tree := ⟨_, _, PySem.W.mg_of X G a21, fun_mk l21 c21 k21⟩
  have A22 : At K mg "_law_values" s_law_values := ⟨_, _, PySem.W.mg_of X G a22, fun_mk l22 c22 k22⟩
  have A23 : At K mg "_law_visits" s_law_visits := ⟨_, _, PySem.W.mg_of X G a23, fun_mk l23 c23 k23⟩
  have A24 : At K mg "_law_probes" s_law_probes := ⟨_, _, PySem.W.mg_of X G a24, fun_mk l24 c24 k24⟩
  have A25 : At K mg "_law_labels" s_law_labels := ⟨_, _, PySem.W.mg_of X G a25, fun_mk l25 c25 k25⟩
  have A26 : At K mg "_law_right" s_law_right := ⟨_, _, PySem.W.mg_of X G a26, fun_mk l26 c26 k26⟩
  refine ⟨PySem.W.fnOf "law" "law" (defArgs s_law) (defBody s_law) (defScope s_law) .none kV27 dc27 pm27 an27 cd27 ct27, fun s v => .of_eq rfl, fun base _ _ => ?_⟩
  have FI := fun_mk (st := s_itInit) clI ccI ckI
  have OT : OwnT K mg C1 fI _ := ⟨PySem.W.mg_of X G cg1, ⟨⟨_, _, _, _, _, _, _, _, _, _, _, _, _, _, _, cL1, by decide +kernel⟩, csa1, cT1.b, cT1.t, cT1.k⟩, ci1, htI, cn1, FI, FI.binds fun _ _ _ _ _ _ us hl => match us, hl with | [_, _], _ => rfl, PySem.W.mg_none_of X G cvE, cvV⟩
  have LA : LabsAt K mg := ⟨aL, PySem.W.mg_of X G zlab, fun H => .inr ⟨_, _, _, zlk, rfl, rfl, (by show 4 ≤ sizeLine; decide), .cons ⟨_, rfl⟩ (.cons ⟨_, rfl⟩ (.cons ⟨_, rfl⟩ (.cons ⟨_, rfl⟩ .nil)))⟩⟩
  have Wh := ok_whole (P := l.prog) (w := w) (base := base) B A1
  have Tr := ok_tree (P := l.prog) (w := w) (base := base) B A2
  have Co := ok_count (P := l.prog) (w := w) (base := base) A3
  have Wa := ok_walk Co A4
  have Pt := ok_paths B Co Wa A5
  have Ct := ok_chkT Tr A6
  have Cr := ok_chkR B Wh A7
  have Cv := ok_chkV B Cr Co Ct A8
  have Bo := ok_bounds (P := l.prog) (w := w) (base := base) B A9
  have Lo := ok_label (P := l.prog) (w := w) (base := base) A10
  have Lf := ok_labelsOf B Pt Bo Lo A11
  have Nm := ok_num (P := l.prog) (w := w) (base := base) B (PySem.W.mg_none_of X G z17) (PySem.W.mg_of X G zdig) A12
  have Li := ok_line B LA Nm A13
  have Fo := okB_format B Cv Lf A14
  have Pa := ok_parse B OT Li A15
  have Hv := ok_halvedR (P := l.prog) (w := w) (base := base) A17 8
  have To := ok_treeOf1 B Hv A16
  have Dr := ok_draws (P := l.prog) (w := w) (base := base) B A18
  have N := ok_next (P := l.prog) (w := w) (base := base) B A19
  have Z := ok_size (P := l.prog) (w := w) (base := base) A20 17
  have T := ok_drawT B N A21 17
  have Va := ok_values B N A22
  have Vi := ok_visits B Z A23
  have Pr := ok_probes (P := l.prog) (w := w) (base := base) B A24
  have La := ok_lawLabels (by decide) B Pr Vi A25
  have R := ok_right B (PySem.W.mg_none_of X G z16) N T To Z Va La Fo Pa.calm A26
  exact ok_law B (fun_mk l27 c27 k27) Dr R
end HSP
open PySem PySem.W PyProof.Rows
set_option maxHeartbeats 0 in
theorem PySem.Challenge.cw_halfsearch_k70_lists_as_texts_holds : PySem.Challenge.rw_halfsearch_k70_lists_as_texts.Holds := by
  w_on; o_law; k_head; (case hw => w_witness2)
  k_fill
  refine HSP.walk_ofG (l := PySem.Challenge.rw_halfsearch_k70_lists_as_texts) (n := 63) (k := 21) (x := "script") (sp := fun w => HSP.spLaw _) rfl (by decide) rfl ⟨rfl, by decide, by decide⟩ (fun w h Y => PySem.W.kIn_of Y) ?F (fun _ _ a ns hl _ hS => ⟨a, ns, rfl, hS, hl, fun _ => rfl⟩)
  case F =>
    intro w mg fa h KX G hmg
    refine' HSP.all_mk KX G hmg ?a1 ?l1 ?c1 ?k1 ?a2 ?l2 ?c2 ?k2 ?a3 ?l3 ?c3 ?k3 ?a4 ?l4 ?c4 ?k4 ?a5 ?l5 ?c5 ?k5 ?a6 ?l6 ?c6 ?k6 ?a7 ?l7 ?c7 ?k7 ?a8 ?l8 ?c8 ?k8 ?a9 ?l9 ?c9 ?k9 ?a10 ?l10 ?c10 ?k10 ?a11 ?l11 ?c11 ?k11 ?a12 ?l12 ?c12 ?k12 ?a13 ?l13 ?c13 ?k13 ?a14 ?l14 ?c14 ?k14 ?a15 ?l15 ?c15 ?k15 ?a16 ?l16 ?c16 ?k16 ?d16 ?r16 ?a17 ?l17 ?c17 ?k17 ?a18 ?l18 ?c18 ?k18 ?a19 ?l19 ?c19 ?k19 ?a20 ?l20 ?c20 ?k20 ?a21 ?l21 ?c21 ?k21 ?a22 ?l22 ?c22 ?k22 ?a23 ?l23 ?c23 ?k23 ?a24 ?l24 ?c24 ?k24 ?a25 ?l25 ?c25 ?k25 ?a26 ?l26 ?c26 ?k26 ?a27 ?l27 ?c27 ?k27 ?z0 ?z1 ?z2 ?z3 ?z4 ?z5 ?z6 ?z7 ?z8 ?z9 ?z10 ?z11 ?z12 ?z13 ?z14 ?z15 ?z16 ?z17 ?cg1 ?ci1 ?cT1 ?cs11 ?csV ?cL1 ?csa1 ?cn1 ?htI ?clI ?ccI ?ckI ?cvE ?cvV ?zdig ?zlab ?zlk
    (case a1 => k_is)
    (case l1 => k_is)
    (case c1 => k_is)
    (case k1 => k_is)
    (case a2 => k_is)
    (case l2 => k_is)
    (case c2 => k_is)
    (case k2 => k_is)
    (case a3 => k_is)
    (case l3 => k_is)
    (case c3 => k_is)
    (case k3 => k_is)
    (case a4 => k_is)
    (case l4 => k_is)
    (case c4 => k_is)
    (case k4 => k_is)
    (case a5 => k_is)
    (case l5 => k_is)
    (case c5 => k_is)
    (case k5 => k_is)
    (case a6 => k_is)
    (case l6 => k_is)
    (case c6 => k_is)
    (case k6 => k_is)
    (case a7 => k_is)
    (case l7 => k_is)
    (case c7 => k_is)
    (case k7 => k_is)
    (case a8 => k_is)
    (case l8 => k_is)
    (case c8 => k_is)
    (case k8 => k_is)
    (case a9 => k_is)
    (case l9 => k_is)
    (case c9 => k_is)
    (case k9 => k_is)
    (case a10 => k_is)
    (case l10 => k_is)
    (case c10 => k_is)
    (case k10 => k_is)
    (case a11 => k_is)
    (case l11 => k_is)
    (case c11 => k_is)
    (case k11 => k_is)
    (case a12 => k_is)
    (case l12 => k_is)
    (case c12 => k_is)
    (case k12 => k_is)
    (case a13 => k_is)
    (case l13 => k_is)
    (case c13 => k_is)
    (case k13 => k_is)
    (case a14 => k_is)
    (case l14 => k_is)
    (case c14 => k_is)
    (case k14 => k_is)
    (case a15 => k_is)
    (case l15 => k_is)
    (case c15 => k_is)
    (case k15 => k_is)
    (case a16 => k_is)
    (case l16 => k_is)
    (case c16 => k_is)
    (case k16 => k_is)
    (case d16 => k_is)
    (case r16 => exact ⟨_, rfl⟩)
    (case a17 => k_is)
    (case l17 => k_is)
    (case c17 => k_is)
    (case k17 => k_is)
    (case a18 => k_is)
    (case l18 => k_is)
    (case c18 => k_is)
    (case k18 => k_is)
    (case a19 => k_is)
    (case l19 => k_is)
    (case c19 => k_is)
    (case k19 => k_is)
    (case a20 => k_is)
    (case l20 => k_is)
    (case c20 => k_is)
    (case k20 => k_is)
    (case a21 => k_is)
    (case l21 => k_is)
    (case c21 => k_is)
    (case k21 => k_is)
    (case a22 => k_is)
    (case l22 => k_is)
    (case c22 => k_is)
    (case k22 => k_is)
    (case a23 => k_is)
    (case l23 => k_is)
    (case c23 => k_is)
    (case k23 => k_is)
    (case a24 => k_is)
    (case l24 => k_is)
    (case c24 => k_is)
    (case k24 => k_is)
    (case a25 => k_is)
    (case l25 => k_is)
    (case c25 => k_is)
    (case k25 => k_is)
    (case a26 => k_is)
    (case l26 => k_is)
    (case c26 => k_is)
    (case k26 => k_is)
    (case a27 => k_is)
    (case l27 => k_is)
    (case c27 => k_is)
    (case k27 => k_is)
    (case z0 => k_is)
    (case z1 => k_is)
    (case z2 => k_is)
    (case z3 => k_is)
    (case z4 => k_is)
    (case z5 => k_is)
    (case z6 => k_is)
    (case z7 => k_is)
    (case z8 => k_is)
    (case z9 => k_is)
    (case z10 => k_is)
    (case z11 => k_is)
    (case z12 => k_is)
    (case z13 => k_is)
    (case z14 => k_is)
    (case z15 => k_is)
    (case z16 => k_is)
    (case z17 => k_is)
    (case cg1 => k_is)
    (case ci1 => k_is)
    (case cT1 => exact ⟨by k_is, by k_is, by k_is, ⟨_, by k_is⟩, by k_is, by k_is, by k_is, by k_is, by k_is, by k_is, by k_is⟩)
    (case cs11 => k_is)
    (case csV => k_is)
    (case cL1 => k_is)
    (case csa1 => k_is)
    (case cn1 => k_is)
    (case htI => k_is)
    (case clI => k_is)
    (case ccI => k_is)
    (case ckI => k_is)
    (case cvE => k_is)
    (case cvV => k_is)
    (case zdig => k_is)
    (case zlab => k_is)
    (case zlk => k_is)
