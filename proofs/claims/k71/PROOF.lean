import PyProof.Rows.All
import Wide.All
import OpenK.AllK
import Wide.FinOn
import HandS.Base
import HandS.Call
import HandS.List
import HandS.Comp
import HandS.Ends
import HandS.Dict
import HandS.Iter
import HandS.Text
import HandS.Words
import HandS.WordsList
import HandS.Wide
import HandS.Strs
import HandS.SetFor
import HandS.SortInts
import HandS.Defaults
import HandS.IsInst
import HandS.Walk
import HandS.Codes
import HandS.ForSpec
import HandS.Exc
import HandS.ExcValue
import KE.KTryMore
import HandS.ExcField
import HandS.ExcIs
import HandS.WordsExc
import HandS.ExcOwn
import HandS.ExcInit
import HandS.ForMost
import HandS.StrMore
import KE.IntTextLaws
import KE.KWords
import PyProof.NeKinds
import PySem.Challenge.RW_halfsearch_k71_texts_that_are_none
set_option Elab.async false
set_option maxRecDepth 100000
namespace HSP
open PySem PySem.Spec PyProof.Rows L2
/-! ## trees of pairs, as they lie in the heap -/
inductive Tr where
  | nil
  | nod (l r : Tr)
  deriving DecidableEq
def Tr.size : Tr → Nat
  | .nil => 0
  | .nod l r => l.size + 1 + r.size
def Tr.ht : Tr → Nat
  | .nil => 0
  | .nod l r => max l.ht r.ht + 1
theorem Tr.ht_le : ∀ t : Tr, t.ht ≤ t.size
  | .nil => Nat.le_refl _
  | .nod l r => by
    have h1 := l.ht_le
    have h2 := r.ht_le
    simp only [Tr.ht, Tr.size]
    omega
inductive TrAt (H : Hp) : V → Tr → Prop
  | nil : TrAt H .non .nil
  | nod {a : Addr} {x y : V} {l r : Tr} : H a = some (.tup [x, y]) → TrAt H x l → TrAt H y r → TrAt H (.ref a) (.nod l r)
theorem TrAt.keep {H H' : Hp} {v : V} {t : Tr} (h : TrAt H v t) (s : ∀ a x y, H a = some (.tup [x, y]) → H' a = some (.tup [x, y])) : TrAt H' v t := by
  induction h with
  | nil => exact .nil
  | nod e _ _ ih1 ih2 => exact .nod (s _ _ _ e) ih1 ih2
theorem TrAt.same {H H' : Hp} {v : V} {t : Tr} (h : TrAt H v t) (s : Same H H') : TrAt H' v t := h.keep fun a x y e => s a _ e
/-! ## heaps: all but one place stays -/
def Keep (p : Addr) (H H' : Hp) : Prop := ∀ b o, b ≠ p → H b = some o → H' b = some o
theorem Keep.refl (p : Addr) (H : Hp) : Keep p H H := fun _ _ _ e => e
theorem Keep.trans {p : Addr} {H H1 H2 : Hp} (a : Keep p H H1) (b : Keep p H1 H2) : Keep p H H2 := fun c o n e => b c o n (a c o n e)
theorem Keep.of {p : Addr} {H H' : Hp} (s : Same H H') : Keep p H H' := fun b o _ e => s b o e
theorem Keep.at {p : Addr} {H : Hp} {o : HO} : Keep p H (upd H p o) := fun b u n e => by
  rw [upd_ne n]; exact e
theorem Keep.new {p q : Addr} {H : Hp} {o : HO} (h : H q = none) : Keep p H (upd H q o) := fun b u _ e => by
  rw [upd_ne (ne_of_none e h)]; exact e
theorem Keep.tree {p : Addr} {H H' : Hp} {v : V} {t : Tr} {xs : List V} (k : Keep p H H') (hp : H p = some (.lst xs)) (h : TrAt H v t) : TrAt H' v t :=
  h.keep fun a x y e => k a _ (fun z => by rw [z, hp] at e; cases e) e
theorem Same.new {H : Hp} {p : Addr} {o : HO} (h : H p = none) : Same H (upd H p o) := fun b u e => by
  rw [upd_ne (ne_of_none e h)]; exact e
theorem Keep.same {p : Addr} {H H1 H' : Hp} (s : Same H H1) (n : H p = none) (k : Keep p H1 H') : Same H H' := fun b o e => k b o (ne_of_none e n) (s b o e)
/-! ## powers -/
def CPowW (i j : Int) : Prop := 0 ≤ j ∧ (Builtin.Int.intBits i : Int) * j ≤ 2 ^ 27
section
variable {X : Cx}
theorem op_powW : OpR X (binaryOp .Pow) (rI CPowW fun i j => .int (i ^ j.toNat)) :=
  opI fun _ _ _ _ _ _ _ hc q => pow_int hc.1 hc.2 q
end
end HSP
namespace HSP
open PySem PySem.Spec PyProof.Rows L2
/-! ## a def of the text that keeps a promise, called by its name -/
/-- the def stands under its own name behind the top -/
def At (K : PySem.W.Frag) (mg : Str → Option Value) (x : Str) (st : Stmt) : Prop := ∃ (f : Addr) (fd : FuncData), mg x = some (.ref f) ∧ Fun K x x st f fd
structure Df (P : Program) (w : World) (K : PySem.W.Frag) (mg : Str → Option Value) (base : Heap) (x : Str) (n : Nat) (ps : List Str) (sp : Sp) : Prop where
  ex : ∃ (f : Addr) (fd : FuncData), mg x = some (.ref f) ∧ PySem.W.keepIn K (.ref f) = true ∧ Binds K fd ps [] ∧ FnOk P w K mg base CX0 n f fd ps sp
section
variable {P : Program} {w : World} {K : PySem.W.Frag} {mg : Str → Option Value} {base : Heap}
theorem Df.mk' {x : Str} {st : Stmt} {N ps : List Str} {k : Nat} {sp : Sp} (a : At K mg x st) (S : FnScope N ps (defScope st)) (len : ∀ vs H Q E, sp vs H Q E → vs.length = ps.length)
    (hb : ∀ (kV doc pm : Value) (an : Option Addr) (cdv ct : Value) (us : List Value), us.length = ps.length → bindArgs (PySem.W.fnOf x x (defArgs st) (defBody st) (defScope st) .none kV doc pm an cdv ct) ⟨us, []⟩ = pure (ps.zip us))
    (body : ∀ (f : Addr) (cdv : Value) (A : Around) (outer : List Env) (s : Shared) (H : Hp) (vs : List V) (Q : VK) (E : XK), Room k (A.deeper (envOfC x (defScope st) s.heap.objs.size f cdv)) → sp vs H Q E →
      ∃ t, PSs (cxOf CX0 P w K mg base N x (defScope st) f cdv A outer s H E).nox (defBody st) t ∧ t { nx := fun _ H' => Q .non H', rt := Q } (start N vs) H) : Df P w K mg base x (k + 1) ps sp := by
  obtain ⟨f, fd, hm, F⟩ := a
  exact ⟨f, fd, hm, F.kp, F.binds hb, F.ok S len (body f)⟩
theorem Df.mono {x : Str} {j k : Nat} {ps : List Str} {sp : Sp} (D : Df P w K mg base x j ps sp) (h : j ≤ k) : Df P w K mg base x k ps sp := by
  obtain ⟨f, fd, a, b, c, d⟩ := D.ex
  exact ⟨f, fd, a, b, c, d.mono h⟩
theorem Df.imp {x : Str} {k : Nat} {ps : List Str} {sp sp' : Sp} (D : Df P w K mg base x k ps sp) (h : ∀ vs H Q E, sp' vs H Q E → sp vs H Q E) : Df P w K mg base x k ps sp' := by
  obtain ⟨f, fd, a, b, c, d⟩ := D.ex
  exact ⟨f, fd, a, b, c, d.imp h⟩
end
section
variable {X : Cx} {k : Nat} {ps : List Str} {sp : Sp} {x : Str} {p pos : Pos} {e : Expr} {es : List Expr} {t : TA}
theorem pe_df (D : Df X.prog X.w X.K X.mg X.base x k ps sp) (hr : Room k X.A) (ha : PA X (e :: es) t) (hg : Gl X x := by rfl) (hdb : (x == ("__debug__" : Str)) = false := by decide)
    (he : starEach (e :: es) X.env = (false, eval e X.env) :: starEach es X.env := by rfl) (hpl : (backTo pos (starEach es X.env)).any (·.1) = false := by rfl) : PE X (.Call (.Name x p) (e :: es) [] pos) (tCall sp [] E0 t) := by
  obtain ⟨f, fd, hm, hk, hb, F⟩ := D.ex
  exact pe_call F hr hg hm hk hb .nil pass0 ha hdb he hpl
end
/-! ## what a test or a value is -/
theorem int_inj {i j : Int} (h : i = j) : V.int i = V.int j := by rw [h]
/-! ## the built-ins, not shadowed -/
structure Bl (mg : Str → Option Value) : Prop where
  isinstance : mg "isinstance" = none
  int : mg "int" = none
  bool : mg "bool" = none
  tuple : mg "tuple" = none
  list : mg "list" = none
  str : mg "str" = none
  len : mg "len" = none
  range : mg "range" = none
  enumerate : mg "enumerate" = none
  sorted : mg "sorted" = none
  set : mg "set" = none
  sum : mg "sum" = none
  max : mg "max" = none
  abs : mg "abs" = none
  zip : mg "zip" = none
  min : mg "min" = none
end HSP
namespace HSP
open PySem PySem.Spec PyProof.Rows L2
def topS (i : Nat) : Stmt := PySem.Challenge.pw_halfsearch_k71_texts_that_are_none.main.body.getD i (.Pass ⟨0, 0, 0, 0⟩)
abbrev s_is_number : Stmt := topS 5
abbrev p_is_number : List Str := ["word"]
abbrev n_is_number : List Str := ["word", "digits", "sign"]
abbrev s_is_line : Stmt := topS 6
abbrev p_is_line : List Str := ["words", "node"]
abbrev n_is_line : List Str := ["words", "node"]
abbrev s_parse_list : Stmt := topS 7
abbrev p_parse_list : List Str := ["text"]
abbrev n_parse_list : List Str := ["text", "values", "labels", "lines", "node", "line", "words"]
abbrev s_law_draws : Stmt := topS 9
abbrev p_law_draws : List Str := ["cell"]
abbrev n_law_draws : List Str := ["cell"]
abbrev s_law_next : Stmt := topS 10
abbrev p_law_next : List Str := ["draws"]
abbrev n_law_next : List Str := ["draws", "k", "number"]
abbrev s_law_number : Stmt := topS 11
abbrev p_law_number : List Str := ["text"]
abbrev n_law_number : List Str := ["text", "rest", "sign"]
abbrev s_law_due : Stmt := topS 12
abbrev p_law_due : List Str := ["text"]
abbrev n_law_due : List Str := ["text", "values", "words", "at", "line", "parts"]
abbrev s_law_told : Stmt := topS 13
abbrev p_law_told : List Str := ["text"]
abbrev n_law_told : List Str := ["text", "kept", "told", "e"]
abbrev s_law_line : Stmt := topS 14
abbrev p_law_line : List Str := ["draws", "at"]
abbrev n_law_line : List Str := ["draws", "at", "pick", "number", "word", "sign"]
abbrev s_law_right : Stmt := topS 15
abbrev p_law_right : List Str := ["draws"]
abbrev n_law_right : List Str := ["draws", "at", "lines", "k", "pick", "text", "sign"]
abbrev s_law : Stmt := topS 16
abbrev p_law : List Str := ["script"]
abbrev n_law : List Str := ["script", "cell", "draws", "turn"]
end HSP
namespace HSP
open PySem PySem.Spec PyProof.Rows L2
theorem Paired.app {α β : Type} {R : α → β → Prop} : ∀ {l : List α} {m : List β} {l' : List α} {m' : List β}, Paired R l m → Paired R l' m' → Paired R (l ++ l') (m ++ m')
  | _, _, _, _, .nil, h => h
  | _, _, _, _, .cons a t, h => .cons a (Paired.app t h)
theorem ixN_in {n : Nat} {i : Int} (h0 : 0 ≤ i) (h1 : i < (n : Int)) : ixN n i = some i.toNat := by
  unfold ixN
  rw [if_pos h0, if_pos h1]
def valAt (ns : List Int) (i : Nat) : Int := ns.getD i 0
theorem valAt_get {ns : List Int} {i : Nat} (h : i < ns.length) : (ns.map V.int)[i]? = some (.int (valAt ns i)) := by
  rw [List.getElem?_map, List.getElem?_eq_getElem h, valAt, List.getD_eq_getElem?_getD, List.getElem?_eq_getElem h]
  rfl
def natV (n : Nat) : V := .int (n : Int)
theorem ite_no {c A B : Prop} [Decidable c] (h : ¬ c) (b : B) : if decide c = true then A else B := by
  rw [decide_eq_false h]
  exact iteF b
theorem ite_yes {c A B : Prop} [Decidable c] (h : c) (a : A) : if decide c = true then A else B := by
  rw [decide_eq_true h]
  exact iteT a
inductive Md where
  | fin | lft | rgt
def Md.str : Md → Str
  | .fin => "end"
  | .lft => "left"
  | .rgt => "right"
/-- where a search goes on -/
def wayOf (tw v : Int) (m : Md) : Md := if tw = 2 * v then m else if tw < 2 * v then .lft else .rgt
/-! ### the search, as a function of the tree -/
/-- how it ends: is it found, and the node or the gap -/
def sEnd (g : Nat → Int) (tw : Int) (m : Md) : Tr → Nat → Bool × Nat
  | .nil, f => (false, f)
  | .nod l r, f => match wayOf tw (g (f + l.size)) m with
    | .fin => (true, f + l.size)
    | .lft => sEnd g tw m l f
    | .rgt => sEnd g tw m r (f + l.size + 1)
theorem sEnd_nod (g : Nat → Int) (tw : Int) (m : Md) (l r : Tr) (f : Nat) : sEnd g tw m (.nod l r) f = match wayOf tw (g (f + l.size)) m with | .fin => (true, f + l.size) | .lft => sEnd g tw m l f | .rgt => sEnd g tw m r (f + l.size + 1) := rfl
/-- the nodes at which it is -/
def sPath (g : Nat → Int) (tw : Int) (m : Md) : Tr → Nat → List Nat
  | .nil, _ => []
  | .nod l r, f => (f + l.size) :: match wayOf tw (g (f + l.size)) m with
    | .fin => []
    | .lft => sPath g tw m l f
    | .rgt => sPath g tw m r (f + l.size + 1)
theorem sPath_in (g : Nat → Int) (tw : Int) (m : Md) : ∀ (t : Tr) (f i : Nat), i ∈ sPath g tw m t f → f ≤ i ∧ i < f + t.size
  | .nil, _, _, h => by cases h
  | .nod l r, f, i, h => by
    have e : sPath g tw m (.nod l r) f = (f + l.size) :: match wayOf tw (g (f + l.size)) m with | .fin => [] | .lft => sPath g tw m l f | .rgt => sPath g tw m r (f + l.size + 1) := rfl
    have z : (Tr.nod l r).size = l.size + 1 + r.size := rfl
    rw [e] at h
    rw [z]
    rcases List.mem_cons.mp h with q | q
    · omega
    · cases w : wayOf tw (g (f + l.size)) m with
      | fin => rw [w] at q; cases q
      | lft =>
        rw [w] at q
        have := sPath_in g tw m l f i q
        omega
      | rgt =>
        rw [w] at q
        have := sPath_in g tw m r (f + l.size + 1) i q
        omega
theorem sPath_len (g : Nat → Int) (tw : Int) (m : Md) : ∀ (t : Tr) (f : Nat), (sPath g tw m t f).length ≤ t.size
  | .nil, _ => Nat.le_refl _
  | .nod l r, f => by
    have e : sPath g tw m (.nod l r) f = (f + l.size) :: match wayOf tw (g (f + l.size)) m with | .fin => [] | .lft => sPath g tw m l f | .rgt => sPath g tw m r (f + l.size + 1) := rfl
    have z : (Tr.nod l r).size = l.size + 1 + r.size := rfl
    rw [e, z, List.length_cons]
    cases wayOf tw (g (f + l.size)) m with
    | fin => show 0 + 1 ≤ _; omega
    | lft => have := sPath_len g tw m l f; show (sPath g tw m l f).length + 1 ≤ _; omega
    | rgt => have := sPath_len g tw m r (f + l.size + 1); show (sPath g tw m r (f + l.size + 1)).length + 1 ≤ _; omega
def optNV : Option Nat → V
  | none => .non
  | some n => natV n
def kindV (b : Bool) : V := if b = true then .str "found" else .str "gap"
end HSP
set_option maxHeartbeats 2000000
namespace HSP
open PySem PySem.Spec PyProof.Rows L2
/-! ### try: body, except (A, B) as n: suite -/
section
variable {X : Cx}
/-- a class's name is read, the state stays -/
theorem ld_name {x : Str} {c : Value} {pins : List (Addr × Obj)} {s : Shared} {σ : L2.St} {H : Hp} {q0 : Pos} {Q : Value → Shared → Prop} {E : Value → Shared → Prop} (hc : Names X x c) (I : Inv X pins σ H s) (q : Q c s) : wpAny (model X.prog X.w) X.A (eval (.Name x q0) X.env) Q E s := by
  obtain ⟨g, nd, m | ⟨m, v, n⟩⟩ := hc
  · exact ld_glob I g m q nd
  · exact ld_blt I g m v q n nd
/-- (A, B) is made anew, the heap grows by it alone -/
theorem ld_pair {x1 x2 : Str} {c1 c2 : Value} {pins : List (Addr × Obj)} {s : Shared} {σ : L2.St} {H : Hp} {p1 p2 p3 : Pos} {kk : Nat} {Q : Value → Shared → Prop} {E : Value → Shared → Prop} (h1 : Names X x1 c1) (h2 : Names X x2 c2) (I : Inv X pins σ H s)
    (q : Q (.ref s.heap.objs.size) { s with heap := s.heap.push { cls := .type "tuple", data := .seq [c1, c2].toArray } }) : wpAny (model X.prog X.w) X.A (eval (.Tuple [.Name x1 p1, .Name x2 p2] kk p3) X.env) Q E s := by
  refine wpAny_Tuple_spliced ?_
  show wpAny _ _ (spliced ((false, eval (.Name x1 p1) X.env) :: backTo p3 (starEach [.Name x2 p2] X.env))) _ _ s
  refine Calls.spliced_cons (ld_name h1 I ?_)
  show wpAny _ _ (spliced ((false, eval (.Name x2 p2) X.env) :: backTo p3 (starEach [] X.env))) _ _ s
  refine Calls.spliced_cons (ld_name h2 I ?_)
  exact Calls.spliced_nil ⟨(by show 2 ≤ sizeLine; decide), q⟩
theorem flying_push {B : Heap} {l : List Env} {e : Addr} {Z : Obj → Prop} {h : Heap} (o : Obj) (f : HandSPX.FlyingZ B l e Z h) : HandSPX.FlyingZ B l e Z (h.push o) := by
  obtain ⟨f1, f2, f3, oe, vs, T, oT, ts, g1, g2, g3, g4, g5, g6, g7, g8, g9⟩ := f
  exact ⟨fun b u z => Heap.get?_push_of_some _ (f1 b u z), f2, Heap.FunFrames.of_keeps (fun b u z _ => ⟨u, Heap.get?_push_of_some _ z, rfl⟩) f3, oe, vs, T, oT, ts, Heap.get?_push_of_some _ g1, g2, g3, g4, g5, g6, Heap.get?_push_of_some _ g7, g8, g9⟩
end
/-- a caught exception that is kept: its class, its dict -/
def exK (cls : Value) (d : Option Addr) (e : Addr) : HO := .ext fun h => ∃ (o : Obj) (vs : Array Value), h.get? e = some o ∧ Zc cls d o ∧ o.data = .fields vs
theorem exK_ok {P : Program} {w : World} {H : Hp} {h : Heap} {e : Addr} {cls : Value} {d : Option Addr} {o : Obj} {vs : Array Value} (g : h.get? e = some o) (z : Zc cls d o) (f : o.data = .fields vs) : ObjOk P w H h e (exK cls d e) :=
  ⟨⟨o, vs, g, z, f⟩, ⟨o, g⟩, fun h1 h2 q same => by
    obtain ⟨o1, v1, g1, z1, f1⟩ := q
    exact ⟨o1, v1, same o1 g1, z1, f1⟩⟩
theorem exK_at {P : Program} {w : World} {H : Hp} {h : Heap} {e : Addr} {cls : Value} {d : Option Addr} (ok : HOk P w H h) (q : H e = some (exK cls d e)) : ∃ (o : Obj) (vs : Array Value), h.get? e = some o ∧ Zc cls d o ∧ o.data = .fields vs := (ok e _ q).1
/-- what the clause wishes, the exception kept in the heap -/
def wKeep2 (K : PySem.W.Frag) (c1 c2 : Value) (i : Nat) (ts : Addr → TS) (Wo : WX) (D : Ends) : WX := fun cls d σ H =>
  ∃ b, PySem.W.exmAny K cls [c1, c2] = some b ∧
    (b = true → ∀ a, H a = none → ts a ⟨fun τ G => D.nx (τ.set i none) G, D.rt, fun τ G => D.bk (τ.set i none) G, fun τ G => D.ct (τ.set i none) G⟩ (σ.set i (some (.ref a))) (upd H a (exK cls d a))) ∧ (b = false → Wo cls d σ H)
section
variable {X : Cx} {pins : List (Addr × Obj)} {σ : L2.St} {H : Hp} {s s' sI : Shared} {B : Heap}
theorem _root_.L2.Inv.bareSuite (I : L2.Inv X pins σ H s) (e : Addr) : L2.Inv (X.suite e (X.pn ++ pins)) [] σ H s :=
  ⟨I.ok.suite _ _, I.os, I.bare, I.base, I.loc, I.cell, I.free, I.freeC, fun p hp => I.pin p (by rw [List.append_nil] at hp; exact hp), I.hok, I.len⟩
theorem _root_.L2.Inv.offSuite {e : Addr} {pn' : List (Addr × Obj)} (I : L2.Inv (X.suite e (X.pn ++ pins)) pn' σ H s) (ok : X.Ok) : L2.Inv X pins σ H s :=
  ⟨ok, I.os, I.bare, I.base, I.loc, I.cell, I.free, I.freeC, fun p hp => I.pin p (List.mem_append_left _ hp), I.hok, I.len⟩
/-- back on the ground, and the exception is of our heap -/
theorem _root_.L2.Inv.keptNew {e : Addr} {o : HO} (I : L2.Inv X pins σ H sI) (nb : ∀ b u, sI.heap.get? b = some u → b ∉ frs X.stack → B.get? b = some u) (st : B.StaysIn s'.heap) (up : sI.heap.UpToSlots s'.heap) (os : s'.os = sI.os) (ag : AllBare s'.gens)
    (new : sI.heap.get? e = none) (ne : H e = none) (k : ObjOk X.prog X.w (upd H e o) s'.heap e o) : L2.Inv X pins σ (upd H e o) s' := by
  have frame : ∀ b ∈ frs X.stack, ∀ u, sI.heap.get? b = some u → ∃ sl, s'.heap.get? b = some { u with slots := sl } := fun b m u g => by
    obtain ⟨_, u', g', plain⟩ := I.stack.mem m
    rw [g] at g'
    cases g'
    exact up b u g plain
  have other : ∀ b u, sI.heap.get? b = some u → b ≠ e := fun b u g z => by rw [z, new] at g; cases g
  have was : HOk X.prog X.w H s'.heap := (I.inGround nb).kept st
  have J := I.call (ch := []) (h' := s'.heap) (g' := s'.gens) (t' := s'.toks) (d' := s'.drawn) (H' := upd H e o)
    ⟨fun b u g _ m _ => st b u (nb b u g m), fun b u g _ m _ => frame b m u g, fun b u g n _ => by rw [upd_ne (other b u g)]; exact n, fun b u g _ => by
      by_cases m : b ∈ frs X.stack
      · exact ⟨_, (frame b m u g).choose_spec⟩
      · exact ⟨u, st b u (nb b u g m)⟩, fun b xs q => by rw [upd_ne (ne_of_none q ne)]; exact q, fun b u xs q => by rw [upd_ne (ne_of_none q ne)]; exact q, fun b ps q => ⟨#[], by rw [upd_ne (ne_of_none q ne), q]; simp⟩⟩
    (was.laidN (fun _ _ q => q) ne k) ag (fun _ z => nomatch z)
  obtain ⟨a1, a2, a3, a4, a5⟩ := s'
  have e5 : a5 = sI.os := os
  subst e5
  exact J
end
section
variable {X : Cx}
variable {x1 x2 n : Str} {c1 c2 : Value} {i kk : Nat} {body suite : List Stmt} {b₀ : Stmt} {p1 p2 p3 pos pos' : Pos} {tb : WX → TS} {ts : Addr → TS} {Wo : WX}
theorem ps_try_keep2 (stk : X.stack = X.env :: X.outer) (fr : X.env.frame = some X.env.locals) (nod : X.N.Nodup) (at_i : X.N[i]? = some n) (lc : X.env.kindOf n = some .local) (nm1 : Names X x1 c1) (nm2 : Names X x2 c2) (out : Takes X Wo)
    (does : ∀ (W : WX) (pn : List (Addr × Obj)) (xe : Value → Shared → Prop), Takes (X.tr pn xe) W → PassesOwn (model X.prog X.w) X.A X.env xe → PSs (X.tr pn xe) body (tb W))
    (then_ : ∀ (e : Addr) (pn : List (Addr × Obj)), PSs (X.suite e pn) (b₀ :: suite) (ts e)) :
    PS X (.Try body [.ExceptHandler (some (.Tuple [.Name x1 p1, .Name x2 p2] kk p3)) (some n) (b₀ :: suite) pos'] [] [] pos) (fun D σ H => tb (wKeep2 X.K c1 c2 i ts Wo D) D σ H) := by
  refine ⟨fun pins s σ H D I rd => ?_⟩
  have okX := I.ok
  have frs0 : X.A.frames = some (X.env :: X.outer) := okX.frames.trans (congrArg some stk)
  refine wpAny_Try_except ?_
  have run := (does (wKeep2 X.K c1 c2 i ts Wo D) (X.pn ++ pins) (fun v z => wpAny (model X.prog X.w) X.A (noteFrame v X.env) (fun _ z2 => wpAny (model X.prog X.w) X.A (setFlight v none) (fun _ z3 =>
    wpAny (model X.prog X.w) X.A (handleBy v X.env [.ExceptHandler (some (.Tuple [.Name x1 p1, .Name x2 p2] kk p3)) (some n) (b₀ :: suite) pos']) (SP X pins D) X.xe z3) X.xe z2) X.xe z)
    (fun u z flown => ?caught) PassesOwn.looking).run [] s σ H D (I.toTry _) rd
  case caught =>
    obtain ⟨e, B, z0, pins', τ, G, cls, d, rfl, J0, nb, up0, sky0, ne, os0, bare0, b, hit, yes, no⟩ := flown
    have J := J0.ofTry okX
    rw [show (X.tr (X.pn ++ pins) _).stack = X.env :: X.outer from stk] at sky0
    refine Sky.land Zc.steady frs0 fr sky0 fun g fl upg => ?_
    have Jg := J.landed (s' := { z with heap := g }) nb fl.1 (up0.trans upg) os0 bare0
    obtain ⟨o3, v3, got3, z3, dat3⟩ := fl.there
    have off : ∀ {h : Heap} {o : Obj} {vs : Array Value}, h.FunFrames B (X.env :: X.outer) → h.get? e = some o → o.data = .fields vs → ¬ e ∈ frs (X.env :: X.outer) := fun {h o vs} ff ge dd m => by
      obtain ⟨_, o', ge', bad⟩ := ff.mem m
      rw [ge] at ge'
      cases ge'
      exact bad vs dd
    have none_of := off fl.2.2.1 got3 dat3
    have n1 : e ≠ X.env.locals := fun z => none_of (List.mem_filterMap.mpr ⟨X.env, List.mem_cons_self, fr.trans (congrArg some z.symm)⟩)
    have n2 : e ∉ X.fs := fun m => by
      obtain ⟨y, my, ey⟩ := List.mem_filterMap.mp m
      exact none_of (List.mem_filterMap.mpr ⟨y, List.mem_cons_of_mem _ my, ey⟩)
    have Sg := Jg.suite got3 dat3 ne n1 n2
    refine wpAny_handleBy_cons (codeAny_handlers_test ?_) (fun q => by cases q)
    refine ld_pair (X := X.suite e ((e, o3) :: (X.pn ++ pins))) nm1 nm2 Sg ?_
    have keeps : ∀ b o, g.get? b = some o → (g.push { cls := .type "tuple", data := .seq [c1, c2].toArray }).get? b = some o := fun b o q => Heap.get?_push_of_some _ q
    have fl' := flying_push { cls := .type "tuple", data := .seq [c1, c2].toArray } fl
    have upg' : z.heap.UpToSlots (g.push { cls := .type "tuple", data := .seq [c1, c2].toArray }) := upg.trans (fun b o q _ => ⟨o.slots, keeps b o q⟩)
    have looks : PySem.W.Looks (model X.prog X.w) (g.push { cls := .type "tuple", data := .seq [c1, c2].toArray }) (typeOf (.ref e)) cls := fun _ _ _ _ k q => wpAny_typeOf_ref (k _ _ (keeps _ _ got3)) (by rw [z3.1]; exact q)
    have hits := PySem.W.exm_tup2 (M := model X.prog X.w) (Jg.kIn.keeps keeps) looks (Heap.get?_push_size _ rfl) hit
    refine hits.here ?_
    generalize g.push { cls := .type "tuple", data := .seq [c1, c2].toArray } = g' at keeps fl' upg' hits ⊢
    cases b with
    | true =>
      refine codeAny_handlers_suite_as ?_
      refine HandSPX.lands_againZ fl' fun g4 fl4 up4 => ?_
      have J4 := J.landed (s' := { z with heap := g4 }) nb fl4.1 ((up0.trans upg').trans up4) os0 bare0
      obtain ⟨o4, v4, got4, z4, dat4⟩ := fl4.there
      have new0 : z0.heap.get? e = none := by
        cases q : z0.heap.get? e with
        | none => rfl
        | some o =>
          have := nb e o q (by rw [show (X.tr (X.pn ++ pins) _).stack = X.env :: X.outer from stk]; exact none_of)
          rw [fl.2.1] at this
          cases this
      have K4 := J.keptNew (s' := { z with heap := g4 }) nb fl4.1 ((up0.trans upg').trans up4) os0 bare0 new0 ne (exK_ok got4 z4 dat4)
      have S4 := K4.bareSuite e
      refine store_ok (X := X.suite e (X.pn ++ pins)) (v := .ref e) S4 nod at_i (.inl lc) rfl (fun z5 S5 => ?_) (.inr lc)
      refine wpAny_mono ((then_ e (X.pn ++ pins)).run [] z5 _ (upd G e (exK cls d e)) _ S5 (yes rfl e ne)) (fun fw z6 fin => ?_) (fun _ _ q => q.elim)
      have over : ∀ {τ6 : L2.St} {G6 : Hp} {Q : Shared → Prop}, L2.Inv (X.suite e (X.pn ++ pins)) [] τ6 G6 z6 → (∀ z7, L2.Inv X pins (τ6.set i none) G6 z7 → Q z7) → wpAny (model X.prog X.w) X.A (do bindName X.env n .none; unbindBehindTheSuite X.env n pos') (fun _ z7 => Q z7) X.xe z6 :=
        fun {τ6 G6 Q} S6 q => gone_ok (S6.offSuite okX) nod at_i lc q
      cases fw with
      | ret u =>
        obtain ⟨v6, τ6, G6, S6, r6, q6⟩ := fin
        exact over S6 fun z7 J7 => ⟨_, _, _, J7, r6, q6⟩
      | _ =>
        obtain ⟨τ6, G6, S6, q6⟩ := fin
        exact over S6 fun z7 J7 => ⟨_, _, J7, q6⟩
    | false =>
      show wpAny _ X.A (handleBy (.ref e) X.env []) _ _ _
      refine wpAny_handleBy_nil ?_
      obtain ⟨_, _, _, o5, v5, T, oT, w5, got5, _, dat5, tr5, _⟩ := id fl'
      unfold PySem.passOn
      refine wpAny_bind (wpAny_field got5 dat5 tr5 ?_)
      rw [if_neg (by simp : ¬ ((Value.ref T == Value.none) = true))]
      have flies : wpAny (model X.prog X.w) X.A (setFlight (.ref e) X.env.frame) (fun _ z4 => wpAny (model X.prog X.w) X.A (throw (.ref e) : Sem Flow) (SP X pins D) X.xe z4) X.xe { z with heap := g' } := by
        rw [fr]
        exact HandSPX.setFlight_upZ fl' fun g4 held up4 => wpAny_throw (out _ _ ⟨e, B, z0, pins, τ, G, cls, d, rfl, J, nb, (up0.trans upg').trans up4, .inr (.inr (by rw [stk]; exact held)), ne, os0, bare0, no rfl⟩)
      first
        | exact wpAny_bind (wpAny_pure (wpAny_bind flies))
        | exact wpAny_bind flies
  refine wpAny_mono run (fun fw z6 fin => ?_) (fun v z6 q => q)
  cases fw with
  | next =>
    obtain ⟨τ, G, J, q⟩ := fin
    exact wpAny_execs_nil ⟨τ, G, J.ofTry okX, q⟩
  | ret u =>
    obtain ⟨v, τ, G, J, r, q⟩ := fin
    exact ⟨v, τ, G, J.ofTry okX, r, q⟩
  | _ =>
    obtain ⟨τ, G, J, q⟩ := fin
    exact ⟨τ, G, J.ofTry okX, q⟩
end
end HSP
set_option maxHeartbeats 2000000
namespace HSP
open PySem PySem.Spec PyProof.Rows L2
/-! ### a kept exception: its fields, its class -/
/-! the class of an exception that has its dict -/
section
open PySem.W PySem.Calls
variable {prog : Program} {w : World} {A : Around} {E : Value → Shared → Prop} {z : Shared} {K : Frag} {x D : Addr} {o : Obj} {od : Option Obj}
theorem found_class (C : ExcC K D) : findObj K D od "__class__" = some (.bind (.builtin "getset_descriptor.__get__") (.builtin "object.__class__")) := by
  obtain ⟨cd, hc, _⟩ := any_some C.hd
  unfold findObj
  rw [hc, Option.bind_some, C.ha, Option.bind_some]
  dsimp only
  rw [C.hn, Option.bind_some]
  dsimp only
  rw [C.ht, Option.bind_some]
theorem asked_class {Q : Option Value → Shared → Prop} (C : ExcC K D) (I : K.In z.heap) (J : InstAt z.heap x o D od) (q : Q (some (.ref D)) { z with toks := z.toks + 1 }) : wpAny (model prog w) A (getAttr? (.ref x) "__class__") Q E z := by
  have found := found_class (od := od) C
  obtain ⟨h, gs, dr, tk, os⟩ := z
  have type := J.type (M := model prog w)
  have by1 := looks_findIn (M := model prog w) I C.hg
  have by2 := looks_findIn (M := model prog w) I C.hk
  have by3 := looks_find (M := model prog w) I J found
  have isExc : Looks (model prog w) h (isInstance (.ref x) (.type "BaseException")) true := type.andThen (looks_subIn I C.hs)
  have no1 : (Value.builtin "BaseException.__getattribute__" == Value.builtin "object.__getattribute__") = false := by decide +kernel
  have no2 : (onTheHeap (Value.ref D) && Value.builtin "BaseException.__getattribute__" == Value.builtin "object.__getattribute__") = false := by rw [no1] <;> rfl
  have no3 : (false && onTheHeap (Value.builtin "BaseException.__getattribute__")) = false := rfl
  unfold getAttr? getAttrBy? getAttrBy
  refine wpAny_bind (wpAny_mkText (wpAny_bind (wpAny_attempt (wpAny_holding (wpAny_bind (type.at (wpAny_bind (by1.at ?_))))))))
  show wpAny _ _ (if (onTheHeap (Value.ref D) && Value.builtin "BaseException.__getattribute__" == Value.builtin "object.__getattribute__") = true then _ else _) _ _ _
  rw [no2, if_neg (fun q => nomatch q)]
  unfold getAttrByItsOwn hookBefore
  refine wpAny_bind ?_
  rw [if_pos (by rfl : onTheHeap (Value.ref D) = true)]
  refine by2.at (wpAny_bind (wpAny_attempt (wpAny_holding ?_)))
  unfold callGetattribute
  rw [no3, if_neg (fun q => nomatch q)]
  unfold boundAndCalled
  rw [PySem.F.excAttr_ValueError.ga.bind (Value.ref x)]
  refine wpAny_bind (wpAny_pure (show wpAny _ _ (call (.builtin "BaseException.__getattribute__") [.ref x, .str "__class__" tk]) _ _ _ from wpAny_call (codeAny_call_builtin PySem.F.excAttr_ValueError.ga.plain PySem.F.entry_bexc_ga ?_)))
  have kind := PySem.F.args_bexc_ga (.ref x) (.str "__class__" tk)
  refine @check_slot (model prog w) _ _ ⟨h, gs, dr, tk + 1, os⟩
    "BaseException.__getattribute__" "BaseException"
    "__getattribute__" (.ref x)
    [.str "__class__" tk] [] _ (by decide +kernel) (by decide +kernel)
    isExc kind ?_
  unfold Builtin.«object.__getattribute__»
  refine wpAny_bind (wpAny_of_eq (a := ((Value.ref x : Value), [Value.str "__class__" tk])) (by first | rfl | (simp only [slotArgs]; rfl)) (wpAny_bind (wpAny_pure (wpAny_bind (type.at (wpAny_bind (by3.at ?_)))))))
  show wpAny _ _ (holding [Value.builtin "object.__class__"] (call (.builtin "getset_descriptor.__get__") [.builtin "object.__class__", .ref x, .ref D]) >>= ret) _ _ _
  refine wpAny_bind (wpAny_holding (wpAny_call (class_get (s := ⟨h, gs, dr, tk + 1, os⟩) (ox := o) (od := od) I J C.hm (wpAny_pure ?_))))
  show wpAny _ _ (handedOut (.ref D)) _ _ _
  rw [handedOut_of (v := Value.ref D) rfl]
  first
    | exact wpAny_pure (wpAny_pure q)
    | exact wpAny_pure q
    | exact wpAny_pure (wpAny_bind (wpAny_pure (wpAny_pure q)))
theorem kitK (C : ExcC K D) : KitX K (.ref x) (.ref D) (fun h => InstAt h x o D od) where
  ty := fun _ _ _ J => J.type
  it := fun _ _ I _ => by
    obtain ⟨cd, is, _⟩ := any_some C.hd
    unfold clsIn at is
    split at is
    case h_2 => cases is
    case h_1 there =>
      intro A0 Q0 E0 s0 k q
      unfold isType loadHead
      exact wpAny_bind (wpAny_loadPart (k _ _ (I _ _ there)) (wpAny_pure q))
  ne := (handS_kitx_exc (x := x) (ox := o) C.hg C.hk C.hs C.hd C.ha C.hn C.ht C.hm).ne
  ca := fun I J q => asked_class C I J q
end
section
variable {X : Cx}
/-- e.f of a kept exception of the class C -/
def tXfK (K : PySem.W.Frag) (f : Str) (te : TE) : TE := fun σ H Q => te σ H fun x G => ∃ (e C dd : Addr) (fs : List (Str × V)) (v : V), x = .ref e ∧ G e = some (exK (.ref C) (some dd) e) ∧ XfC K C ∧ PySem.W.findIn K (.ref C) f = some none ∧ G dd = some (.xd fs) ∧ fs.lookup f = some v ∧ Q v G
theorem pe_xfK {b : Expr} {te : TE} {pos : Pos} {f : Str} (hb : PE X b te) (base : attributeBase b f X.env (eval b X.env) = eval b X.env := by rfl) : PE X (.Attribute b f pos) (tXfK X.K f te) := by
  refine ⟨fun pins s σ H Q I rd => ?_⟩
  refine attr_of base (thn (hb.run pins s σ H _ I rd) fun u z got => ?_)
  obtain ⟨x, G, J, ru, e, C, dd, fs, v, rfl, here, T, free, own, has, q⟩ := got
  cases (show u = Value.ref e from ru)
  obtain ⟨o, vs, go, ⟨cl, di⟩, da⟩ := exK_at J.hok here
  obtain ⟨mA, ns, vals⟩ : ObjOk X.prog X.w G z.heap dd (.xd fs) := J.hok dd _ own
  obtain ⟨od, god, look⟩ := lookIn_ns ns
  obtain ⟨y, ey, ry⟩ := RelO.some_of (v := v) (o := mA f) (has ▸ vals f)
  have inst : PySem.W.InstAt z.heap e o C (some od) := ⟨go, cl, by unfold PySem.W.notCls; rw [da] <;> rfl, by rw [di]; exact god⟩
  exact HandSPX.exc_get J.kIn inst T.ga T.gg T.exC (PySem.W.findObj_own T.hdC free rfl ((look f).trans (congrArg some ey))) (handed_of ry) ⟨v, G, J.tok _, ry, q⟩
/-- isinstance(e, c) of a kept exception of the class D; a dict that it has is in our heap -/
def rIsK (K : PySem.W.Frag) : List V → Hp → VK → Prop := fun xs H Q => ∃ (e D : Addr) (c : V) (cv : Value) (b : Bool), xs = [.ref e, c] ∧ (∃ d, H e = some (exK (.ref D) d e) ∧ ∀ dd, d = some dd → ∃ fs, H dd = some (.xd fs)) ∧ ExcC K D ∧ (∀ u, RelV c u → u = cv) ∧ PySem.W.kitOne K (.ref D) cv = some b ∧ Q (.bl b) H
theorem call_isK : CallR X (.builtin "isinstance") (rIsK X.K) := by
  intro pins s σ H xs us Q I r rd
  obtain ⟨e, D, c, cv, b, rfl, ⟨d, here, own⟩, C, only, says, q⟩ := rd
  obtain ⟨u1, u2, rfl, r1, r2⟩ := vals2 r
  cases (show u1 = Value.ref e from r1)
  cases only _ r2
  obtain ⟨o, vs, go, ⟨cl, di⟩, da⟩ := exK_at I.hok here
  obtain ⟨od, inst⟩ : ∃ od, PySem.W.InstAt s.heap e o D od := by
    cases d with
    | none => exact ⟨none, go, cl, by unfold PySem.W.notCls; rw [da] <;> rfl, by rw [di]; trivial⟩
    | some dd =>
      obtain ⟨fs, has⟩ := own dd rfl
      obtain ⟨mA, ns, _⟩ : ObjOk X.prog X.w H s.heap dd (.xd fs) := I.hok dd _ has
      obtain ⟨od, god, _⟩ := lookIn_ns ns
      exact ⟨some od, go, cl, by unfold PySem.W.notCls; rw [da] <;> rfl, by rw [di]; exact god⟩
  exact PySem.W.kia_one (kitK C) I.kIn inst says (fun z => nomatch z) fun tk => ⟨.bl b, H, I.kept (t' := tk) fun _ _ z => z, rfl, q⟩
end
end HSP
namespace HSP
open PySem PySem.Spec PyProof.Rows L2
/-! ## a def that may raise, called by its name -/
structure DfX (P : Program) (w : World) (K : PySem.W.Frag) (mg : Str → Option Value) (base : Heap) (x : Str) (n : Nat) (ps : List Str) (sp : Sp) : Prop where
  ex : ∃ (f : Addr) (fd : FuncData), mg x = some (.ref f) ∧ PySem.W.keepIn K (.ref f) = true ∧ Binds K fd ps [] ∧ FnOk P w K mg base (L2.CX P w) n f fd ps sp
section
variable {P : Program} {w : World} {K : PySem.W.Frag} {mg : Str → Option Value} {base : Heap}
theorem DfX.mk' {x : Str} {st : Stmt} {N ps : List Str} {k : Nat} {sp : Sp} (a : At K mg x st) (S : FnScope N ps (defScope st)) (len : ∀ vs H Q E, sp vs H Q E → vs.length = ps.length)
    (hb : ∀ (kV doc pm : Value) (an : Option Addr) (cdv ct : Value) (us : List Value), us.length = ps.length → bindArgs (PySem.W.fnOf x x (defArgs st) (defBody st) (defScope st) .none kV doc pm an cdv ct) ⟨us, []⟩ = pure (ps.zip us))
    (body : ∀ (f : Addr) (cdv : Value) (A : Around) (outer : List Env) (s : Shared) (H : Hp) (vs : List V) (Q : VK) (E : XK), Room k (A.deeper (envOfC x (defScope st) s.heap.objs.size f cdv)) → sp vs H Q E →
      ∃ t, PSs (cxOf (L2.CX P w) P w K mg base N x (defScope st) f cdv A outer s H E) (defBody st) t ∧ t { nx := fun _ H' => Q .non H', rt := Q } (start N vs) H) : DfX P w K mg base x (k + 1) ps sp := by
  obtain ⟨f, fd, named, F⟩ := a
  exact ⟨f, fd, named, F.kp, F.binds hb, F.okX S len (body f)⟩
theorem DfX.mono {x : Str} {j k : Nat} {ps : List Str} {sp : Sp} (D : DfX P w K mg base x j ps sp) (h : j ≤ k) : DfX P w K mg base x k ps sp := by
  obtain ⟨f, fd, a, b, c, d⟩ := D.ex
  exact ⟨f, fd, a, b, c, d.mono h⟩
end
section
variable {X : Cx} {k : Nat} {ps : List Str} {sp : Sp} {x : Str} {p pos : Pos} {e : Expr} {es : List Expr} {t : TA} {W : WX}
theorem pe_dfX (D : DfX X.prog X.w X.K X.mg X.base x k ps sp) (hr : Room k X.A) (tk : Takes X W) (ha : PA X (e :: es) t) (hg : Gl X x := by rfl) (hdb : (x == ("__debug__" : Str)) = false := by decide)
    (he : starEach (e :: es) X.env = (false, eval e X.env) :: starEach es X.env := by rfl) (hpl : (backTo pos (starEach es X.env)).any (·.1) = false := by rfl) : PE X (.Call (.Name x p) (e :: es) [] pos) (tCallS sp (WE W) t) := by
  obtain ⟨f, fd, named, kept, binds, F⟩ := D.ex
  exact pe_callS F hr hg named kept binds (fun σ => passAt tk σ) ha hdb he hpl
end
end HSP
namespace HSP
open PySem PySem.Spec PyProof.Rows L2
/-! ### InvalidText(node) -/
def clsBodyT : Stmt → List Stmt
  | .ClassDef (body := b) .. => b
  | _ => []
abbrev s_itInit : Stmt := (clsBodyT (topS 1)).getD 0 (.Pass ⟨0, 0, 0, 0⟩)
abbrev n_itInit : List Str := ["self", "line"]
section
variable {P : Program} {w : World} {K : PySem.W.Frag} {mg : Str → Option Value} {base : Heap}
theorem sc_itInit : FnScope ["self", "line"] ["self", "line"] (defScope s_itInit) := ⟨rfl, rfl, rfl, by decide +kernel, rfl, by decide +kernel, by decide +kernel⟩
def spItInit (K : PySem.W.Frag) : Sp := fun vs H Q _ => ∃ (a C : Addr) (v : V), vs = [.ref a, v] ∧ OexC K C ∧ PySem.W.findIn K (.ref C) "line" = some none ∧ H a = some (exo a C none) ∧ ∀ dx, H dx = none → dx ≠ a → Q .non (upd (upd H dx (exd dx [("line", v)])) a (exo a C (some dx)))
theorem ok_itInit {f : Addr} {fd : FuncData} (hv : mg "ValueError" = none) (vV : PySem.W.findCls K (.type "ValueError") (.type "type") "__init__" = some (.val (.builtin "ValueError.__init__"))) (F : Fun K "__init__" "InvalidText.__init__" s_itInit f fd) : FnOk P w K mg base CX0 1 f fd ["self", "line"] (spItInit K) := by
  refine F.ok sc_itInit (fun vs H Q E h => ?_) (fun cdv A outer s H vs Q E hr h => ?_)
  · obtain ⟨a, C, v, rfl, _⟩ := h
    rfl
  obtain ⟨a, C, v, rfl, T, no, e, q⟩ := h
  refine ⟨_, pss_cons (ps_expr (pe_veinit (by rfl) hv vV (pa_cons (pv 0) (pa_cons pe_str pa_nil)))) (pss_one (ps_ost (pv 0) (pv 1))), ?_⟩
  refine ⟨_, rfl, a, C, _, rfl, (by show 1 ≤ 1000; decide), T, e, ?_⟩
  exact ⟨_, rfl, _, rfl, a, C, rfl, T, no, .inl ⟨e, q⟩⟩
/-- what raising InvalidText asks -/
structure OwnT (K : PySem.W.Frag) (mg : Str → Option Value) (C fI : Addr) (fd : FuncData) : Prop where
  g : mg "InvalidText" = some (.ref C)
  T : OexC K C
  i : PySem.W.findIn K (.ref C) "__init__" = some (some (.ref fI))
  t : PySem.W.typeIn K (.ref fI) = some (.type "function")
  no : PySem.W.findIn K (.ref C) "line" = some none
  F : Fun K "__init__" "InvalidText.__init__" s_itInit fI fd
  b : Binds K fd ["self", "line"] []
  v : mg "ValueError" = none
  vV : PySem.W.findCls K (.type "ValueError") (.type "type") "__init__" = some (.val (.builtin "ValueError.__init__"))
def ET (C : Addr) (E : XK) (H : Hp) (v : V) : Prop := ∀ (H' : Hp) (dd : Addr), Same H H' → H' dd = some (.xd [("line", v)]) → E (.ref C) (some dd) H'
theorem ET.same {C : Addr} {E : XK} {H H1 : Hp} {v : V} (s : Same H H1) (h : ET C E H v) : ET C E H1 v := fun H' dd s' e => h H' dd (s.trans s') e
theorem mk_it {C : Addr} (T : OexC K C) (no : PySem.W.findIn K (.ref C) "line" = some none) {E : XK} {H : Hp} {v : V} (h : ET C E H v) :
    [v].length ≤ 1000 ∧ ∀ a, H a = none → spItInit K (.ref a :: ([v] ++ [])) (upd H a (exo a C none)) (fun x H2 => x = .non ∧ ∃ (d : Addr) (fs : List (Str × V)), H2 a = some (exo a C (some d)) ∧ H2 d = some (exd d fs) ∧ H d = none ∧ E (.ref C) (some d) (upd (del H2 a) d (.xd fs))) (fun _ _ _ => False) := by
  refine ⟨(by show 1 ≤ 1000; decide), fun a na => ⟨a, C, v, rfl, T, no, upd_same, fun dx nd ne => ?_⟩⟩
  rw [upd_ne ne] at nd
  refine ⟨rfl, dx, [("line", v)], upd_same, (upd_ne ne).trans upd_same, nd, h _ dx (fun b o e => ?_) upd_same⟩
  have b1 : b ≠ dx := fun z => by rw [z, nd] at e; cases e
  have b2 : b ≠ a := fun z => by rw [z, na] at e; cases e
  rw [upd_ne b1, del_ne b2, upd_ne b2, upd_ne b1, upd_ne b2]
  exact e
end
end HSP
namespace HSP
open PySem L2 TL
/-! ## joined words -/
/-- a word without blanks -/
def Word (s : Str) : Prop := s.length ≠ 0 ∧ ∀ c, c ∈ tl s → Unicode.isSpace c = false
theorem fold_word : ∀ (l : List Nat) (ws : List Str) (r : Str), (∀ c, c ∈ l → Unicode.isSpace c = false) → l.foldl KWd.step (ws, r) = (ws, r ++ ⟨l.toArray⟩)
  | [], ws, r, _ => by
    show (ws, r) = (ws, r ++ ⟨#[]⟩)
    rw [ext_tl (x := r ++ ⟨#[]⟩) (y := r) (by rw [tl_append]; exact List.append_nil _)]
  | c :: l, ws, r, h => by
    rw [List.foldl_cons]
    have e : KWd.step (ws, r) c = (ws, r ++ ⟨#[c]⟩) := by
      unfold KWd.step
      rw [if_neg (by rw [h c List.mem_cons_self]; decide)]
    rw [e, fold_word l ws _ fun x hx => h x (List.mem_cons_of_mem _ hx)]
    congr 1
    refine ext_tl ?_
    rw [tl_append, tl_append, tl_append, List.append_assoc]
    rfl
def fin2 (st : KWd.St) : List Str := KWd.fin st
theorem fold_join : ∀ (ls : List Str) (ws : List Str), (∀ s, s ∈ ls → Word s) → KWd.fin ((joinL [32] (ls.map tl)).foldl KWd.step (ws, Str.empty)) = ws ++ ls
  | [], ws, _ => by
    show (if Str.empty.length = 0 then ws else ws ++ [Str.empty]) = ws ++ []
    rw [if_pos (show Str.empty.length = 0 from rfl), List.append_nil]
  | [p], ws, h => by
    obtain ⟨h1, h2⟩ := h p (List.mem_singleton.mpr rfl)
    show KWd.fin ((tl p).foldl KWd.step (ws, Str.empty)) = ws ++ [p]
    rw [fold_word _ _ _ h2, mk_tl]
    have e : Str.empty ++ p = p := ext_tl (by rw [tl_append]; rfl)
    rw [e]
    show (if p.length = 0 then ws else ws ++ [p]) = _
    rw [if_neg h1]
  | p :: q :: r, ws, h => by
    obtain ⟨h1, h2⟩ := h p List.mem_cons_self
    show KWd.fin ((tl p ++ ([32] ++ joinL [32] ((q :: r).map tl))).foldl KWd.step (ws, Str.empty)) = _
    rw [List.foldl_append, fold_word _ _ _ h2, mk_tl, List.foldl_append]
    have e : Str.empty ++ p = p := ext_tl (by rw [tl_append]; rfl)
    rw [e]
    have e2 : List.foldl KWd.step (ws, p) [32] = (ws ++ [p], Str.empty) := by
      show KWd.step (ws, p) 32 = _
      unfold KWd.step
      rw [if_pos (by decide +kernel), if_neg h1]
    rw [e2, fold_join (q :: r) (ws ++ [p]) fun s hs => h s (List.mem_cons_of_mem _ hs), List.append_assoc]
    rfl
theorem words_join {ls : List Str} (h : ∀ s, s ∈ ls → Word s) : Txt.words (Txt.join (" " : Str) ls) = ls := by
  rw [KWd.words_scan, join_eq]
  have e : (Str.join (" " : Str) ls).cps.toList = joinL [32] (ls.map tl) := tl_join _ _
  unfold KWd.scan
  rw [e, fold_join ls [] h]
  rfl
/-! ### joined texts of as many parts are equal only if the parts are -/
theorem joinL_count (s : Nat) : ∀ ps : List (List Nat), (joinL [s] ps).count s = (ps.map (·.count s)).sum + (ps.length - 1)
  | [] => rfl
  | [p] => by simp [joinL]
  | p :: q :: r => by
    have ih := joinL_count s (q :: r)
    have e : joinL [s] (p :: q :: r) = p ++ ([s] ++ joinL [s] (q :: r)) := rfl
    rw [e, List.count_append, List.count_append, ih, List.map_cons (l := q :: r), List.sum_cons, List.length_cons (as := q :: r), List.length_cons]
    have : List.count s [s] = 1 := by simp
    rw [this]
    omega
theorem joinL_len (s : Nat) {c : Nat} : ∀ ps : List (List Nat), (∀ p, p ∈ ps → p.length ≤ c) → (joinL [s] ps).length ≤ (c + 1) * ps.length
  | [], _ => Nat.zero_le _
  | [p], h => by
    have := h p (List.mem_singleton.mpr rfl)
    show p.length ≤ (c + 1) * 1
    omega
  | p :: q :: r, h => by
    have ih := joinL_len s (q :: r) fun x hx => h x (List.mem_cons_of_mem _ hx)
    have := h p List.mem_cons_self
    have e : joinL [s] (p :: q :: r) = p ++ ([s] ++ joinL [s] (q :: r)) := rfl
    rw [e, List.length_append, List.length_append, List.length_cons (as := q :: r), Nat.mul_succ]
    show p.length + (1 + _) ≤ _
    omega
theorem join_len {ls : List Str} {c : Nat} (h : ∀ s, s ∈ ls → s.length ≤ c) : (Txt.join (" " : Str) ls).length ≤ (c + 1) * ls.length := by
  rw [join_eq, len_tl, tl_join]
  have e : tl (" " : Str) = [32] := by decide +kernel
  rw [e]
  have := joinL_len 32 (c := c) (ls.map tl) fun p hp => by
    obtain ⟨s, hs, rfl⟩ := List.mem_map.mp hp
    rw [← len_tl]
    exact h s hs
  rw [List.length_map] at this
  exact this
theorem sum_zero : ∀ {l : List Nat}, l.sum = 0 → ∀ x, x ∈ l → x = 0
  | a :: r, h, x, hx => by
    rw [List.sum_cons] at h
    rcases List.mem_cons.mp hx with e | e
    · omega
    · exact sum_zero (by omega) x e
theorem join_inj {as bs : List Str} (l : as.length = bs.length) (hb : ∀ s, s ∈ bs → 32 ∉ tl s) (h : Txt.join (" " : Str) as = Txt.join (" " : Str) bs) : as = bs := by
  have h1 : joinL [32] (as.map tl) = joinL [32] (bs.map tl) := by
    have e := congrArg tl h
    rw [join_eq, join_eq, tl_join, tl_join] at e
    exact e
  have c1 := joinL_count 32 (as.map tl)
  have c2 := joinL_count 32 (bs.map tl)
  rw [h1, c2, List.length_map, List.length_map, l] at c1
  have z : ((bs.map tl).map (·.count 32)).sum = 0 := by
    have : ∀ l : List Str, (∀ s, s ∈ l → 32 ∉ tl s) → ((l.map tl).map (·.count 32)).sum = 0 := fun l => by
      induction l with
      | nil => exact fun _ => rfl
      | cons a r ih =>
        intro hl
        rw [List.map_cons, List.map_cons, List.sum_cons, ih fun s hs => hl s (List.mem_cons_of_mem _ hs), List.count_eq_zero.mpr (hl a List.mem_cons_self)]
    exact this bs hb
  have za := sum_zero (l := (as.map tl).map (·.count 32)) (by omega)
  have ha : ∀ s, s ∈ as → 32 ∉ tl s := fun s hs => List.count_eq_zero.mp (za _ (List.mem_map.mpr ⟨tl s, List.mem_map.mpr ⟨s, hs, rfl⟩, rfl⟩))
  by_cases c : bs = []
  · rw [c] at l
    rw [c, List.length_eq_zero_iff.mp l]
  · have ey : tl (" " : Str) = 32 :: [] := by decide +kernel
    have hk : (" " : Str).cps.all (· < 256) = true := by decide +kernel
    rw [← split_join ey hk (parts := as) (fun e => c (by rw [e] at l; exact List.length_eq_zero_iff.mp l.symm)) ha, h, split_join ey hk c hb]
end HSP
namespace HSP
open PySem L2 TL
/-! ## numbers in texts -/
def restL : List Nat → List Nat
  | 45 :: r => r
  | l => l
def digB (c : Nat) : Bool := decide (48 ≤ c) && decide (c ≤ 57)
def numT (l : List Nat) : Bool := !(restL l).isEmpty && (restL l).all digB && (decide (l = [48]) || !decide ((restL l).head? = some 48))
theorem one_len (c : Nat) : (⟨#[c]⟩ : Str).length = 1 := rfl
theorem sub_zero {x : Str} (c : Nat) : Builtin.Str.subAt x ⟨#[c]⟩ 0 = decide ((tl x).head? = some c) := by
  rw [StrLaws.subAt_eq, one_len]
  show (((tl x).drop 0).take 1 == [c]) = _
  rw [List.drop_zero]
  cases tl x with
  | nil => rfl
  | cons d r =>
    show ([d] == [c]) = decide (some d = some c)
    by_cases h : d = c
    · subst h; simp
    · rw [decide_eq_false (fun z => h (Option.some.inj z))]
      simp [h]
theorem pre_signs (x : Str) : tl (Txt.removeprefix x ("-" : Str)) = restL (tl x) := by
  have e : ("-" : Str) = ⟨#[45]⟩ := by decide +kernel
  unfold Txt.removeprefix
  rw [e, sub_zero]
  by_cases h : (tl x).head? = some 45
  · rw [decide_eq_true h, if_pos rfl]
    show tl (if x.length - 1 == x.length then x else Builtin.Str.strSub x 1 x.length) = _
    have hl : 0 < x.length := by
      rw [len_tl]
      cases hx : tl x with
      | nil => rw [hx] at h; cases h
      | cons d r => exact Nat.succ_pos _
    rw [if_neg (by rw [beq_iff_eq]; omega), tl_strSub]
    cases hx : tl x with
    | nil => rw [hx] at h; cases h
    | cons d r =>
      rw [hx] at h
      cases h
      rw [len_tl, hx]
      show List.take (r.length + 1 - 1) r = r
      exact List.take_of_length_le (by omega)
  · rw [decide_eq_false h, if_neg (by decide)]
    show tl x = restL (tl x)
    unfold restL
    split
    · rename_i r e
      rw [e] at h
      exact absurd rfl h
    · rfl
theorem starts_zero (x : Str) : Txt.startswith x ("0" : Str) = decide ((tl x).head? = some 48) := by
  have e : ("0" : Str) = ⟨#[48]⟩ := by decide +kernel
  unfold Txt.startswith
  rw [e, sub_zero, one_len, len_tl]
  cases tl x with
  | nil => rfl
  | cons d r =>
    rw [decide_eq_true (show 0 + 1 ≤ (d :: r).length by rw [List.length_cons]; omega), Bool.true_and]
theorem cut_tl (x : Str) (lo hi : Option Int) : tl (cutS x lo hi) = ((tl x).drop (HT.sIx x.length 0 lo)).take (HT.sIx x.length x.length hi - HT.sIx x.length 0 lo) := rfl
theorem cut_rest (x : Str) : tl (cutS x (some 1) none) = (tl x).drop 1 := by
  rw [cut_tl, HT.sIx_none, show (1 : Int) = ((1 : Nat) : Int) from rfl, HT.sIx_nat, len_tl]
  cases tl x with
  | nil => rfl
  | cons d r =>
    have e : min 1 (d :: r).length = 1 := by rw [List.length_cons]; omega
    rw [e]
    exact List.take_of_length_le (by rw [List.length_drop]; exact Nat.le_refl _)
theorem cut_first (x : Str) : tl (cutS x none (some 1)) = (tl x).take 1 := by
  rw [cut_tl, HT.sIx_none, show (1 : Int) = ((1 : Nat) : Int) from rfl, HT.sIx_nat, len_tl]
  cases tl x with
  | nil => rfl
  | cons d r =>
    have e : min 1 (d :: r).length = 1 := by rw [List.length_cons]; omega
    rw [e]
    rfl
theorem restL_len (l : List Nat) : (restL l).length ≤ l.length := by
  unfold restL
  split
  · exact Nat.le_succ _
  · exact Nat.le_refl _
theorem num_val {x : Str} (h : numT (tl x) = true) (l : x.length ≤ 640) : ∃ n, intText? x = some n ∧ n.natAbs < 10 ^ x.length := by
  unfold numT at h
  rw [Bool.and_eq_true, Bool.and_eq_true] at h
  obtain ⟨⟨h1, h2⟩, _⟩ := h
  have h1 : restL (tl x) ≠ [] := fun z => by rw [z] at h1; cases h1
  have ad : NumText.AllDigits (restL (tl x)) := fun c hc => by
    have := List.all_eq_true.mp h2 c hc
    unfold digB at this
    rw [Bool.and_eq_true, decide_eq_true_iff, decide_eq_true_iff] at this
    exact this
  have bound : ∀ (cs : List Nat) (a : Nat), NumText.AllDigits cs → cs.foldl (fun acc c => acc * 10 + (c - 48)) a < (a + 1) * 10 ^ cs.length := fun cs => by
    induction cs with
    | nil => intro a _; show a < (a + 1) * 1; omega
    | cons c r ih =>
      intro a hd
      have h1 := ih (a * 10 + (c - 48)) hd.tail
      have h2 := hd.head
      rw [List.foldl_cons, List.length_cons, Nat.pow_succ]
      refine Nat.lt_of_lt_of_le h1 ?_
      rw [Nat.mul_comm (10 ^ r.length) 10, ← Nat.mul_assoc]
      exact Nat.mul_le_mul_right _ (by omega)
  have b2 : NumText.digitsVal (restL (tl x)) < 10 ^ x.length := by
    have h3 := bound (restL (tl x)) 0 ad
    rw [Nat.zero_add, Nat.one_mul] at h3
    refine Nat.lt_of_lt_of_le h3 (Nat.pow_le_pow_right (by decide) ?_)
    rw [len_tl]
    exact restL_len _
  by_cases c : ∃ r, tl x = 45 :: r
  · obtain ⟨r, e⟩ := c
    have er : restL (tl x) = r := by rw [e]; rfl
    rw [er] at ad h1 b2
    exact ⟨_, intText_neg e ad h1 (by omega), by rw [Int.natAbs_neg]; exact b2⟩
  · have er : restL (tl x) = tl x := by
      unfold restL
      split
      · rename_i r e
        exact absurd ⟨r, e⟩ c
      · rfl
    rw [er] at ad h1 b2
    exact ⟨_, intText_digits ad h1 (by omega), b2⟩
/-! ## parts of a text -/
theorem join_weight (y : Str) : ∀ l : List Str, (l.map (·.length)).sum + (l.length - 1) * y.length ≤ (Str.join y l).length
  | [] => by simp
  | [a] => by
    show a.length + 0 + 0 * y.length ≤ a.length
    omega
  | a :: b :: r => by
    have ih := join_weight y (b :: r)
    have e : (Str.join y (a :: b :: r)).length = a.length + y.length + (Str.join y (b :: r)).length := by
      show (a ++ y ++ Str.join y (b :: r)).length = _
      rw [len_tl, tl_append, tl_append, List.length_append, List.length_append, ← len_tl, ← len_tl, ← len_tl]
    rw [e, List.map_cons, List.sum_cons]
    have h1 : (a :: b :: r).length - 1 = (b :: r).length - 1 + 1 := by simp
    rw [h1, Nat.succ_mul]
    omega
theorem split_part {x y s : Str} (h : s ∈ Txt.split x y) : s.length ≤ x.length := by
  have h1 := join_weight y (Txt.split x y)
  rw [StrLaws.join_split] at h1
  have h2 : ∀ l : List Nat, ∀ a, a ∈ l → a ≤ l.sum := fun l => by
    induction l with
    | nil => exact fun a h => nomatch h
    | cons b r ih =>
      intro a ha
      rw [List.sum_cons]
      rcases List.mem_cons.mp ha with e | e
      · omega
      · have := ih a e; omega
  have := h2 ((Txt.split x y).map (·.length)) s.length (List.mem_map.mpr ⟨s, h, rfl⟩)
  omega
theorem split_few {x y : Str} (hy : 1 ≤ y.length) : (Txt.split x y).length ≤ x.length + 1 := by
  have h1 := join_weight y (Txt.split x y)
  rw [StrLaws.join_split] at h1
  have : (Txt.split x y).length - 1 ≤ ((Txt.split x y).length - 1) * y.length := Nat.le_mul_of_pos_right _ hy
  omega
end HSP
namespace HSP
open PySem PySem.Spec PyProof.Rows L2
/-! ## sum(rows, start): lists put behind one another -/
/-- a list object with these items -/
def LO (its : List Value) (n : Nat) : Obj := { cls := .type "list", data := .seq its.toArray n }
section
variable {prog : Program} {w : World} {A : Around}
theorem sumL_loop {I S : Addr} {fp wr : List Addr} {n : Nat} {Pv : Nat → Value → Prop} {St : Nat → Heap → Prop} (W : Walks prog w A.in1 I fp wr n Pv St) (hS : S ∉ fp) (row : Nat → Addr) (part : Nat → List Value) (hv : ∀ i v, Pv i v → v = .ref (row i)) (R : Result → Shared → Prop)
    (most : Nat) (hmost : most ≤ sizeLine) (hfp : ∀ i h, St i h → ∀ b ∈ fp, b < h.objs.size) :
    ∀ (k i : Nat) (s : Shared) (T : Addr) (acc : List Value) (c cT : Nat), n - i = k → i ≤ n → St i s.heap → s.heap.get? S = some (LO [.ref T] c) → s.heap.get? T = some (LO acc cT) → T ≠ S → T ∉ wr →
      (∀ j, j < n → row j ≠ S ∧ row j ∉ wr ∧ ∃ m, s.heap.get? (row j) = some (LO (part j) m)) → acc.length + (((List.range n).drop i).map fun j => (part j).length).sum ≤ most →
      (∀ (s' : Shared) (T' : Addr) (c' : Nat), (∀ b o, b ∉ wr → b ≠ S → s.heap.get? b = some o → s'.heap.get? b = some o) → s'.gens = s.gens → s'.drawn = s.drawn → s'.os = s.os →
        s'.heap.get? T' = some (LO (acc ++ (((List.range n).drop i).map part).flatten) c') → T' ≠ S → T' ∉ wr → (i = n ∧ T' = T ∨ s.heap.get? T' = none) → R (.ok (.ret (.ref T'))) s') →
      codeAny (model prog w) A (.builtin "sum.loop" ⟨[.ref I, .ref S, rawInt 2, rawInt 0], []⟩) R s := by
  have hSw : S ∉ wr := fun h => hS (W.sub _ h)
  intro k
  induction k with
  | zero =>
    intro i s T acc c cT hk hi hst eS eT nTS nTw rows hz hR
    obtain rfl : i = n := by omega
    refine codeAny_builtin F.entry_sum_loop ?_
    rw [Around.under_plainId F.plain_sum_loop _]
    show wpAny _ A.in1 (seqItems? (.ref S) >>= _) _ _ s
    refine wpAny_bind (wpAny_seqItems eS rfl (wpAny_bind (wpAny_tryCatch (W.done s _ _ hst fun h' tk kp => ?_))))
    have e0 : ((List.range i).drop i) = [] := List.drop_eq_nil_of_le (by rw [List.length_range]; exact Nat.le_refl _)
    refine wpAny_pure (hR { s with heap := h', toks := tk } T cT (fun b o n1 _ e => kp b o n1 e) rfl rfl rfl ?_ nTS nTw (.inl ⟨rfl, rfl⟩))
    rw [e0, List.map_nil, List.flatten_nil, List.append_nil]
    exact kp T _ nTw eT
  | succ k ih =>
    intro i s T acc c cT hk hi hst eS eT nTS nTw rows hz hR
    have hlt : i < n := by omega
    have ed : (List.range n).drop i = i :: (List.range n).drop (i + 1) := by
      have q := List.drop_eq_getElem_cons (l := List.range n) (i := i) (by rw [List.length_range]; exact hlt)
      rw [List.getElem_range] at q
      exact q
    rw [ed, List.map_cons, List.sum_cons] at hz
    refine codeAny_builtin F.entry_sum_loop ?_
    rw [Around.under_plainId F.plain_sum_loop _]
    show wpAny _ A.in1 (seqItems? (.ref S) >>= _) _ _ s
    refine wpAny_bind (wpAny_seqItems eS rfl (wpAny_bind (wpAny_tryCatch (W.item i s _ _ hlt hst fun v h1 tk hp hst1 kp => ?_))))
    obtain rfl := hv i v hp
    obtain ⟨nrS, nrw, m, er⟩ := rows i hlt
    have eS1 := kp S _ hSw eS
    have eT1 := kp T _ nTw eT
    have er1 := kp (row i) _ nrw er
    show wpAny _ A.in1 ((holding [Value.ref (row i)] (binaryOp .Add (.ref T) (.ref (row i)))).attempt >>= _) _ _ _
    refine wpAny_bind (wpAny_attempt (wpAny_holding (PySem.P.add_list eT1 er1 ?_ (by rw [List.size_toArray, List.size_toArray]; omega))))
    dsimp only
    have z1 : h1.objs.size ≠ S := fun z => by
      have q : S < h1.objs.size := Heap.lt_size eS1
      rw [z] at q
      exact Nat.lt_irrefl _ q
    have eS2 := Heap.get?_push_of_some ({ cls := .type "list", data := .seq (acc.toArray ++ (part i).toArray) } : Obj) eS1
    refine wpAny_bind (wpAny_updateSeq eS2 rfl ?_)
    have eS3 := Heap.get?_update_self (Obj.mapSeq fun _ => #[Value.ref h1.objs.size]) eS2 rfl
    refine wpAny_bind (wpAny_letGo (wpAny_bind (wpAny_updateSeq eS3 rfl ?_)))
    have eS4 := Heap.get?_update_self (Obj.mapSeq fun _ => #[Value.ref h1.objs.size]) eS3 rfl
    have kk : ∀ b o, b ≠ S → h1.get? b = some o → (((h1.push ({ cls := .type "list", data := .seq (acc.toArray ++ (part i).toArray) } : Obj)).update S (Obj.mapSeq fun _ => #[Value.ref h1.objs.size])).update S (Obj.mapSeq fun _ => #[Value.ref h1.objs.size])).get? b = some o := fun b o nb e =>
      (Heap.get?_update_other _ _ (Ne.symm nb)).trans ((Heap.get?_update_other _ _ (Ne.symm nb)).trans (Heap.get?_push_of_some _ e))
    have eN : (((h1.push ({ cls := .type "list", data := .seq (acc.toArray ++ (part i).toArray) } : Obj)).update S (Obj.mapSeq fun _ => #[Value.ref h1.objs.size])).update S (Obj.mapSeq fun _ => #[Value.ref h1.objs.size])).get? h1.objs.size = some (LO (acc ++ part i) 0) := by
      rw [Heap.get?_update_other _ _ (Ne.symm z1), Heap.get?_update_other _ _ (Ne.symm z1), Heap.get?_push_size _ rfl]
      unfold LO
      rw [List.append_toArray]
    refine wpAny_pure ⟨plainId_quiet F.plain_sum_loop _, ih (i + 1) _ h1.objs.size (acc ++ part i) _ 0 (by omega) hlt (W.frame _ _ _ hst1 fun b hb o e => kk b o (fun z => hS (z ▸ hb)) e) eS4 eN z1 (fun z => Nat.lt_irrefl _ (hfp _ _ hst1 _ (W.sub _ z))) (fun j hj => ?_) ?_ fun s' T' c' kp' g' d' o' e' m1 m2 m3 => ?_⟩
    · obtain ⟨n1, n2, m', e1⟩ := rows j hj
      exact ⟨n1, n2, m', kk _ _ n1 (kp _ _ n2 e1)⟩
    · rw [List.length_append]
      omega
    · refine hR s' T' c' (fun b o n1 n2 e => kp' b o n1 n2 (kk b o n2 (kp b o n1 e))) g' d' o' ?_ m1 m2 (.inr ?_)
      · rw [e', ed, List.map_cons, List.flatten_cons, List.append_assoc]
      · cases eo : s.heap.get? T' with
        | none => rfl
        | some o =>
          have e1 := kp T' o m2 eo
          rcases m3 with ⟨_, z⟩ | z
          · rw [z] at e1
            exact absurd (Heap.lt_size e1) (Nat.lt_irrefl _)
          · rw [kk T' o m1 e1] at z
            cases z
end
section
variable {prog : Program} {w : World} {A : Around} {E : Value → Shared → Prop} {s : Shared}
theorem args_sum2 (a b : Value) : argsOk "sum" ⟨[a, b], []⟩ := by
  unfold argsOk
  kernel_rfl
theorem sumL_call {l s0 : Addr} {rows : List Addr} {lits : List Value} {nl n0 : Nat} {parts : Nat → List Value} {acc : List Value} {Q : Value → Shared → Prop} (hh : A.handled = none)
    (el : s.heap.get? l = some (LO lits nl)) (hl : lits = rows.map Value.ref) (e0 : s.heap.get? s0 = some (LO acc n0)) (hr : ∀ j (h : j < rows.length), ∃ m, s.heap.get? rows[j] = some (LO (parts j) m))
    (hz : acc.length + ((List.range rows.length).map fun j => (parts j).length).sum ≤ sizeLine)
    (h : ∀ (s' : Shared) (T : Addr) (c : Nat), (∀ b o, s.heap.get? b = some o → s'.heap.get? b = some o) → s'.gens = s.gens → s'.os = s.os → s'.heap.get? T = some (LO (acc ++ ((List.range rows.length).map parts).flatten) c) → (rows = [] ∧ T = s0 ∨ s.heap.get? T = none) → Q (.ref T) s') :
    wpAny (model prog w) A (call (.builtin "sum") [.ref l, .ref s0]) Q E s := by
  have hlen : lits.toArray.size = rows.length := by rw [hl, List.size_toArray, List.length_map]
  refine call_function_tree F.kind_sum F.plain_sum F.entry_sum (args_sum2 _ _) ?_
  unfold Builtin.«sum»
  simp only [List.length_cons, List.length_nil]
  rw [if_neg (by decide)]
  refine wpAny_bind (wpAny_of_eq (show Builtin.Builtins.bindParams "sum" ["start"] 0 ⟨[.ref s0], []⟩ = pure [some (.ref s0)] from rfl) ?_)
  have hL : s.heap.IsList l lits.toArray := ⟨_, el, rfl, nl, rfl⟩
  refine wpAny_bind (wpAny_pyIter_list hL ?_)
  have lt1 : l < s.heap.objs.size := Heap.lt_size el
  have lt0 : s0 < s.heap.objs.size := Heap.lt_size e0
  have e1 := Heap.get?_push_of_some ({ cls := .type "list_iterator", data := .fields #[.ref l, .int 0 0] } : Obj) e0
  have tL : Shared.TypeIs { s with heap := s.heap.push { cls := .type "list_iterator", data := .fields #[.ref l, .int 0 0] } } (.ref s0) "list" := ⟨_, e1, rfl⟩
  refine wpAny_bind (wpAny_pure ?_)
  simp only [List.forIn_cons, List.forIn_nil]
  refine wpAny_bind (wpAny_bind (wpAny_bind (wpAny_isInstance (T := "list") (b := false) tL PySem.F.sub_list_str ?_)))
  simp only [Bool.false_eq_true, if_false]
  refine wpAny_pure (wpAny_bind (wpAny_bind (wpAny_isInstance (T := "list") (b := false) tL PySem.F.sub_list_bytes ?_)))
  simp only [Bool.false_eq_true, if_false]
  refine wpAny_pure (wpAny_bind (wpAny_bind (wpAny_isInstance (T := "list") (b := false) tL PySem.F.sub_list_bytearray ?_)))
  simp only [Bool.false_eq_true, if_false]
  refine wpAny_pure (wpAny_pure (wpAny_bind (wpAny_newObj_type ?_)))
  have sz1 : (s.heap.push ({ cls := .type "list_iterator", data := .fields #[.ref l, .int 0 0] } : Obj)).objs.size = s.heap.objs.size + 1 := Heap.size_push ..
  have nlI : l ≠ s.heap.objs.size := Nat.ne_of_lt lt1
  have kp : ∀ b o, s.heap.get? b = some o → ((s.heap.push ({ cls := .type "list_iterator", data := .fields #[.ref l, .int 0 0] } : Obj)).push (LO [.ref s0] 0)).get? b = some o := fun b o e => Heap.get?_push_of_some _ (Heap.get?_push_of_some _ e)
  refine wpAny_pure ⟨plainId_quiet F.plain_sum_loop _, sumL_loop (Walks.list (A := A.in1) (by simp [hh]) s.heap.objs.size l nlI lits.toArray) (S := (s.heap.push ({ cls := .type "list_iterator", data := .fields #[.ref l, .int 0 0] } : Obj)).objs.size) ?_ (fun j => rows.getD j 0) parts ?_ _ sizeLine (Nat.le_refl _) ?_
    (rows.length - 0) 0 _ s0 acc 0 n0 (by rw [hlen]) (Nat.zero_le _) ⟨⟨_, Heap.get?_push_of_some _ (Heap.get?_push_size _ rfl), rfl, rfl⟩, (hL.push _).push _⟩ ?_ (kp _ _ e0) (by rw [sz1]; exact Nat.ne_of_lt (Nat.lt_succ_of_lt lt0)) ?_ ?_ ?_ ?_⟩
  · rw [sz1]
    intro z
    rcases List.mem_cons.mp z with z | z
    · exact absurd z (Nat.ne_of_gt (Nat.lt_succ_self _))
    · exact absurd (List.mem_singleton.mp z) (Nat.ne_of_gt (Nat.lt_succ_of_lt lt1))
  · intro i v hv
    rw [List.getElem?_toArray, hl, List.getElem?_map] at hv
    cases hr2 : rows[i]? with
    | none => rw [hr2] at hv; cases hv
    | some b =>
      rw [hr2] at hv
      cases hv
      rw [List.getD_eq_getElem?_getD, hr2]
      rfl
  · intro i h st b hb
    rcases List.mem_cons.mp hb with z | z
    · obtain ⟨⟨o, ho, _⟩, _⟩ := st
      rw [z]
      exact Heap.lt_size ho
    · obtain ⟨_, ⟨o, ho, _⟩⟩ := st
      rw [List.mem_singleton.mp z]
      exact Heap.lt_size ho
  · exact Heap.get?_push_size _ rfl
  · intro z
    exact absurd (List.mem_singleton.mp z) (Nat.ne_of_lt lt0)
  · intro j hj
    rw [hlen] at hj
    obtain ⟨m, e⟩ := hr j hj
    have eg : rows.getD j 0 = rows[j] := by
      rw [List.getD_eq_getElem?_getD, List.getElem?_eq_getElem hj]
      rfl
    have lt2 : rows[j] < s.heap.objs.size := Heap.lt_size e
    refine ⟨?_, ?_, m, ?_⟩
    · rw [eg, sz1]; exact Nat.ne_of_lt (Nat.lt_succ_of_lt lt2)
    · rw [eg]; exact fun z => absurd (List.mem_singleton.mp z) (Nat.ne_of_lt lt2)
    · rw [eg]; exact kp _ _ e
  · rw [hlen, List.drop_zero]
    exact hz
  · intro s' T' c' k1 g1 d1 o1 e' m1 m2 m3
    rw [hlen, List.drop_zero] at e'
    refine h s' T' c' (fun b o e => ?_) g1 o1 e' (m3.imp (fun z => ⟨List.eq_nil_of_length_eq_zero (by rw [← hlen]; exact z.1.symm), z.2⟩) fun z => ?_)
    rotate_left
    · cases eo : s.heap.get? T' with
      | none => rfl
      | some o =>
        cases (kp _ _ eo).symm.trans z
    have lt3 : b < s.heap.objs.size := Heap.lt_size e
    exact k1 b o (fun z => absurd (List.mem_singleton.mp z) (Nat.ne_of_lt lt3)) (by rw [sz1]; exact Nat.ne_of_lt (Nat.lt_succ_of_lt lt3)) (kp _ _ e)
end
section
variable {X : Cx}
/-- sum(a list of lists of ints, a list of ints) -/
def rSumL (K : PySem.W.Frag) : List V → Hp → VK → Prop := fun vs H Q => ∃ (a b : Addr) (rows : List Addr) (parts : List (List Int)) (ms : List Int), vs = [V.ref a, V.ref b] ∧ H a = some (.lst (rows.map V.ref)) ∧ H b = some (.lst (ms.map V.int)) ∧
  Paired (fun r ns => H r = some (.lst (ns.map V.int))) rows parts ∧ ms.length + parts.flatten.length ≤ sizeLine ∧ ∀ (H' : Hp) (p : Addr), Same H H' → H' p = some (.lst ((ms ++ parts.flatten).map V.int)) → Q (.ref p) H'
theorem refs_of : ∀ {rows : List Addr} {its : List Value}, Vals (rows.map V.ref) its → its = rows.map Value.ref
  | [], _, .nil => rfl
  | a :: r, _, .cons q t => by rw [List.map_cons, ← refs_of t, (show _ = Value.ref a from q)]
theorem Paired.at' {α β : Type} {R : α → β → Prop} : ∀ {l : List α} {m : List β}, Paired R l m → ∀ j (h : j < l.length) (h' : j < m.length), R l[j] m[j]
  | _, _, .cons q _, 0, _, _ => q
  | _, _, .cons _ t, j + 1, h, h' => Paired.at' t j (Nat.lt_of_succ_lt_succ h) (Nat.lt_of_succ_lt_succ h')
theorem range_map {α β : Type} (f : α → β) (d : α) : ∀ l : List α, (List.range l.length).map (fun j => f (l.getD j d)) = l.map f := by
  intro l
  apply List.ext_getElem
  · rw [List.length_map, List.length_map, List.length_range]
  · intro i h1 h2
    rw [List.length_map] at h2
    rw [List.getElem_map, List.getElem_map, List.getElem_range, List.getD_eq_getElem?_getD, List.getElem?_eq_getElem h2]
    rfl
theorem rows_of {P : Program} {w : World} {H : Hp} {h : Heap} (ok : HOk P w H h) : ∀ {rows : List Addr} {parts : List (List Int)}, Paired (fun r ns => H r = some (.lst (ns.map V.int))) rows parts →
    ∃ pits : List (List Value), pits.length = rows.length ∧ (∀ j (hj : j < rows.length), ∃ m, h.get? rows[j] = some (LO (pits.getD j []) m)) ∧ Vals (parts.flatten.map V.int) pits.flatten ∧ (pits.map List.length).sum = parts.flatten.length
  | [], [], .nil => ⟨[], rfl, fun j hj => absurd hj (Nat.not_lt_zero j), .nil, rfl⟩
  | r :: rows, ns :: parts, .cons e t => by
    obtain ⟨pits, h1, h2, h3, h4⟩ := rows_of ok t
    obtain ⟨z, its, n, v, g⟩ : ObjOk P w H h r (.lst (ns.map V.int)) := ok r _ e
    refine ⟨its :: pits, by rw [List.length_cons, h1, List.length_cons], fun j hj => ?_, ?_, ?_⟩
    · cases j with
      | zero => exact ⟨n, g⟩
      | succ j => exact h2 j (Nat.lt_of_succ_lt_succ hj)
    · rw [List.flatten_cons, List.map_append, List.flatten_cons]
      exact v.append h3
    · rw [List.map_cons, List.sum_cons, h4, List.flatten_cons, List.length_append, ← v.length, List.length_map]
theorem cr_sumL (hc : X.calm = true) : CallR X (.builtin "sum") (rSumL X.K) := by
  intro pins s σ H vs us Q I r h
  obtain ⟨a, b, rows, parts, ms, rfl, ha, hb, hp, hz, q⟩ := h
  cases r with
  | cons r1 t1 =>
    cases t1 with
    | cons r2 t2 =>
      cases t2
      cases r1
      cases r2
      obtain ⟨za, its, n, va, ea⟩ : ObjOk X.prog X.w H s.heap a (.lst (rows.map V.ref)) := I.hok a _ ha
      obtain ⟨zb, it0, n0, vb, eb⟩ : ObjOk X.prog X.w H s.heap b (.lst (ms.map V.int)) := I.hok b _ hb
      obtain ⟨pits, hl2, hg2, hv2, hn2⟩ := rows_of I.hok hp
      have e1 : (List.range rows.length).map (fun j => pits.getD j []) = pits := by
        have q := range_map (fun x : List Value => x) [] pits
        rw [List.map_id', hl2] at q
        exact q
      have e2 : ((List.range rows.length).map fun j => (pits.getD j []).length).sum = parts.flatten.length := by
        have q := range_map (fun x : List Value => x.length) [] pits
        rw [hl2] at q
        rw [q, hn2]
      refine sumL_call (I.ok.hd hc) (lits := its) (acc := it0) (parts := fun j => pits.getD j []) ea (refs_of va) eb hg2 (by rw [e2, ← vb.length, List.length_map]; exact hz) fun s' T c kp hg ho hT hw => ?_
      rw [e1] at hT
      have hvals : Vals ((ms ++ parts.flatten).map V.int) (it0 ++ pits.flatten) := by
        rw [List.map_append]
        exact vb.append hv2
      rcases hw with ⟨z1, z2⟩ | hnew
      · subst z1
        cases hp
        refine ⟨.ref T, H, I.call' (ch := []) ho (Un.kept kp) (I.hok.kept kp) (by rw [hg]; exact I.bare) (fun _ z => nomatch z), rfl, q H T (Same.refl H) ?_⟩
        rw [z2, hb, List.flatten_nil, List.append_nil]
      · have hn : H T = none := by
          cases eo : H T with
          | none => rfl
          | some o =>
            obtain ⟨u, hu⟩ := objOk_get (I.hok T o eo)
            rw [hnew] at hu
            cases hu
        refine ⟨.ref T, upd H T (.lst ((ms ++ parts.flatten).map V.int)), I.call' (ch := []) ho (Un.laidN kp hnew hn) (I.hok.laidN kp hn ⟨?_, _, c, hvals, hT⟩) (by rw [hg]; exact I.bare) (fun _ z => nomatch z), rfl, q _ T (Same.new hn) upd_same⟩
        rw [List.length_map, List.length_append]
        exact hz
end
end HSP
namespace HSP
open PySem PySem.Spec PyProof.Rows L2
theorem cut_last (xs : List V) (y : V) : cutV (xs ++ [y]) none (some (-1)) = xs := by
  unfold cutV
  have e : HT.sIx (xs ++ [y]).length (xs ++ [y]).length (some (-1)) = xs.length := by
    show (if (-1 : Int) < 0 then ((-1 : Int) + ((xs ++ [y]).length : Int)).toNat else min (-1 : Int).toNat (xs ++ [y]).length) = xs.length
    rw [if_pos (by decide), List.length_append, List.length_singleton]
    omega
  rw [e, HT.sIx_none, List.drop_zero, Nat.sub_zero, List.take_left]
theorem inV_nat (i : Nat) : ∀ xs : List Nat, inV (natV i) (xs.map natV) = decide (i ∈ xs)
  | [] => rfl
  | x :: r => by
    have ih := inV_nat i r
    have e : inV (natV i) ((x :: r).map natV) = (eqV (natV x) (natV i) || inV (natV i) (r.map natV)) := rfl
    rw [e, ih]
    have e2 : eqV (natV x) (natV i) = decide ((x : Int) = (i : Int)) := rfl
    rw [e2]
    by_cases c : i = x
    · rw [decide_eq_true (show (x : Int) = (i : Int) by omega), Bool.true_or, decide_eq_true (List.mem_cons.mpr (.inl c))]
    · rw [decide_eq_false (show ¬ (x : Int) = (i : Int) by omega), Bool.false_or]
      by_cases d : i ∈ r
      · rw [decide_eq_true d, decide_eq_true (List.mem_cons_of_mem _ d)]
      · rw [decide_eq_false d, decide_eq_false (fun z => (List.mem_cons.mp z).elim c d)]
theorem inV_int (i : Int) : ∀ xs : List Int, inV (.int i) (xs.map V.int) = decide (i ∈ xs)
  | [] => rfl
  | x :: r => by
    have ih := inV_int i r
    have e : inV (.int i) ((x :: r).map V.int) = (eqV (.int x) (.int i) || inV (.int i) (r.map V.int)) := rfl
    rw [e, ih]
    have e2 : eqV (.int x) (.int i) = decide (x = i) := rfl
    rw [e2]
    by_cases c : i = x
    · rw [decide_eq_true c.symm, Bool.true_or, decide_eq_true (List.mem_cons.mpr (.inl c))]
    · rw [decide_eq_false (show ¬ x = i by omega), Bool.false_or]
      by_cases d : i ∈ r
      · rw [decide_eq_true d, decide_eq_true (List.mem_cons_of_mem _ d)]
      · rw [decide_eq_false d, decide_eq_false (fun z => (List.mem_cons.mp z).elim c d)]
theorem flat_nats : ∀ xs : List Nat, (xs.map natV).all flatV = true
  | [] => rfl
  | x :: r => by
    rw [List.map_cons, List.all_cons, flat_nats r]
    rfl
theorem flat_ints : ∀ xs : List Int, (xs.map V.int).all flatV = true
  | [] => rfl
  | x :: r => by
    rw [List.map_cons, List.all_cons, flat_ints r]
    rfl
/-! ### lists of ints as data -/
def intsD (l : List Int) : PyData := .list (l.map PyData.int)
theorem ints_can : ∀ l : List Int, PyData.canLayAll0 (l.map PyData.int) = true
  | [] => by simp [PyData.canLayAll0]
  | z :: r => by
    have ih := ints_can r
    simp only [List.map_cons, PyData.canLayAll0, PyData.canLay0, ih, Bool.and_self]
theorem ints_deep : ∀ l : List Int, PyData.depthAll (l.map PyData.int) ≤ 1
  | [] => by simp [PyData.depthAll]
  | z :: r => by
    have ih := ints_deep r
    simp only [List.map_cons, PyData.depthAll, PyData.depth]
    omega
theorem ints_shaped (l : List Int) : SeqAt.shaped (intsD l) = true := by
  unfold SeqAt.shaped intsD
  have h1 := ints_can l
  have h2 := ints_deep l
  rw [Bool.and_eq_true]
  refine ⟨by simp only [PyData.canLay0]; exact h1, decide_eq_true ?_⟩
  simp only [PyData.depth]
  omega
theorem ints_dpAll {K : PySem.W.Frag} {H : Hp} : ∀ l : List Int, DpAll K H (l.map V.int) (l.map PyData.int)
  | [] => .nil
  | z :: r => .cons (.int z) (ints_dpAll r)
theorem ints_none (l : List Int) : PyData.eqv (intsD l) (intsD []) = decide (l = []) := by
  cases l with
  | nil => rw [decide_eq_true rfl]; exact SeqAt.eqv_refl _ (by unfold intsD; simp only [PyData.canLay0]; exact ints_can [])
  | cons x r =>
    rw [decide_eq_false (List.cons_ne_nil _ _)]
    unfold intsD
    simp [PyData.eqv, PyData.eqvAll]
end HSP
namespace HSP
open PySem PySem.Spec PyProof.Rows L2
/-! ## heaps: all but some places stay -/
def Stay (X : List Addr) (H H' : Hp) : Prop := ∀ b o, b ∉ X → H b = some o → H' b = some o
theorem Stay.refl (X : List Addr) (H : Hp) : Stay X H H := fun _ _ _ e => e
theorem Stay.trans {X : List Addr} {H H1 H2 : Hp} (a : Stay X H H1) (b : Stay X H1 H2) : Stay X H H2 := fun c o n e => b c o n (a c o n e)
theorem Stay.of {X : List Addr} {H H' : Hp} (s : Same H H') : Stay X H H' := fun b o _ e => s b o e
theorem Stay.new {X : List Addr} {H : Hp} {p : Addr} {o : HO} (h : H p = none) : Stay X H (upd H p o) := fun b u _ e => by
  rw [upd_ne (ne_of_none e h)]; exact e
theorem Stay.at {X : List Addr} {H : Hp} {p : Addr} {o : HO} (h : p ∈ X) : Stay X H (upd H p o) := fun b u n e => by
  rw [upd_ne (fun z : b = p => n (by rw [z]; exact h))]; exact e
theorem Stay.mono {X Y : List Addr} {H H' : Hp} (a : Stay X H H') (h : ∀ x, x ∈ X → x ∈ Y) : Stay Y H H' := fun b o n e => a b o (fun z => n (h b z)) e
theorem Stay.then {X : List Addr} {H H1 H2 : Hp} (a : Stay X H H1) (b : Same H1 H2) : Stay X H H2 := a.trans (.of b)
theorem Stay.anew {X : List Addr} {H H1 : Hp} {p : Addr} {o : HO} (a : Stay X H H1) (h : H1 p = none) : Stay X H (upd H1 p o) := a.trans (.new h)
theorem Stay.put {X : List Addr} {H H1 : Hp} {p : Addr} {o : HO} (a : Stay X H H1) (h : p ∈ X) : Stay X H (upd H1 p o) := a.trans (.at h)
theorem Stay.free {X : List Addr} {H H' : Hp} {b : Addr} (a : Stay X H H') (n : b ∉ X) (h : H' b = none) : H b = none := by
  cases e : H b with
  | none => rfl
  | some o => cases h.symm.trans (a b o n e)
/-- what was not tracked at first may be written -/
theorem Stay.same {X : List Addr} {H H1 H' : Hp} (s : Same H H1) (n : ∀ x, x ∈ X → H x = none) (k : Stay X H1 H') : Same H H' := fun b o e => k b o (fun z => by rw [n b z] at e; cases e) (s b o e)
theorem no2 {a b c : Addr} (h1 : a ≠ b) (h2 : a ≠ c) : a ∉ [b, c] := fun z => by
  rcases List.mem_cons.mp z with q | q
  · exact h1 q
  · exact h2 (List.mem_singleton.mp q)
theorem no1 {a b : Addr} (h1 : a ≠ b) : a ∉ [b] := fun z => h1 (List.mem_singleton.mp z)
theorem in2l {a b : Addr} : a ∈ [a, b] := List.mem_cons_self
theorem in2r {a b : Addr} : b ∈ [a, b] := List.mem_cons_of_mem _ List.mem_cons_self
theorem in1 {a : Addr} : a ∈ [a] := List.mem_cons_self
theorem tup_ne {H : Hp} {a b : Addr} {xs ys : List V} (h : H a = some (.tup xs)) (h2 : H b = some (.lst ys)) : a ≠ b := fun z => by
  rw [z, h2] at h; cases h
theorem TrAt.stay {X : List Addr} {H H' : Hp} {v : V} {t : Tr} (h : TrAt H v t) (k : Stay X H H') (n : ∀ x, x ∈ X → ∃ ys, H x = some (.lst ys)) : TrAt H' v t :=
  h.keep fun a x y e => k a _ (fun z => by
    obtain ⟨ys, q⟩ := n a z
    rw [q] at e
    cases e) e
theorem valAt_mem {ns : List Int} {i : Nat} (h : i < ns.length) : valAt ns i ∈ ns := by
  have e : valAt ns i = ns[i] := by
    unfold valAt
    rw [List.getD_eq_getElem?_getD, List.getElem?_eq_getElem h]
    rfl
  rw [e]
  exact List.getElem_mem h
theorem TrAt.put {H : Hp} {v : V} {t : Tr} {a : Addr} {xs : List V} {o : HO} (h : TrAt H v t) (e : H a = some (.lst xs)) : TrAt (upd H a o) v t := by
  refine h.keep fun b x y eb => ?_
  rw [upd_ne]
  · exact eb
  · intro z
    rw [z, e] at eb
    cases eb
theorem Keep.free {p q : Addr} {H H' : Hp} (k : Keep p H H') (n : q ≠ p) (h : H' q = none) : H q = none := by
  cases e : H q with
  | none => rfl
  | some o => cases h.symm.trans (k q o n e)
theorem Paired.getL {α β : Type} {R : α → β → Prop} : ∀ {l : List α} {m : List β} {i : Nat} {x : α}, Paired R l m → l[i]? = some x → ∃ y, m[i]? = some y ∧ R x y
  | _, _, i, _, .nil, e => by simp at e
  | _, _, 0, _, .cons h _, e => by
    cases Option.some.inj (show some _ = some _ from e)
    exact ⟨_, rfl, h⟩
  | _, _, i + 1, _, .cons _ t, e => Paired.getL (i := i) t e
end HSP
namespace HSP
open PySem PySem.Spec PyProof.Rows L2
theorem dig_mem (c : Nat) : decide (c ∈ TL.tl ("0123456789" : Str)) = digB c := by
  have e : TL.tl ("0123456789" : Str) = [48, 49, 50, 51, 52, 53, 54, 55, 56, 57] := by decide +kernel
  rw [e]
  unfold digB
  rw [Bool.eq_iff_iff, decide_eq_true_iff, Bool.and_eq_true, decide_eq_true_iff, decide_eq_true_iff]
  simp only [List.mem_cons, List.not_mem_nil, or_false]
  omega
theorem str_nil (d : Str) : decide (V.str d = V.str "") = (TL.tl d).isEmpty := by
  have e : TL.tl ("" : Str) = [] := by decide +kernel
  rw [Bool.eq_iff_iff, decide_eq_true_iff, List.isEmpty_iff]
  constructor
  · intro h
    rw [V.str.inj h, e]
  · intro h
    exact congrArg V.str (TL.ext_tl (h.trans e.symm))
theorem in_strs (s : Str) : ∀ l : List Str, inV (V.str s) (l.map V.str) = decide (s ∈ l)
  | [] => by simp [inV]
  | x :: r => by
    have ih := in_strs s r
    have e : inV (V.str s) ((x :: r).map V.str) = ((x == s) || inV (V.str s) (r.map V.str)) := rfl
    rw [e, ih, Bool.eq_iff_iff, Bool.or_eq_true, beq_iff_eq, decide_eq_true_iff, decide_eq_true_iff, List.mem_cons]
    exact ⟨fun h => h.elim (fun z => .inl z.symm) .inr, fun h => h.elim (fun z => .inl z.symm) .inr⟩
def strG (ws : List Str) (i : Nat) : Str := ws.getD i ""
section
variable {P : Program} {w : World} {K : PySem.W.Frag} {mg : Str → Option Value} {base : Heap}
theorem yes_lcT {σ : L2.St} {H : Hp} {A C : Hp → Prop} (h : A H) : tYes σ H fun b H3 => if b = true then A H3 else C H3 := by
  show if true = true then A H else C H
  exact iteT h
theorem sc_is_number : FnScope n_is_number ["word"] (defScope s_is_number) := ⟨rfl, rfl, rfl, by decide +kernel, rfl, by decide +kernel, by decide +kernel⟩
def spNum : Sp := fun vs H Q _ => ∃ x : Str, vs = [.str x] ∧ x.length ≤ 1000 ∧ ∀ H', Same H H' → Q (.bl (numT (TL.tl x))) H'
theorem ok_num {tk : Tok} (B : Bl mg) (Al : mg "all" = none) (Dg : mg "DIGITS" = some (.str "0123456789" tk)) (a : At K mg "is_number" s_is_number) : Df P w K mg base "is_number" 1 ["word"] spNum := by
  refine Df.mk' a sc_is_number (fun vs H Q E h => ?_) (fun _ _ _ _ _ _ us hl => match us, hl with | [_], _ => rfl) (fun f cdv A outer s H vs Q E hr h => ?_)
  · obtain ⟨_, rfl, _⟩ := h
    rfl
  obtain ⟨x, rfl, hx, q⟩ := h
  refine ⟨_, (pss_cons (ps_set (i := 1) sc_is_number.nd rfl (.inl rfl) (pe_m1 PySem.F.slot_str_removeprefix PySem.F.type_str_removeprefix mt_removeprefix (pv 0) pe_str))
 (pss_cons (ps_if (PW.pt (pw_or (pt_cmpR op_eq (pv 1) pe_str (nomark _)) (pw_or1 (pt_not (pt_val (pe_callB (cr_all rfl) (by rfl) Al (by decide +kernel) (pa_cons (pe_lc (own := [("sign", 2)]) (g := (gName 2)) (tt := tYes) (by rfl) sc_is_number.nd (pi_str (pv 1)) (blkOk_by (N := n_is_number) (sc := defScope s_is_number) (by decide +kernel)) (fun _ _ _ _ _ => (pg_name (i := 2) sc_is_number.nd rfl (.inl rfl))) (fun _ _ _ _ _ => pts_nil) (fun _ _ _ _ _ => (pe_cmpR op_in_sign (pv 2) (pe_glob (v := .str "0123456789") (by rfl) Dg ⟨_, rfl⟩) (by rfl)))) pa_nil))))))) (pss_one (ps_ret pe_bl)) pss_nil)
 (pss_one (ps_ret (pe_or (pe_cmpR op_eq (pv 0) pe_str (nomark _)) (pe_one (pe_not (pe_m1 PySem.F.slot_str_startswith PySem.F.type_str_startswith mt_startswith (pv 1) pe_str)))))))), ?_⟩
  have line : sizeLine = 16777216 := rfl
  refine ⟨_, rfl, ⟨_, rfl⟩, _, _, rfl, rfl, by omega, ?_⟩
  have ed := pre_signs x
  generalize Txt.removeprefix x ("-" : Str) = d at ed
  have ld : (TL.tl d).length ≤ 1000 := by
    rw [ed]
    have h1 := restL_len (TL.tl x)
    have h2 := TL.len_tl x
    omega
  refine ⟨_, rfl, rfl, _, rfl, ?_⟩
  rw [str_nil d]
  have nt : numT (TL.tl x) = (!(TL.tl d).isEmpty && (TL.tl d).all digB && (decide (TL.tl x = [48]) || !decide ((TL.tl d).head? = some 48))) := by
    rw [ed]
    rfl
  cases c1 : (TL.tl d).isEmpty with
  | true =>
    refine iteT ?_
    have := q H (Same.refl _)
    rw [nt, c1] at this
    exact this
  | false =>
    refine iteF ⟨_, rfl, _, rfl, fun L hL => ?_⟩
    refine lc_it walk_str (fun i H' => Same H H' ∧ H' L = some (.lst ((((TL.tl d).take i).map digB).map V.bl))) ⟨Same.new hL, upd_same⟩ (fun _ _ _ _ => trivial) (fun i y H1 H2 hi h1 hy => ?_) (fun H1 h1 => ?_)
    · obtain ⟨s1, e1⟩ := h1
      obtain ⟨rfl, c, hc, rfl⟩ := hy
      refine ⟨rfl, yes_lcT ?_⟩
      refine ⟨_, rfl, c, _, rfl, rfl, _, e1, ?_, fun b o eb => ?_, ?_⟩
      · rw [List.length_map, List.length_map, List.length_take]
        have := TL.len_tl d
        omega
      · rw [upd_ne (ne_of_none eb hL)]
        exact s1 _ _ eb
      · have hc : (TL.tl d)[i]? = some c := by
          rw [← hc]
          exact Array.getElem?_toList
        rw [upd_same, List.take_add_one, hc, List.map_append, List.map_append, show decide (c ∈ ("0123456789" : Str).cps.toList) = digB c from dig_mem c]
        rfl
    · obtain ⟨s1, e1⟩ := h1
      rw [List.take_of_length_le (show (TL.tl d).length ≤ d.cps.size by rw [← TL.len_tl]; exact Nat.le_refl _)] at e1
      refine ⟨L, _, rfl, .of e1, _, rfl, ?_⟩
      have ea : (((TL.tl d).map digB).all id) = (TL.tl d).all digB := by rw [List.all_map]; rfl
      rw [ea]
      cases c2 : (TL.tl d).all digB with
      | false =>
        refine iteT ?_
        have := q H1 s1
        rw [nt, c1, c2] at this
        exact this
      | true =>
        refine iteF ⟨_, rfl, rfl, _, rfl, ?_⟩
        have := q H1 s1
        rw [nt, c1, c2] at this
        have e48 : TL.tl ("0" : Str) = [48] := by decide +kernel
        have ex : decide (V.str x = V.str ("0" : Str)) = decide (TL.tl x = [48]) := by
          rw [Bool.eq_iff_iff, decide_eq_true_iff, decide_eq_true_iff]
          exact ⟨fun h => by rw [V.str.inj h, e48], fun h => congrArg V.str (TL.ext_tl (h.trans e48.symm))⟩
        rw [ex]
        cases c3 : decide (TL.tl x = [48]) with
        | true =>
          refine iteT ?_
          rw [c3] at this
          exact this
        | false =>
          refine iteF ⟨_, rfl, ⟨_, rfl⟩, _, _, rfl, rfl, _, rfl, ?_⟩
          rw [starts_zero]
          rw [c3] at this
          exact this
/-! ### is_line -/
def labelL : List Str := ["dead", "found", "high", "low"]
/-- LABELS -/
def LabsAt (K : PySem.W.Frag) (mg : Str → Option Value) : Prop := ∃ a, mg "LABELS" = some (.ref a) ∧ ∀ H : Hp, SqT K H a (labelL.map V.str)
def numS (i : Nat) : Str := Str.ofString (toString ((i : Nat) : Int))
def lineOk (ws : List Str) (i : Nat) : Bool := decide (ws.length = 3) && (decide (strG ws 0 = numS i) && (numT (TL.tl (strG ws 1)) && decide (strG ws 2 ∈ labelL)))
theorem sc_is_line : FnScope n_is_line ["words", "node"] (defScope s_is_line) := ⟨rfl, rfl, rfl, by decide +kernel, rfl, by decide +kernel, by decide +kernel⟩
def spLine : Sp := fun vs H Q _ => ∃ (p : Addr) (ws : List Str) (i : Nat), vs = [.ref p, natV i] ∧ H p = some (.lst (ws.map V.str)) ∧ (∀ s, s ∈ ws → s.length ≤ 1000) ∧ i ≤ 1000 ∧ ∀ H', Same H H' → Q (.bl (lineOk ws i)) H'
theorem ok_line (B : Bl mg) (Ls : LabsAt K mg) (Nm : Df P w K mg base "is_number" 1 ["word"] spNum) (a : At K mg "is_line" s_is_line) : Df P w K mg base "is_line" 2 ["words", "node"] spLine := by
  obtain ⟨la, Gla, sla⟩ := Ls
  refine Df.mk' a sc_is_line (fun vs H Q E h => ?_) (fun _ _ _ _ _ _ us hl => match us, hl with | [_, _], _ => rfl) (fun f cdv A outer s H vs Q E hr h => ?_)
  · obtain ⟨_, _, _, rfl, _⟩ := h
    rfl
  obtain ⟨p, ws, i, rfl, ep, hw, hi, q⟩ := h
  refine ⟨_, (pss_one (ps_ret (pe_and (pe_cmpR op_eq (pe_callB call_len_seq (by rfl) B.len PySem.boot_len (pa_cons (pv 0) pa_nil)) pe_int (nomark _)) (pe_and (pe_cmpR op_eq (pe_ix ix_list (pv 0) pe_int (fun _ _ => rfl)) (pe_callTy call_str_int (by rfl) B.str (by decide +kernel) (pa_cons (pv 1) pa_nil)) (nomark _)) (pe_and (pe_df Nm hr (pa_cons (pe_ix ix_list (pv 0) pe_int (fun _ _ => rfl)) pa_nil)) (pe_one (pe_cmpR op_in_seq (pe_ix ix_list (pv 0) pe_int (fun _ _ => rfl)) (pe_glob (v := .ref la) (by rfl) Gla rfl) (by rfl)))))))), ?_⟩
  have nm : ws.length = (ws.map V.str).length := (List.length_map _).symm
  have big : ((i : Nat) : Int).natAbs.log2 < 1920 := by
    show i.log2 < 1920
    by_cases c : i = 0
    · rw [c]; decide
    · exact (Nat.log2_lt c).mpr (Nat.lt_of_le_of_lt hi (by decide +kernel))
  refine ⟨_, rfl, p, _, rfl, .inl (.of ep), rfl, _, rfl, ?_⟩
  have e3 : decide (V.int (((ws.map V.str).length : Nat) : Int) = V.int 3) = decide (ws.length = 3) := by
    rw [List.length_map, Bool.eq_iff_iff, decide_eq_true_iff, decide_eq_true_iff]
    exact ⟨fun h => by have := V.int.inj h; omega, fun h => by rw [h]; rfl⟩
  rw [e3]
  cases c1 : decide (ws.length = 3) with
  | false =>
    refine iteF ?_
    have := q H (Same.refl _)
    unfold lineOk at this
    rw [c1] at this
    exact this
  | true =>
    have l3 := of_decide_eq_true c1
    have at_ : ∀ k, k < 3 → (ws.map V.str)[k]? = some (V.str (strG ws k)) := fun k hk => by
      unfold strG
      rw [List.getElem?_map, List.getD_eq_getElem?_getD, List.getElem?_eq_getElem (by omega)]
      rfl
    have ln : ∀ k, k < 3 → (strG ws k).length ≤ 1000 := fun k hk => by
      unfold strG
      rw [List.getD_eq_getElem?_getD, List.getElem?_eq_getElem (by omega)]
      exact hw _ (List.getElem_mem _)
    refine iteT ⟨_, rfl, p, _, _, _, rfl, rfl, .of ep, atI_nat (j := 0) (at_ 0 (by decide)), _, rfl, _, rfl, big, rfl, _, rfl, ?_⟩
    have e4 : decide (V.str (strG ws 0) = V.str (Str.ofString (toString ((i : Nat) : Int)))) = decide (strG ws 0 = numS i) := decide_eq_decide.mpr ⟨fun h => V.str.inj h, fun h => congrArg V.str h⟩
    rw [e4]
    cases c2 : decide (strG ws 0 = numS i) with
    | false =>
      refine iteF ?_
      have := q H (Same.refl _)
      unfold lineOk at this
      rw [c1, c2] at this
      exact this
    | true =>
      refine iteT ⟨_, rfl, p, _, _, _, rfl, rfl, .of ep, atI_nat (j := 1) (at_ 1 (by decide)), strG ws 1, rfl, ln 1 (by decide), fun H1 s1 => ⟨_, rfl, ?_⟩⟩
      have := q H1 s1
      unfold lineOk at this
      rw [c1, c2] at this
      cases c3 : numT (TL.tl (strG ws 1)) with
      | false =>
        refine iteF ?_
        rw [c3] at this
        exact this
      | true =>
        rw [c3] at this
        refine iteT ⟨_, rfl, p, _, _, _, rfl, rfl, .of (s1 _ _ ep), atI_nat (j := 2) (at_ 2 (by decide)), la, _, rfl, .inr (sla H1), rfl, by decide, ?_⟩
        rw [show inV (V.str (strG ws 2)) (labelL.map V.str) = decide (strG ws 2 ∈ labelL) from in_strs _ _]
        exact this
/-! ### parse_list -/
def linesT (x : Str) : List Str := if x = ("" : Str) then [] else Txt.split x ("\n" : Str)
def wordsT (l : Str) : List Str := Txt.split l (" " : Str)
def okT (ls : List Str) (i : Nat) : Bool := lineOk (wordsT (strG ls i)) i
def valT (l : Str) : Int := (intText? (strG (wordsT l) 1)).getD 0
/-- the first line that is not well written -/
def badT (ls : List Str) : Option Nat := (List.range ls.length).find? fun i => !okT ls i
theorem sc_parse_list : FnScope n_parse_list ["text"] (defScope s_parse_list) := ⟨rfl, rfl, rfl, by decide +kernel, rfl, by decide +kernel, by decide +kernel⟩
def spParse (C : Addr) : Sp := fun vs H Q E => ∃ x : Str, vs = [.str x] ∧ x.length ≤ 600 ∧
  (badT (linesT x) = none → ∀ (H' : Hp) (r a b : Addr), Same H H' → H r = none → H a = none → H b = none → H' r = some (.tup [.ref a, .ref b]) → H' a = some (.lst (((linesT x).map valT).map V.int)) → H' b = some (.lst (((linesT x).map fun l => strG (wordsT l) 2).map V.str)) → Q (.ref r) H') ∧
  (∀ i, badT (linesT x) = some i → ET C E H (natV (i + 1)))
theorem ok_parse {C fI : Addr} {fd : FuncData} (B : Bl mg) (O : OwnT K mg C fI fd) (Ln : Df P w K mg base "is_line" 2 ["words", "node"] spLine) (a : At K mg "parse_list" s_parse_list) : DfX P w K mg base "parse_list" 3 ["text"] (spParse C) := by
  refine DfX.mk' a sc_parse_list (fun vs H Q E h => ?_) (fun _ _ _ _ _ _ us hl => match us, hl with | [_], _ => rfl) (fun f cdv A outer s H vs Q E hr h => ?_)
  · obtain ⟨_, rfl, _⟩ := h
    rfl
  obtain ⟨x, rfl, hx, good, bad⟩ := h
  refine ⟨_, (pss_cons (ps_set (i := 1) sc_parse_list.nd rfl (.inl rfl) (pe_lst pa_nil))
 (pss_cons (ps_set (i := 2) sc_parse_list.nd rfl (.inl rfl) (pe_lst pa_nil))
 (C8.pss_cut (ps_set (i := 3) sc_parse_list.nd rfl (.inl rfl) (pe_ifExp (pt_cmpR op_ne (pv 0) pe_str (nomark _)) (pe_split (pv 0) pe_str) (pe_lst pa_nil)))
 (pss_cons (ps_for (passes_of rfl) rfl (pi_enum (by rfl) B.enumerate (pa_cons (pv 3) pa_nil)) (pg_tup rfl (pgs_cons (pg_name (i := 4) sc_parse_list.nd rfl (.inl rfl)) (pgs_cons (pg_name (i := 5) sc_parse_list.nd rfl (.inl rfl)) pgs_nil))) (pss_cons (ps_set (i := 6) sc_parse_list.nd rfl (.inl rfl) (pe_split (pv 5) pe_str))
 (pss_cons (ps_if (pt_not (pt_val (pe_df Ln hr (pa_cons (pv 6) (pa_cons (pv 4) pa_nil))))) (pss_one (ps_raise rfl (takes_of rfl rfl rfl rfl) (pmk_oex O.T O.i O.t (ok_itInit O.v O.vV O.F) (hr.mono (by decide)) O.b .nil pass0 rfl O.g (pa_cons (pe_op op_add (pv 4) pe_int) pa_nil)))) pss_nil)
 (pss_cons (ps_expr (pe_bm PySem.F.plainAttrs_list PySem.F.slot_list_append PySem.F.type_list_append mt_append (pv 1) (pa_cons (pe_callTy call_int_str (by rfl) B.int (by decide +kernel) (pa_cons (pe_ix ix_list (pv 6) pe_int (fun _ _ => rfl)) pa_nil)) pa_nil)))
 (pss_one (ps_expr (pe_bm PySem.F.plainAttrs_list PySem.F.slot_list_append PySem.F.type_list_append mt_append (pv 2) (pa_cons (pe_ix ix_list (pv 6) pe_int (fun _ _ => rfl)) pa_nil))))))))
 (pss_one (ps_ret (pe_tup (pa_cons (pv 1) (pa_cons (pv 2) pa_nil))))))))), ?_⟩
  have line : sizeLine = 16777216 := rfl
  refine ⟨Nat.zero_le _, fun A1 hA1 => ?_⟩
  have sA := Same.new (o := .lst []) hA1
  have eA : (upd H A1 (.lst [])) A1 = some (.lst (([] : List Int).map V.int)) := upd_same
  generalize upd H A1 (.lst []) = HA at sA eA ⊢
  refine ⟨Nat.zero_le _, fun B1 hB1 => ?_⟩
  have sB := Same.new (o := .lst []) hB1
  have eB : (upd HA B1 (.lst [])) B1 = some (.lst (([] : List Str).map V.str)) := upd_same
  have eA2 := sB _ _ eA
  have nAB : A1 ≠ B1 := ne_of_none eA hB1
  have nB0 : H B1 = none := sA.free hB1
  have sAB := sA.trans sB
  generalize upd HA B1 (.lst []) = HB at sB eB eA2 sAB ⊢
  refine ⟨fun σ H' => ∃ L : Addr, σ = [some (.str x), some (.ref A1), some (.ref B1), some (.ref L), none, none, none] ∧ Same HB H' ∧ H' L = some (.lst ((linesT x).map V.str)) ∧ HB L = none, ?_, fun σ H1 hX => ?_⟩
  · have e0 : decide (V.str x = V.str ("" : Str)) = decide (x = ("" : Str)) := decide_eq_decide.mpr ⟨fun h => V.str.inj h, fun h => congrArg V.str h⟩
    refine ⟨_, rfl, rfl, _, rfl, ?_⟩
    rw [e0]
    cases c : decide (x = ("" : Str)) with
    | true =>
      refine iteF ⟨Nat.zero_le _, fun L hL => ⟨L, rfl, Same.new hL, ?_, hL⟩⟩
      rw [upd_same]
      unfold linesT
      rw [if_pos (of_decide_eq_true c)]
      rfl
    | false =>
      refine iteT ⟨_, rfl, ⟨_, rfl⟩, _, _, rfl, rfl, by decide +kernel, by omega, fun L hL => ⟨L, rfl, Same.new hL, ?_, hL⟩⟩
      rw [upd_same]
      unfold linesT
      rw [if_neg (of_decide_eq_false c)]
  obtain ⟨L, rfl, s1, eL, nL⟩ := hX
  have nLA : L ≠ A1 := fun z => by rw [z, eA2] at nL; cases nL
  have nLB : L ≠ B1 := fun z => by rw [z, eB] at nL; cases nL
  have lin : (linesT x).length ≤ 601 ∧ ∀ l, l ∈ linesT x → l.length ≤ 600 := by
    unfold linesT
    by_cases c : x = ("" : Str)
    · rw [if_pos c]
      exact ⟨Nat.zero_le _, fun l h => nomatch h⟩
    · rw [if_neg c]
      have h1 := split_few (x := x) (y := ("\n" : Str)) (by decide +kernel)
      exact ⟨by omega, fun l h => by have := split_part h; omega⟩
  obtain ⟨ln1, ln2⟩ := lin
  have eA3 := s1 _ _ eA2
  have eB3 := s1 _ _ eB
  generalize linesT x = ls at good bad eL ln1 ln2
  refine ⟨_, rfl, L, _, rfl, .of eL, for_it (walk_enum (K := K) (a := L) (xs := ls.map V.str)) (fun i σ H' => (∃ y4 y5 y6 : Option V, σ = [some (.str x), some (.ref A1), some (.ref B1), some (.ref L), y4, y5, y6]) ∧ Stay [A1, B1] H1 H' ∧ (∀ j, j < i → okT ls j = true) ∧ H' A1 = some (.lst (((ls.take i).map valT).map V.int)) ∧ H' B1 = some (.lst (((ls.take i).map fun l => strG (wordsT l) 2).map V.str))) ⟨⟨_, _, _, rfl⟩, .refl _ _, fun _ h => absurd h (Nat.not_lt_zero _), eA3, eB3⟩ (fun i σ H' _ h' => .of (h'.2.1 _ _ (no2 nLA nLB) eL)) (fun i y σ H2 H3 hi h2 hy => ?_) (fun σ H2 h2 => ?_)⟩
  · obtain ⟨⟨y4, y5, y6, rfl⟩, st, ok, eA4, eB4⟩ := h2
    obtain ⟨T, x1, x2, rfl, nT, rfl, g1, g2⟩ := hy
    rw [List.length_map] at hi
    have g2 : (ls.map V.str)[i]? = some x2 := g2
    rw [List.getElem?_map, List.getElem?_eq_getElem hi] at g2
    cases g2
    cases (show some (V.int ((i : Nat) : Int)) = some x1 from g1)
    have hl : ls[i]? = some ls[i] := List.getElem?_eq_getElem hi
    have hg : strG ls i = ls[i] := by
      unfold strG
      rw [List.getD_eq_getElem?_getD, hl]
      rfl
    have l6 := ln2 _ (List.getElem_mem hi)
    generalize ls[i] = l at hl hg l6
    have sT := Same.new (o := .tup [V.int ((i : Nat) : Int), V.str l]) nT
    have eT : (upd H2 T (.tup [V.int ((i : Nat) : Int), V.str l])) T = some (.tup [V.int ((i : Nat) : Int), V.str l]) := upd_same
    have eA5 := sT _ _ eA4
    have eB5 := sT _ _ eB4
    have st3 := st.then sT
    generalize upd H2 T (.tup [V.int ((i : Nat) : Int), V.str l]) = H3 at eT eA5 eB5 st3 ⊢
    refine ⟨T, _, rfl, .of eT, rfl, _, _, rfl, _, [], rfl, rfl, ?_⟩
    refine ⟨_, rfl, ⟨_, rfl⟩, _, _, rfl, rfl, by decide +kernel, by omega, fun W hW => ?_⟩
    have sW := Same.new (o := .lst ((Txt.split l (" " : Str)).map V.str)) hW
    have eW : (upd H3 W (.lst ((Txt.split l (" " : Str)).map V.str))) W = some (.lst ((wordsT l).map V.str)) := upd_same
    have eA6 := sW _ _ eA5
    have eB6 := sW _ _ eB5
    have st4 := st3.then sW
    generalize upd H3 W (.lst ((Txt.split l (" " : Str)).map V.str)) = H4 at eW eA6 eB6 st4 ⊢
    have wl : ∀ s, s ∈ wordsT l → s.length ≤ 600 := fun s hs => Nat.le_trans (split_part hs) l6
    have sH : Same H H4 := Stay.same (X := [A1, B1]) (sAB.trans s1) (fun y hy => by
      rcases List.mem_cons.mp hy with z | z
      · exact z ▸ hA1
      · exact (List.mem_singleton.mp z) ▸ nB0) st4
    refine ⟨_, rfl, _, rfl, W, wordsT l, i, rfl, eW, fun s hs => Nat.le_trans (wl s hs) (by decide), by omega, fun H5 s5 => ⟨_, rfl, ?_⟩⟩
    have ek : lineOk (wordsT l) i = okT ls i := by
      unfold okT
      rw [hg]
    rw [ek]
    cases c : okT ls i with
    | false =>
      refine iteT ⟨_, rfl, _, _, rfl, rfl, ?_⟩
      have eb : badT ls = some i := by
        unfold badT
        refine List.find?_range_eq_some.mpr ⟨by rw [c]; rfl, List.mem_range.mpr hi, fun j hj => by rw [ok j hj]; rfl⟩
      exact mk_it O.T O.no ((bad i eb).same (sH.trans s5))
    | true =>
      have lk : lineOk (wordsT l) i = true := by rw [ek, c]
      unfold lineOk at lk
      rw [Bool.and_eq_true, Bool.and_eq_true, Bool.and_eq_true, decide_eq_true_iff] at lk
      obtain ⟨l3, _, nm, _⟩ := lk
      have at_ : ∀ k, k < 3 → ((wordsT l).map V.str)[k]? = some (V.str (strG (wordsT l) k)) := fun k hk => by
        unfold strG
        rw [List.getElem?_map, List.getD_eq_getElem?_getD, List.getElem?_eq_getElem (by omega)]
        rfl
      have lw : (strG (wordsT l) 1).length ≤ 640 := by
        unfold strG
        rw [List.getD_eq_getElem?_getD, List.getElem?_eq_getElem (by omega)]
        have := wl _ (List.getElem_mem (show 1 < (wordsT l).length by omega))
        show (wordsT l)[1].length ≤ 640
        omega
      obtain ⟨n, en, _⟩ := num_val nm lw
      have ev : valT l = n := by
        unfold valT
        rw [en]
        rfl
      have eW5 := s5 _ _ eW
      refine iteF ⟨_, rfl, .inl ⟨rfl, _, .of (s5 _ _ eA6)⟩, _, rfl, W, _, _, _, rfl, rfl, .of eW5, atI_nat (j := 1) (at_ 1 (by decide)), _, n, rfl, en, lw, A1, _, _, rfl, rfl, s5 _ _ eA6, ?_, ?_⟩
      · rw [List.length_map, List.length_map, List.length_take]
        exact small1000 (by omega)
      have nWA : W ≠ A1 := (ne_of_none eA5 hW).symm
      have nWB : W ≠ B1 := (ne_of_none eB5 hW).symm
      have eB7 : (upd H5 A1 (.lst (((ls.take i).map valT).map V.int ++ [V.int n]))) B1 = some (.lst (((ls.take i).map fun l => strG (wordsT l) 2).map V.str)) := by
        rw [upd_ne nAB.symm]
        exact s5 _ _ eB6
      refine ⟨_, rfl, .inl ⟨rfl, _, .of eB7⟩, _, rfl, W, _, _, _, rfl, rfl, .of ((upd_ne nWA).trans eW5), atI_nat (j := 2) (at_ 2 (by decide)), B1, _, _, rfl, rfl, eB7, ?_, ?_⟩
      · rw [List.length_map, List.length_map, List.length_take]
        exact small1000 (by omega)
      refine ⟨⟨_, _, _, rfl⟩, ((st4.then s5).put (List.mem_cons_self)).put (List.mem_cons_of_mem _ List.mem_cons_self), fun j hj => ?_, ?_, ?_⟩
      · by_cases d : j = i
        · rw [d]; exact c
        · exact ok j (by omega)
      · rw [upd_ne nAB, upd_same, List.take_add_one, hl, List.map_append, List.map_append]
        show _ = some (HO.lst (_ ++ [V.int (valT l)]))
        rw [ev]
      · rw [upd_same, List.take_add_one, hl, List.map_append, List.map_append]
        rfl
  · obtain ⟨⟨y4, y5, y6, rfl⟩, st, ok, eA4, eB4⟩ := h2
    rw [List.length_map] at ok eA4 eB4
    rw [List.take_length] at eA4 eB4
    have sH : Same H H2 := Stay.same (X := [A1, B1]) (sAB.trans s1) (fun y hy => by
      rcases List.mem_cons.mp hy with z | z
      · exact z ▸ hA1
      · exact (List.mem_singleton.mp z) ▸ nB0) st
    have eb : badT ls = none := by
      unfold badT
      rw [List.find?_eq_none]
      intro j hj z
      rw [ok j (List.mem_range.mp hj)] at z
      cases z
    refine ⟨_, rfl, _, rfl, (by show 2 ≤ sizeLine; decide), fun R hR => ?_⟩
    have sR := Same.new (o := .tup [V.ref A1, V.ref B1]) hR
    exact good eb _ R A1 B1 (sH.trans sR) (sH.free hR) hA1 nB0 upd_same (sR _ _ eA4) (sR _ _ eB4)
end
end HSP
namespace HSP
open PySem PySem.Spec PyProof.Rows L2
/-! ## xs == [], xs != [], whatever xs holds -/
section
variable {X : Cx}
def rNeN (K : PySem.W.Frag) : R2 := fun x y H Q => ∃ (a b : Addr) (xs : List V), x = .ref a ∧ y = .ref b ∧ SqL K H a xs ∧ SqL K H b [] ∧ Q (.bl (!xs.isEmpty)) H
def rEqN (K : PySem.W.Frag) : R2 := fun x y H Q => ∃ (a b : Addr) (xs : List V), x = .ref a ∧ y = .ref b ∧ SqL K H a xs ∧ SqL K H b [] ∧ Q (.bl xs.isEmpty) H
theorem op_neN (hu : X.A.units < cLine) : OpR X (compareOp .NotEq) (rNeN X.K) := by
  intro pins s σ H x y v u Q I rx ry h
  obtain ⟨a, b, xs, rfl, rfl, hx, hy, q⟩ := h
  cases rx
  cases ry
  obtain ⟨i1, r1, p1, _⟩ := I.list hx
  obtain ⟨i2, r2, p2, _⟩ := I.list hy
  cases r2
  cases r1 with
  | nil => exact PySem.SeqAt.RcNeAt.lists (e := fun _ => true) p1.isList p2.isList rfl hu (fun j h => absurd h (by simp)) X.prog X.w _ _ ⟨.bl false, H, I, rfl, q⟩
  | cons _ _ => exact PySem.SeqAt.RcNeAt.lists_lengths p1.isList p2.isList (by simp) hu X.prog X.w _ _ ⟨.bl true, H, I, rfl, q⟩
theorem op_eqN (hu : X.A.units < cLine) : OpR X (compareOp .Eq) (rEqN X.K) := by
  intro pins s σ H x y v u Q I rx ry h
  obtain ⟨a, b, xs, rfl, rfl, hx, hy, q⟩ := h
  cases rx
  cases ry
  obtain ⟨i1, r1, p1, _⟩ := I.list hx
  obtain ⟨i2, r2, p2, _⟩ := I.list hy
  cases r2
  cases r1 with
  | nil => exact PySem.SeqAt.RcAt.lists (e := fun _ => true) p1.isList p2.isList rfl hu (fun j h => absurd h (by simp)) X.prog X.w _ _ ⟨.bl true, H, I, rfl, q⟩
  | cons _ _ => exact PySem.SeqAt.RcAt.lists_lengths p1.isList p2.isList (by simp) hu X.prog X.w _ _ ⟨.bl false, H, I, rfl, q⟩
end
end HSP
namespace HSP
open PySem PySem.Spec PyProof.Rows L2
/-! ## defs that may show an object: nothing is being shown around them -/
structure FnG (P : Program) (w : World) (K : PySem.W.Frag) (mg : Str → Option Value) (base : Heap) (CX : CXT) (k : Nat) (f : Addr) (fd : FuncData) (ps : List Str) (sp : Sp) : Prop where
  len : ∀ vs H Q E, sp vs H Q E → vs.length = ps.length
  run : ∀ (A : Around) (outer : List Env) (s : Shared) (H : Hp) (args : Args) (us : List Value) (vs : List V) (Q : VK) (E : XK), A.guards = some [] → Room k A → Env0 P w K mg base A outer s H → BindsTo s fd args (ps.zip us) → Vals vs us → sp vs H Q E →
    codeAny (model P w) A (.call (.ref f) args) (CR CX outer P w H s Q E) s
section
variable {P : Program} {w : World} {K : PySem.W.Frag} {mg : Str → Option Value} {base : Heap}
theorem FnG.of {CX : CXT} {k : Nat} {f : Addr} {fd : FuncData} {ps : List Str} {sp : Sp} (F : FnOk P w K mg base CX k f fd ps sp) : FnG P w K mg base CX k f fd ps sp :=
  ⟨F.len, fun A outer s H args us vs Q E _ hr e hb hv hs => F.run A outer s H args us vs Q E hr e hb hv hs⟩
theorem FnG.mk' {CX : CXT} {x qual : Str} {st : Stmt} {f : Addr} {fd : FuncData} {N ps : List Str} {k : Nat} {sp : Sp} (F : Fun K x qual st f fd) (S : FnScope N ps (defScope st)) (len : ∀ vs H Q E, sp vs H Q E → vs.length = ps.length)
    (body : ∀ (cdv : Value) (A : Around) (outer : List Env) (s : Shared) (H : Hp) (vs : List V) (Q : VK) (E : XK), A.guards = some [] → Room k (A.deeper (envOfC qual (defScope st) s.heap.objs.size f cdv)) → sp vs H Q E →
      ∃ t, PSs (cxOf CX P w K mg base N qual (defScope st) f cdv A outer s H E) (defBody st) t ∧ t { nx := fun _ H' => Q .non H', rt := Q } (start N vs) H) : FnG P w K mg base CX (k + 1) f fd ps sp := by
  obtain ⟨oc, od, kV, doc, pm, an, cdv, ct, osl, e1, lk, hcd⟩ := F.ex
  subst e1
  refine ⟨len, fun A outer s H args us vs Q E hg hr e0 hb rv hs => ?_⟩
  have kin : K.In s.heap := e0.mod.kin.keeps fun b o e => (e0.bs b o e).1
  have nol : s.heap.NoLimit := e0.mod.nolimit.keeps fun b o e => (e0.bs b o e).1
  have kinds : ∀ y ∈ ps.zip us, (defScope st).names.lookup y.1 = some .local ∨ ((defScope st).names.lookup y.1 = some .cell ∧ ((cellsFrom (s.heap.objs.size + 1) (defScope st).names []).lookup y.1).isSome = true) := by
    intro y hy
    refine (S.par y.1 (List.of_mem_zip (a := y.1) (b := y.2) hy).1).imp id fun c => ⟨c, PySem.W.cellsFrom_some _ _ _ (.inl c)⟩
  refine codeAny_call_function hr.depth (kin _ _ lk) rfl S.co S.gen rfl (PySem.W.codeRec_of kin hcd) (hb _ _ _ _ (wpAny_newFunctionEnv_cells S.kind kinds fun env he s1 x => ?_))
  subst he
  obtain ⟨t, ht, hq⟩ := body cdv A outer s H vs Q E hg (hr.deeper _) hs
  have I := inv_start (CX := CX) (E := E) S hr.hd e0 (len _ _ _ _ hs) rv x
  refine ⟨nol.keeps x.toInCall.keep, codeAny_func (wpAny_mono (ht.run [] s1 (start N vs) H _ I hq) (fun fl s' q => ?_) fun _ _ q => q)⟩
  match fl, q with
  | .ret u, ⟨v, σ', H', J, r, q⟩ => exact ⟨v, H', J.os, J.bare, J.base, J.hok, r, q⟩
  | .next, ⟨σ', H', J, q⟩ => exact ⟨.non, H', J.os, J.bare, J.base, J.hok, rfl, q⟩
  | .brk, ⟨_, _, _, q⟩ => exact q.elim
  | .cont, ⟨_, _, _, q⟩ => exact q.elim
end
end HSP
namespace HSP
open PySem PySem.Spec PyProof.Rows L2
theorem deeper_guards (A : Around) (env : Env) : (A.deeper env).guards = A.guards := rfl
/-! ### calls of such defs -/
structure DfG (P : Program) (w : World) (K : PySem.W.Frag) (mg : Str → Option Value) (base : Heap) (x : Str) (n : Nat) (ps : List Str) (sp : Sp) : Prop where
  ex : ∃ (f : Addr) (fd : FuncData), mg x = some (.ref f) ∧ PySem.W.keepIn K (.ref f) = true ∧ Binds K fd ps [] ∧ FnG P w K mg base CX0 n f fd ps sp
section
variable {P : Program} {w : World} {K : PySem.W.Frag} {mg : Str → Option Value} {base : Heap}
theorem DfG.mk' {x : Str} {st : Stmt} {N ps : List Str} {k : Nat} {sp : Sp} (a : At K mg x st) (S : FnScope N ps (defScope st)) (len : ∀ vs H Q E, sp vs H Q E → vs.length = ps.length)
    (hb : ∀ (kV doc pm : Value) (an : Option Addr) (cdv ct : Value) (us : List Value), us.length = ps.length → bindArgs (PySem.W.fnOf x x (defArgs st) (defBody st) (defScope st) .none kV doc pm an cdv ct) ⟨us, []⟩ = pure (ps.zip us))
    (body : ∀ (f : Addr) (cdv : Value) (A : Around) (outer : List Env) (s : Shared) (H : Hp) (vs : List V) (Q : VK) (E : XK), A.guards = some [] → Room k (A.deeper (envOfC x (defScope st) s.heap.objs.size f cdv)) → sp vs H Q E →
      ∃ t, PSs (cxOf CX0 P w K mg base N x (defScope st) f cdv A outer s H E).nox (defBody st) t ∧ t { nx := fun _ H' => Q .non H', rt := Q } (start N vs) H) : DfG P w K mg base x (k + 1) ps sp := by
  obtain ⟨f, fd, hm, F⟩ := a
  refine ⟨f, fd, hm, F.kp, F.binds hb, FnG.mk' F S len fun cdv A outer s H vs Q E hg hr hs => ?_⟩
  obtain ⟨t, h1, h2⟩ := body f cdv A outer s H vs Q E hg hr hs
  exact ⟨t, h1.nox, h2⟩
end
section
variable {X : Cx} {k n : Nat} {ps ks : List Str} {sp : Sp} {x : Str} {p pos : Pos} {e : Expr} {es : List Expr} {kws : List Keyword} {t tk : TA} {f : Addr} {fd : FuncData} {ds : List Value} {dvs : List V} {g : List Value → List Value → List Value} {gV : List V → List V → List V}
theorem pe_dfG (D : DfG X.prog X.w X.K X.mg X.base x k ps sp) (hgd : X.A.guards = some []) (hr : Room k X.A) (ha : PA X (e :: es) t) (hg : Gl X x := by rfl) (hdb : (x == ("__debug__" : Str)) = false := by decide)
    (he : starEach (e :: es) X.env = (false, eval e X.env) :: starEach es X.env := by rfl) (hpl : (backTo pos (starEach es X.env)).any (·.1) = false := by rfl) : PE X (.Call (.Name x p) (e :: es) [] pos) (tCall sp [] E0 t) := by
  obtain ⟨f, fd, hm, hk, hb, F⟩ := D.ex
  refine ⟨fun pins s σ H Q I h => wpAny_Call_Name_kw (ld_glob I hg hm ?_ hdb)⟩
  refine PySem.W.callWith_K (h₀ := X.base) I.ok.mod.kin hk (thn (ha.run pos pins s σ H _ I h) fun us s1 z => ?_) he hpl
  obtain ⟨vs, H1, I1, r, q⟩ := z
  refine ⟨I1.kIn, ?_⟩
  have q' : sp vs H1 Q E0 := by
    have z : sp (vs ++ []) H1 Q E0 := q
    rw [List.append_nil] at z
    exact z
  have l1 : (us ++ []).length = ps.length := by rw [List.append_nil, ← r.length]; exact F.len _ _ _ _ q'
  have hb' := hb s1 us I1.kIn l1
  rw [List.append_nil] at hb'
  refine wpAny_call (codeAny_mono (F.run X.A X.stack s1 H1 ⟨us, []⟩ us vs Q E0 hgd hr I1.env0 hb' r q') fun res s' hq => ?_)
  match res, hq with
  | .error _, hq => exact (show False from hq).elim
  | .ok (.ret u), hq => exact I1.after hq
/-- f(k = v, ..): keywords alone -/
theorem pe_callK0 {CX : CXT} {E : XK} (F : FnOk X.prog X.w X.K X.mg X.base CX k f fd ps sp) (hr : Room k X.A) (hg : Gl X x) (hm : X.mg x = some (.ref f)) (hk : PySem.W.keepIn X.K (.ref f) = true) (hb : KBn X.K fd ps 0 ks g gV) (hx : Passes CX X E) (hkw : PK X kws tk)
    (hall : (backToKw pos (keywordEach kws X.env)).all (·.1.isSome) = true := by rfl) (hks : (backToKw pos (keywordEach kws X.env)).filterMap (·.1) = ks := by rfl) (hdb : (x == ("__debug__" : Str)) = false := by decide)
    (hpl : (backToKw pos (keywordEach kws X.env)).any (·.1.isNone) = false := by rfl) : PE X (.Call (.Name x p) [] kws pos) (tCallN 0 ks.length sp gV E tNil tk) := by
  refine ⟨fun pins s σ H Q I h => wpAny_Call_Name_kw (ld_glob I hg hm ?_ hdb)⟩
  refine PySem.W.callWith_KW0 (h₀ := X.base) I.ok.mod.kin hk hall (thn (hkw.run pos pins s σ H _ I h) fun ws s1 z => ?_) hpl
  obtain ⟨zs, H1, I1, rz, l1, l2, q⟩ := z
  rw [hks]
  exact ⟨I1.kIn, run_fnN (us := []) F hr hb hx I1 .nil rz l1 l2 q⟩
/-! ### repr of data -/
def rReprD (K : PySem.W.Frag) : List V → Hp → VK → Prop := fun vs H Q => ∃ (a : Addr) (d : PyData), vs = [.ref a] ∧ Dp K H (.ref a) d ∧ d.showable = true ∧ d.hasDict = false ∧ d.depth ≤ 60 ∧ d.shown.length ≤ sizeLine ∧ Q (.str d.shown) H
theorem cr_reprD (hgd : X.A.guards = some []) (hu : X.A.units + 64 < cLine) : CallR X (.builtin "repr") (rReprD X.K) := by
  intro pins s σ H vs us Q I r h
  obtain ⟨a, d, rfl, hd, hs, hn, h60, hz, q⟩ := h
  rw [Vals.ref1 r]
  obtain ⟨as, rd⟩ := Dp.reads I d (.ref a) (.ref a) hd rfl
  exact repr_of_reads' rd hs (fun z => by rw [hn] at z; cases z) hgd (by omega) (fun _ _ e => e) (fun h' u tk kp => ⟨.str _, H, I.kept kp, ⟨u, rfl⟩, q⟩) hz
end
end HSP
namespace HSP
open PySem PySem.Spec PyProof.Rows L2
/-! ## the law's call, where nothing is being shown -/
section
variable {P : Program} {w : World} {K : PySem.W.Frag} {mg mb : Str → Option Value} {k : Nat} {fa a : Addr} {fd : FuncData} {x : Str} {sp : Sp} {s1 : Shared} {vs : List Value} {ns : List Int}
/-- from an abstract heap that tracks nothing but, perhaps, the script -/
theorem callG_core (kin : K.In s1.heap) (hns : s1.heap.Ns mainGlobals mg) (hb : s1.heap.Ns builtinsNs mb) (hbb : ∀ x : Str, x ≠ "__name__" → mb x = bootBuiltins x) (hlim : s1.heap.NoLimit) (hg : s1.gens = #[])
    (ha : s1.heap.get? a = some { cls := .type "list", data := .seq vs.toArray }) (hr : Room k callerA) (F : ∀ base : Heap, K.In base → base.Ns mainGlobals mg → FnG P w K mg base CX0 k fa fd [x] sp)
    (hbind : ∀ (s : Shared) (u : Value), BindsTo s fd ⟨[u], []⟩ [(x, u)]) (H : Hp) (hO : Only H) (hsp : sp [.ref a] H (fun v _ => v = .bl true) fun _ _ _ => False) (hok : HOk P w H s1.heap) (hA : ∀ b o, H b = some o → b = a) (hK : ∀ o, H a = some o → K.lookup a = none) :
    codeAny (model P w) callerA (.call (.ref fa) ⟨[.ref a], []⟩) (fun r s' => r = .ok (.ret (.bool true)) ∧ OldK s1.heap s'.heap ∧ s'.os = s1.os ∧ AllBare s'.gens) s1 := by
  -- no dict is tracked
  have free : ∀ {b : Addr} {o : Obj} {es : Array DictEntry} {ep : Nat}, s1.heap.get? b = some o → o.data = .dict es ep → H b = none := by
    intro b o es ep e d
    match q : H b with
    | none => rfl
    | some u =>
      rw [hA b u q, ha] at e
      cases e
      cases d
  have nsB : ∀ {b : Addr} {m : Str → Option Value}, s1.heap.Ns b m → (hidT s1.heap H).Ns b m := by
    intro b m h
    obtain ⟨o, es, ep, e, d, r⟩ := h
    exact ⟨o, es, ep, hidT_get e (free e d), d, r⟩
  have kinB : K.In (hidT s1.heap H) := by
    intro b o e
    refine hidT_get (kin b o e) ?_
    match q : H b with
    | none => rfl
    | some u =>
      have eb := hA b u q
      rw [eb] at e q
      rw [hK u q] at e
      cases e
  have md : Mod K mg (hidT s1.heap H) := by
    obtain ⟨mc, c1, c2⟩ := hlim
    exact ⟨kinB, nsB hns, ⟨mb, nsB hb, hbb⟩, mc, nsB c1, c2⟩
  have env : Env0 P w K mg (hidT s1.heap H) callerA [] s1 H := ⟨rfl, md, fun b o e => of_hidT e, Nat.le_of_eq (hidT_size _ _), trivial, (fun b z => by cases z), hok, .of_eq hg⟩
  refine codeAny_mono ((F _ kinB (nsB hns)).run callerA [] s1 H ⟨[.ref a], []⟩ [.ref a] [.ref a] _ _ rfl hr env (hbind s1 (.ref a)) (.cons rfl .nil) hsp) fun r s' h => ?_
  match r, h with
  | .error _, h => exact (show False from h).elim
  | .ok (.ret u), h =>
    obtain ⟨v, H', os, bare, un, hok', rv, q⟩ := h
    have q' : v = .bl true := q
    rw [q'] at rv
    have eu : u = Value.bool true := rv
    rw [eu]
    refine ⟨rfl, OldK.of_keep fun b o e => ?_, os, bare⟩
    match q : H b with
    | none => exact un.keep b o e q (fun z => by cases z) (fun z => by cases z)
    | some u =>
      rcases hO b with z | ⟨ob, xs, z⟩
      · rw [q] at z
        cases z
      · have b1 := (hok b _ z).1
        have b2 := (hok' b _ (un.frzs b ob _ z)).1
        rw [e] at b1
        cases b1
        exact b2
theorem law_callG (kin : K.In s1.heap) (hns : s1.heap.Ns mainGlobals mg) (hb : s1.heap.Ns builtinsNs mb) (hbb : ∀ x : Str, x ≠ "__name__" → mb x = bootBuiltins x) (hlim : s1.heap.NoLimit) (hg : s1.gens = #[])
    (ha : s1.heap.get? a = some { cls := .type "list", data := .seq vs.toArray }) (hi : IntsAre vs ns) (hl : ns.length ≤ sizeLine) (hr : Room k callerA) (F : ∀ base : Heap, K.In base → base.Ns mainGlobals mg → FnG P w K mg base CX0 k fa fd [x] sp)
    (hbind : ∀ (s : Shared) (u : Value), BindsTo s fd ⟨[u], []⟩ [(x, u)]) (hsp : ∀ H : Hp, Only H → SqL K H a (ns.map V.int) → sp [.ref a] H (fun v _ => v = .bl true) fun _ _ _ => False) :
    codeAny (model P w) callerA (.call (.ref fa) ⟨[.ref a], []⟩) (fun r s' => r = .ok (.ret (.bool true)) ∧ OldK s1.heap s'.heap ∧ s'.os = s1.os ∧ AllBare s'.gens) s1 := by
  have rv := vals_ints hi
  have le : vs.length = ns.length := hi.length
  match hk : K.lookup a with
  | some o =>
    have e := kin a o hk
    rw [ha] at e
    cases e
    refine callG_core kin hns hb hbb hlim hg ha hr F hbind (fun _ => none) (fun _ => .inl rfl) (hsp _ (fun _ => .inl rfl) ?_) (fun b u z => by cases z) (fun b o z => by cases z) (fun o z => by cases z)
    exact .inr ⟨_, vs.toArray, _, hk, rfl, rfl, rfl, by rw [List.size_toArray, le]; exact hl, by rw [List.toList_toArray]; exact rv⟩
  | none =>
    let H : Hp := fun b => if b = a then some (.frz { cls := .type "list", data := .seq vs.toArray } (.lst (ns.map V.int))) else none
    have at_a : H a = some (.frz { cls := .type "list", data := .seq vs.toArray } (.lst (ns.map V.int))) := if_pos rfl
    have off : ∀ b, b ≠ a → H b = none := fun b n => if_neg n
    have only : Only H := fun b => by
      by_cases c : b = a
      · rw [c]; exact .inr ⟨_, _, at_a⟩
      · exact .inl (off b c)
    refine callG_core kin hns hb hbb hlim hg ha hr F hbind H only (hsp H only (.inl (.inr ⟨_, at_a⟩))) (fun b u z => ?_) (fun b o z => ?_) (fun _ _ => hk)
    · by_cases c : b = a
      · rw [c] at z ⊢
        rw [at_a] at z
        cases z
        exact ⟨ha, by rw [List.length_map]; exact hl, vs, _, rv, ha⟩
      · rw [off b c] at z
        cases z
    · by_cases c : b = a
      · exact c
      · rw [off b c] at z
        cases z
end
/-- what the head leaves, from the law's promise -/
theorem walk_ofG {l : PySem.W.OpenLaw} {n k : Nat} {q : Program} {loose : List Str} {XP : (Str → Option Value) → Heap → Prop} {YP : World → Heap → Prop} {d : DefRec} {K : Params → PySem.W.Frag} {sp : World → Sp} {x : Str} (hn : l.most = some n) (hn2 : n ≤ sizeLine) (hdf : d.params.defaults = []) (hr : Room k callerA)
    (hY : ∀ (w : World) (h : Heap), YP w h → (K w.params).In h)
    (F : ∀ (w : World) (mg : Str → Option Value) (fa : Addr) (h : Heap), (K w.params).In h → h.Ns mainGlobals mg → mg d.name = some (.ref fa) → ∃ fd : FuncData, (∀ (s : Shared) (u : Value), BindsTo s fd ⟨[u], []⟩ [(x, u)]) ∧
        ∀ base : Heap, (K w.params).In base → base.Ns mainGlobals mg → FnG l.prog w (K w.params) mg base CX0 k fa fd [x] (sp w))
    (hsp : ∀ (w : World) (H : Hp) (a : Addr) (ns : List Int), ns.length ≤ n → Only H → SqL (K w.params) H a (ns.map V.int) → sp w [.ref a] H (fun v _ => v = .bl true) fun _ _ _ => False) : PySem.W.WalkO q loose XP YP l.row.toRowW d [] (fun f vs => PySem.call f vs) := by
  refine Att.attach_call hn hdf fun w s0 s1 mg mb fa o pm cd doc a vs ns G Y ho hd hcd hmg hobj hints hlen hg => ?_
  obtain ⟨fd, hbd, hF⟩ := F w mg fa _ (hY w _ Y) G.T.g hmg
  exact law_callG (hY w _ Y) G.T.g G.T.b G.T.builtins G.T.nolimit hg hobj hints (Nat.le_trans hlen hn2) hr hF hbd fun H hO hS => hsp w H a ns hlen hO hS
end HSP
namespace HSP
open PySem PySem.Spec PyProof.Rows L2
/-! ## how data are shown: lengths -/
theorem piled_le (c : Nat) : ∀ ds : List PyData, (∀ d, d ∈ ds → d.shown.length ≤ c) → piled (PyData.shownAll ds) ≤ ds.length * (c + 2)
  | [], _ => by simp [PyData.shownAll, piled_nil]
  | d :: ds, h => by
    have ih := piled_le c ds fun e he => h e (List.mem_cons_of_mem _ he)
    have h1 := h d List.mem_cons_self
    have e : PyData.shownAll (d :: ds) = d.shown :: PyData.shownAll ds := by simp [PyData.shownAll]
    rw [e, piled_cons, List.length_cons, Nat.add_mul]
    omega
theorem listText_le : ∀ ts : List Str, (listText ts).length ≤ piled ts + 2
  | [] => by decide +kernel
  | t :: r => by
    have e : listText (t :: r) = textFrom 1 (("[" : Str) ++ (if 0 > 0 then ", " else "" : String) ++ t) r ++ "]" := rfl
    rw [e, strLen_append, textFrom_length_pos _ _ _ (by decide), strLen_append, strLen_append, piled_cons]
    have e1 : (("[" : String) : Str).length = 1 := rfl
    have e2 : (("]" : String) : Str).length = 1 := rfl
    have e3 : ((if 0 > 0 then ", " else "" : String) : Str).length = 0 := rfl
    omega
theorem tupleText_le (ts : List Str) : (tupleText ts).length ≤ piled ts + 3 := by
  unfold tupleText
  rw [strLen_append, strLen_append]
  have e1 : (("(" : String) : Str).length = 1 := rfl
  have e2 : ((if ts.length == 1 then ",)" else ")" : String) : Str).length ≤ 2 := by
    split <;> decide +kernel
  have e3 : (Str.join ", " ts).length ≤ piled ts := by
    by_cases c : ts = []
    · rw [c]
      decide +kernel
    · have := join_length_add ts c
      omega
  omega
theorem shown_list_le (c : Nat) (ds : List PyData) (h : ∀ d, d ∈ ds → d.shown.length ≤ c) : (PyData.list ds).shown.length ≤ ds.length * (c + 2) + 2 := by
  have e : (PyData.list ds).shown = listText (PyData.shownAll ds) := by simp only [PyData.shown]
  rw [e]
  have h1 := listText_le (PyData.shownAll ds)
  have h2 := piled_le c ds h
  omega
/-! ### trees as data -/
def treeD : Tr → PyData
  | .nil => .none
  | .nod l r => .tuple [treeD l, treeD r]
theorem treeD_len : ∀ t : Tr, (treeD t).shown.length ≤ 11 * t.size + 4
  | .nil => by
    show (PyData.none).shown.length ≤ _
    simp only [PyData.shown]
    decide +kernel
  | .nod l r => by
    have h1 := treeD_len l
    have h2 := treeD_len r
    have e : (treeD (.nod l r)).shown = tupleText [(treeD l).shown, (treeD r).shown] := by
      show (PyData.tuple [treeD l, treeD r]).shown = _
      simp only [PyData.shown, PyData.shownAll]
    have z : (Tr.nod l r).size = l.size + 1 + r.size := rfl
    have h3 := tupleText_le [(treeD l).shown, (treeD r).shown]
    rw [piled_cons, piled_cons, piled_nil] at h3
    rw [e, z]
    omega
theorem treeD_show : ∀ t : Tr, (treeD t).showable = true
  | .nil => by simp only [treeD, PyData.showable]
  | .nod l r => by simp only [treeD, PyData.showable, PyData.showableAll, treeD_show l, treeD_show r, Bool.and_self]
theorem treeD_dict : ∀ t : Tr, (treeD t).hasDict = false
  | .nil => by simp only [treeD, PyData.hasDict]
  | .nod l r => by simp only [treeD, PyData.hasDict, PyData.hasDictAll, treeD_dict l, treeD_dict r, Bool.or_self]
theorem treeD_deep : ∀ t : Tr, (treeD t).depth ≤ t.ht
  | .nil => by simp only [treeD, PyData.depth]; exact Nat.zero_le _
  | .nod l r => by
    have h1 := treeD_deep l
    have h2 := treeD_deep r
    have e : (Tr.nod l r).ht = max l.ht r.ht + 1 := rfl
    simp only [treeD, PyData.depth, PyData.depthAll]
    omega
theorem TrAt.dp {K : PySem.W.Frag} {H : Hp} {v : V} {t : Tr} (h : TrAt H v t) : Dp K H v (treeD t) := by
  induction h with
  | nil => exact .non
  | nod eb _ _ ih1 ih2 => exact .tup (.of eb) (.cons ih1 (.cons ih2 .nil))
/-! ### lists of numbers -/
theorem ints_show : ∀ l : List Int, (∀ v, v ∈ l → v.natAbs.log2 < 1920) → PyData.showableAll (l.map PyData.int) = true
  | [], _ => by simp [PyData.showableAll]
  | z :: r, h => by
    have ih := ints_show r fun v hv => h v (List.mem_cons_of_mem _ hv)
    have h1 := h z List.mem_cons_self
    simp only [List.map_cons, PyData.showableAll, PyData.showable, ih, decide_eq_true h1, Bool.and_self]
theorem ints_dict : ∀ l : List Int, PyData.hasDictAll (l.map PyData.int) = false
  | [] => by simp [PyData.hasDictAll]
  | z :: r => by simp only [List.map_cons, PyData.hasDictAll, PyData.hasDict, ints_dict r, Bool.or_self]
theorem int_len {z : Int} (h : z.natAbs < 10 ^ 30) : (PyData.int z).shown.length ≤ 31 := by
  simp only [PyData.shown]
  rw [show (Str.ofString (toString z)).length = (toString z).length from PySem.ofString_length _]
  exact int_text_length_le10 (k := 30) (by decide) h
theorem int_log {z : Int} (h : z.natAbs < 10 ^ 30) : z.natAbs.log2 < 1920 := by
  by_cases c : z.natAbs = 0
  · rw [c]
    decide
  · exact (Nat.log2_lt c).mpr (Nat.lt_of_lt_of_le h (by decide +kernel))
/-- what repr and == ask of data -/
structure Fine (d : PyData) : Prop where
  show_ : d.showable = true
  dict : d.hasDict = false
  deep : d.depth ≤ 60
  len : d.shown.length ≤ sizeLine
/-- numbers that are not too great -/
def Tame (l : List Int) : Prop := ∀ v, v ∈ l → v.natAbs < 10 ^ 30
theorem intsD_len {l : List Int} (h : Tame l) : (intsD l).shown.length ≤ l.length * 33 + 2 := by
  have := shown_list_le 31 (l.map PyData.int) fun d hd => by
    obtain ⟨v, hv, rfl⟩ := List.mem_map.mp hd
    exact int_len (h v hv)
  rw [List.length_map] at this
  exact this
theorem ints_fine {l : List Int} (h : Tame l) (n : l.length ≤ 1000) : Fine (intsD l) := by
  have h1 := intsD_len h
  have h2 := ints_deep l
  refine ⟨?_, ?_, ?_, ?_⟩
  · unfold intsD
    simp only [PyData.showable]
    exact ints_show l fun v hv => int_log (h v hv)
  · unfold intsD
    simp only [PyData.hasDict]
    exact ints_dict l
  · unfold intsD
    simp only [PyData.depth]
    omega
  · have : sizeLine = 16777216 := rfl
    omega
/-- [d, e] -/
theorem pair_fine {d e : PyData} (hd : Fine d) (he : Fine e) (h1 : d.depth ≤ 59) (h2 : e.depth ≤ 59) (c : Nat) (l1 : d.shown.length ≤ c) (l2 : e.shown.length ≤ c) (hc : c ≤ 100000) : Fine (.list [d, e]) := by
  refine ⟨?_, ?_, ?_, ?_⟩
  · simp only [PyData.showable, PyData.showableAll, hd.show_, he.show_, Bool.and_self]
  · simp only [PyData.hasDict, PyData.hasDictAll, hd.dict, he.dict, Bool.or_self]
  · simp only [PyData.depth, PyData.depthAll]
    omega
  · have := shown_list_le c [d, e] fun x hx => by
      rcases List.mem_cons.mp hx with z | z
      · rw [z]; exact l1
      · rw [List.mem_singleton.mp z]; exact l2
    have e1 : [d, e].length = 2 := rfl
    rw [e1] at this
    have : sizeLine = 16777216 := rfl
    omega
theorem tree_fine {t : Tr} (h : t.size ≤ 100) (d : t.ht ≤ 40) : Fine (treeD t) := by
  have h1 := treeD_len t
  have h2 := treeD_deep t
  have : sizeLine = 16777216 := rfl
  exact ⟨treeD_show t, treeD_dict t, by omega, by omega⟩
/-- [tree, values] -/
def argsD (t : Tr) (ns : List Int) : PyData := .list [treeD t, intsD ns]
theorem args_fine {t : Tr} {ns : List Int} (h : t.size ≤ 20) (n : ns.length ≤ 20) (hn : Tame ns) : Fine (argsD t ns) := by
  have h1 := treeD_len t
  have h2 := treeD_deep t
  have h3 := t.ht_le
  have h4 := intsD_len hn
  have h5 : (intsD ns).depth ≤ 2 := by
    have := ints_deep ns
    unfold intsD
    simp only [PyData.depth]
    omega
  exact pair_fine (tree_fine (by omega) (by omega)) (ints_fine hn (by omega)) (by omega) (by omega) 1000 (by omega) (by omega) (by decide)
/-- numbers that the law may make of those drawn -/
def Mid (ns : List Int) : Prop := ∀ v, v ∈ ns → -10000000000000000000000 < v ∧ v < 10000000000000000000000
theorem Mid.tame {ns : List Int} (h : Mid ns) : Tame ns := fun v hv => by
  have := h v hv
  have e : (10 : Nat) ^ 30 = 1000000000000000000000000000000 := by decide +kernel
  rw [e]
  omega
theorem Mid.nil : Mid [] := fun _ h => by cases h
theorem Mid.snoc {ns : List Int} {v : Int} (h : Mid ns) (h1 : -10000000000000000000000 < v ∧ v < 10000000000000000000000) : Mid (ns ++ [v]) := fun x hx => by
  rcases List.mem_append.mp hx with z | z
  · exact h x z
  · rw [List.mem_singleton.mp z]
    exact h1
theorem Mid.set {ns : List Int} {v : Int} {i : Nat} (h : Mid ns) (h1 : -10000000000000000000000 < v ∧ v < 10000000000000000000000) : Mid (ns.set i v) := fun x hx => by
  rcases List.mem_or_eq_of_mem_set hx with z | z
  · exact h x z
  · rw [z]
    exact h1
theorem ints_can0 (l : List Int) : PyData.canLay0 (intsD l) = true := by
  unfold intsD
  simp only [PyData.canLay0]
  exact ints_can l
theorem args_dp {K : PySem.W.Frag} {H : Hp} {a b : Addr} {v : V} {t : Tr} {ns : List Int} (ha : H a = some (.lst [v, .ref b])) (hv : TrAt H v t) (hb : H b = some (.lst (ns.map V.int))) : Dp K H (.ref a) (argsD t ns) :=
  .lst (.of ha) (.cons hv.dp (.cons (.lst (.of hb) (ints_dpAll ns)) .nil))
end HSP
namespace HSP
open PySem PySem.Spec PyProof.Rows L2
/-! ## lists of texts as data -/
def ssD (l : List Str) : PyData := .list (l.map PyData.str)
theorem ss_dpAll {K : PySem.W.Frag} {H : Hp} : ∀ l : List Str, DpAll K H (l.map V.str) (l.map PyData.str)
  | [] => .nil
  | z :: r => .cons (.str z) (ss_dpAll r)
theorem ss_canAll : ∀ {l : List Str}, (∀ s, s ∈ l → PyData.strOk s = true) → PyData.canLayAll0 (l.map PyData.str) = true
  | [], _ => by simp [PyData.canLayAll0]
  | z :: r, h => by
    have ih := ss_canAll (l := r) fun s hs => h s (List.mem_cons_of_mem _ hs)
    have h1 := h z List.mem_cons_self
    simp only [List.map_cons, PyData.canLayAll0, PyData.canLay0, ih, h1, Bool.and_self]
theorem ss_can {l : List Str} (h : ∀ s, s ∈ l → PyData.strOk s = true) : PyData.canLay0 (ssD l) = true := by
  unfold ssD
  simp only [PyData.canLay0]
  exact ss_canAll h
theorem ss_deep : ∀ l : List Str, PyData.depthAll (l.map PyData.str) ≤ 1
  | [] => by simp [PyData.depthAll]
  | z :: r => by
    have ih := ss_deep r
    simp only [List.map_cons, PyData.depthAll, PyData.depth]
    omega
theorem ss_shaped {l : List Str} (h : ∀ s, s ∈ l → PyData.strOk s = true) : SeqAt.shaped (ssD l) = true := by
  unfold SeqAt.shaped
  rw [Bool.and_eq_true]
  refine ⟨ss_can h, decide_eq_true ?_⟩
  have := ss_deep l
  unfold ssD
  simp only [PyData.depth]
  omega
theorem ss_eqvAll : ∀ a b : List Str, PyData.eqvAll (a.map PyData.str) (b.map PyData.str) = decide (a = b)
  | [], [] => by simp [PyData.eqvAll]
  | [], y :: b => by simp [PyData.eqvAll]
  | x :: a, [] => by simp [PyData.eqvAll]
  | x :: a, y :: b => by
    have ih := ss_eqvAll a b
    simp only [List.map_cons, PyData.eqvAll, PyData.eqv, ih]
    by_cases c : x = y
    · subst c
      simp
    · simp [c]
theorem ss_eqv (a b : List Str) : PyData.eqv (ssD a) (ssD b) = decide (a = b) := by
  unfold ssD
  simp only [PyData.eqv]
  exact ss_eqvAll a b
end HSP
namespace HSP
open PySem PySem.Spec PyProof.Rows L2
/-! ## set(a list of ints) -/
/-- a set that was just made, as the world bears it -/
abbrev nSet (w : World) : Obj := { cls := .type "set", dict := none, data := .set #[] 0 (.fresh 0 0 (!w.params.followText "set-order")) }
abbrev nIt (l : Addr) : Obj := { cls := .type "list_iterator", data := .fields #[.ref l, .int 0 0] }
section
variable {P : Program} {w : World} {A : Around} {E : Value → Shared → Prop} {s : Shared}
/-- what the filling of the new set leaves -/
def Filled (w : World) (s : Shared) (ns : List Int) (v : Value) (s2 : Shared) : Prop :=
  v = .none ∧ ∃ (h2 : Heap) (tk c : Nat), s2 = { s with heap := h2, toks := tk } ∧ SetR w h2 s.heap.objs.size (fun j => decide (j ∈ ns)) c ∧ c ≤ ns.length ∧ ∀ b o, s.heap.get? b = some o → h2.get? b = some o
theorem setL_fill {l : Addr} {items : Array Value} {nl : Nat} {dd : Option Addr} {sl : Array (Option Value)} (ns : List Int) (hh : A.handled = none) (el : s.heap.get? l = some { cls := .type "list", dict := dd, data := .seq items nl, slots := sl }) (hi : IntsAre items.toList ns) (hb : ns.length + 1 < scanBound) :
    codeAny (model P w) A (.call (.builtin "set.__init__") ⟨[.ref s.heap.objs.size, .ref l], []⟩) (wants (Filled w s ns) E) { s with heap := s.heap.push (nSet w) } := by
  have many : items.size = ns.length := by rw [← Array.length_toList]; exact IntsAre.length hi
  have lS : l < s.heap.objs.size := Heap.lt_size el
  have sz : (s.heap.push (nSet w)).objs.size = s.heap.objs.size + 1 := Heap.size_push ..
  have gS : (s.heap.push (nSet w)).get? s.heap.objs.size = some (nSet w) := Heap.get?_push_size _ rfl
  have el1 := Heap.get?_push_of_some (nSet w) el
  have isL : (s.heap.push (nSet w)).IsList l items := ⟨_, el1, rfl, nl, rfl⟩
  refine codeAny_call_builtin F.called_set.init.plain F.entry_set_init (check_set_init_1 ⟨_, gS, rfl⟩ ?_)
  have t1 := F.sub_list_set
  have t2 := F.sub_list_frozenset
  have t3 : (Value.type "list" == Value.type "dict") = false := by decide
  unfold Builtin.«set.__init__» noKeywords Builtin.Frozenset.updateFrom
  generalize hPI : pyIter = PI
  wp_walk
  subst hPI
  refine wpAny_pyIter_list isL (wpAny_bind (wpAny_runValue ?_))
  have nlI : l ≠ (s.heap.push (nSet w)).objs.size := by rw [sz]; exact Nat.ne_of_lt (Nat.lt_succ_of_lt lS)
  have offS : s.heap.objs.size ∉ [(s.heap.push (nSet w)).objs.size, l] := fun z => by
    rw [sz] at z
    rcases List.mem_cons.mp z with z | z
    · exact absurd z (Nat.ne_of_lt (Nat.lt_succ_self _))
    · exact absurd (List.mem_singleton.mp z) (Nat.ne_of_gt lS)
  have vals : ∀ (i : Nat) (v : Value), items[i]? = some v → ∃ k t, ns[i]? = some k ∧ v = .int k t := fun i v hv => by
    have lt : i < ns.length := by rw [← many]; exact (Array.getElem?_eq_some_iff.mp hv).1
    obtain ⟨t, e⟩ := IntsAre.int_at hi i v (by rw [Array.getElem?_toList]; exact hv)
    have eg : ns.getD i 0 = ns[i] := by rw [List.getD_eq_getElem?_getD, List.getElem?_eq_getElem lt]; rfl
    exact ⟨ns[i], t, List.getElem?_eq_getElem lt, by rw [e, eg]⟩
  refine set_update_ints (Walks.list (A := A.in1.in1) (by simp [hh]) _ l nlI items).toS s.heap.objs.size offS ns many hb vals (items.size - 0) 0 _ rfl (Nat.zero_le _) ?st ?new fun s2 c hm hc hR => ?_
  case st => exact ⟨⟨_, Heap.get?_push_size _ rfl, rfl, rfl⟩, isL.push _⟩
  case new => exact ⟨0, Nat.le_refl 0, setR_new_at (w := w) (show ((s.heap.push (nSet w)).push (nIt l)).get? s.heap.objs.size = some (nSet w) from Heap.get?_push_of_some _ gS)⟩
  obtain ⟨h2, g2, d2, tk2, os2⟩ := s2
  obtain rfl : g2 = s.gens := hm.gens
  obtain rfl : d2 = s.drawn := hm.drawn
  obtain rfl : os2 = s.os := hm.os
  rw [many] at hc
  refine wpAny_pure (wpAny_pure ⟨rfl, h2, tk2, c, rfl, hR, hc, fun b o e => ?_⟩)
  have bS : b < s.heap.objs.size := Heap.lt_size e
  refine hm.heap b o (fun z => ?_) (Heap.get?_push_of_some _ (Heap.get?_push_of_some _ e))
  rcases List.mem_cons.mp z with z | z
  · exact absurd z (Nat.ne_of_lt bS)
  · have z' := List.mem_singleton.mp z
    rw [sz] at z'
    exact absurd z' (Nat.ne_of_lt (Nat.lt_succ_of_lt bS))
theorem setL_call {l : Addr} {items : Array Value} {nl : Nat} {dd : Option Addr} {sl : Array (Option Value)} (ns : List Int) {Q : Value → Shared → Prop} (hh : A.handled = none) (el : s.heap.get? l = some { cls := .type "list", dict := dd, data := .seq items nl, slots := sl }) (hi : IntsAre items.toList ns) (hb : ns.length + 1 < scanBound)
    (h : ∀ s2, Filled w s ns .none s2 → Q (.ref s.heap.objs.size) s2) : wpAny (model P w) A (call (.type "set") [.ref l]) Q E s := by
  obtain ⟨cl, tl, f1⟩ := F.called_set.mro
  have f2 := F.called_set.made
  have f3 := F.called_set.sub
  have f4 := F.called_set.notType
  have f5 := F.called_set.canCreate
  have f6 := F.typeCall_set_1 (.ref l)
  refine wpAny_call (codeAny_of_tree (show wpAny _ _ (callAny (.type "set") _) _ _ _ from wpAny_pure ⟨Code.quiet_builtin _ (by decide +kernel), codeAny_builtin F.entry_type_call ?_⟩))
  rw [Around.under_plain (weight_type_call_type "set" [.ref l] []) rfl]
  repeat any_goals (first | assumption | wp_step)
  refine codeAny_mono (code_set_led1 (.ref l) (E := E) (Q₁ := fun v s1 => v = .ref s.heap.objs.size ∧ s1 = { s with heap := s.heap.push (nSet w) }) ⟨rfl, rfl⟩) fun r s1 hr => ?_
  match r, hr with
  | .error _, hr => exact hr
  | .ok (.ret v), hr =>
    obtain ⟨e1, e2⟩ := hr
    subst e1 e2
    have f7 := F.called_set.init.lookup
    have f8 := F.called_set.init.bind (.ref s.heap.objs.size)
    have f9 : Shared.TypeIs { s with heap := s.heap.push (nSet w) } (.ref s.heap.objs.size) "set" := ⟨_, Heap.get?_push_size _ rfl, rfl⟩
    repeat any_goals (first | assumption | wp_step)
    refine codeAny_mono (setL_fill (E := E) (A := A.in1) ns (by simp [hh]) el hi hb) fun r2 s2 hr2 => ?_
    match r2, hr2 with
    | .error _, hr2 => exact hr2
    | .ok (.ret u), hr2 =>
      obtain ⟨e3, q⟩ := hr2
      subst e3
      repeat any_goals (first | assumption | wp_step)
      exact h _ ⟨rfl, q⟩
end
section
variable {X : Cx}
/-- set(a list of ints): its members, at most as many as there are items -/
def rSetInts (w : World) : List V → Hp → VK → Prop := fun vs H Q => ∃ (a : Addr) (ns : List Int), vs = [V.ref a] ∧ H a = some (.lst (ns.map V.int)) ∧ ns.length ≤ 1000 ∧
  ∀ (p : Addr) (c : Nat), H p = none → c ≤ ns.length → Q (.ref p) (upd H p (SetO w p (fun j => decide (j ∈ ns)) c))
theorem cr_setInts (hc : X.calm = true) : CallR X (.type "set") (rSetInts X.w) := by
  intro pins s σ H vs us Q I r h
  obtain ⟨a, ns, rfl, ha, hl, q⟩ := h
  rw [Vals.ref1 r]
  obtain ⟨z, its, n, rv, e⟩ : ObjOk X.prog X.w H s.heap a (.lst (ns.map V.int)) := I.hok a _ ha
  refine setL_call ns (I.ok.hd hc) e (ints_of_vals rv) (by unfold scanBound; omega) fun s2 hf => ?_
  obtain ⟨_, h2, tk, c, rfl, hR, hc2, kp⟩ := hf
  have hn : H s.heap.objs.size = none := I.hok.fresh (Nat.le_refl _)
  exact ⟨.ref _, _, I.laid kp (Nat.le_refl _) (setO_new hR), rfl, q _ c hn hc2⟩
end
end HSP
namespace HSP
open PySem PySem.Spec PyProof.Rows L2
/-! ## what the law draws from: a list of a number, a count, a mark -/
def DrAt (H : Hp) (p : Addr) (k : Nat) : Prop := ∃ (n : Int) (j : Nat) (b : Bool), H p = some (.lst [.int n, .int (j : Int), .bl b]) ∧ j ≤ k
theorem DrAt.mono {H : Hp} {p : Addr} {k k' : Nat} (d : DrAt H p k) (h : k ≤ k') : DrAt H p k' := by
  obtain ⟨n, j, b, e, l⟩ := d
  exact ⟨n, j, b, e, Nat.le_trans l h⟩
theorem DrAt.same {H H' : Hp} {p : Addr} {k : Nat} (d : DrAt H p k) (s : Same H H') : DrAt H' p k := by
  obtain ⟨n, j, b, e, l⟩ := d
  exact ⟨n, j, b, s _ _ e, l⟩
theorem DrAt.ne {H : Hp} {p q : Addr} {k : Nat} (d : DrAt H p k) (h : H q = none) : q ≠ p := by
  obtain ⟨n, j, b, e, l⟩ := d
  exact (ne_of_none e h).symm
theorem DrAt.tree {H H' : Hp} {p : Addr} {k : Nat} {v : V} {t : Tr} (d : DrAt H p k) (s : Keep p H H') (h : TrAt H v t) : TrAt H' v t := by
  obtain ⟨n, j, b, e, l⟩ := d
  exact s.tree e h
/-- any of the items, whichever place is read -/
theorem at_any {xs : List V} {C : V → Prop} (h : ∀ x, x ∈ xs → C x) {i : Int} (h0 : 0 ≤ i) (h1 : i < (xs.length : Int)) : ∃ v, atI xs i = some v ∧ C v := by
  have hk : i.toNat < xs.length := by omega
  have ei : i = ((i.toNat : Nat) : Int) := by omega
  exact ⟨xs[i.toNat], at_of ei (List.getElem?_eq_getElem hk), h _ (List.getElem_mem hk)⟩
theorem small_mod {a m : Int} (h0 : 0 < m) (h1 : m < 2 ^ 64) : -(2 ^ 64) < a % m ∧ a % m < 2 ^ 64 := by
  have q1 := Int.emod_nonneg a (show m ≠ 0 by omega)
  have q2 := Int.emod_lt_of_pos a h0
  constructor <;> omega
section
variable {P : Program} {w : World} {K : PySem.W.Frag} {mg : Str → Option Value} {base : Heap}
/-! ### _law_draws -/
theorem sc_law_draws : FnScope n_law_draws ["cell"] (defScope s_law_draws) := ⟨rfl, rfl, rfl, by decide +kernel, rfl, by decide +kernel, by decide +kernel⟩
def spDraws : Sp := fun vs H Q _ => ∃ c : Int, vs = [.int c] ∧ ∀ (H' : Hp) (p : Addr), Same H H' → H p = none → DrAt H' p 0 → Q (.ref p) H'
theorem ok_draws (B : Bl mg) (a : At K mg "_law_draws" s_law_draws) : Df P w K mg base "_law_draws" 1 ["cell"] spDraws := by
  refine Df.mk' a sc_law_draws (fun vs H Q E h => ?_) (fun _ _ _ _ _ _ us hl => match us, hl with | [_], _ => rfl) (fun f cdv A outer s H vs Q E hr h => ?_)
  · obtain ⟨c, rfl, _⟩ := h
    rfl
  obtain ⟨c, rfl, q⟩ := h
  refine ⟨_, (pss_one (ps_ret (pe_lst (pa_cons (pe_op op_mod (pe_callTy call_int1 (by rfl) B.int (by decide +kernel) (pa_cons (pv 0) pa_nil)) (pe_op op_powW (pe_op op_powW (pe_op op_powW pe_int pe_int) pe_int) pe_int)) (pa_cons pe_int (pa_cons (pe_cmpR op_ge (pv 0) (pe_op op_powW pe_int pe_int) (nomark _)) pa_nil)))))), ?_⟩
  refine ⟨_, rfl, .inl ⟨_, rfl, _, _, rfl, rfl, ⟨by decide, by decide +kernel⟩, _, _, rfl, rfl, ⟨by decide, by decide +kernel⟩, _, _, rfl, rfl, ⟨by decide, by decide +kernel⟩, _, _, rfl, rfl, ?_, ?_⟩⟩
  · exact Int.pow_pos (Int.pow_pos (Int.pow_pos (by decide)))
  refine ⟨_, rfl, _, _, rfl, rfl, ⟨by decide, by decide +kernel⟩, _, _, rfl, rfl, (by show 3 ≤ sizeLine; decide), fun p hp => ?_⟩
  exact q _ p (Same.new hp) hp ⟨_, 0, _, upd_same, Nat.le_refl _⟩
/-! ### _law_next -/
theorem sc_law_next : FnScope n_law_next ["draws"] (defScope s_law_next) := ⟨rfl, rfl, rfl, by decide +kernel, rfl, by decide +kernel, by decide +kernel⟩
def spNext : Sp := fun vs H Q _ => ∃ (p : Addr) (k : Nat), vs = [.ref p] ∧ DrAt H p k ∧ k ≤ 100000 ∧ ∀ (H' : Hp) (r : Int), Keep p H H' → DrAt H' p (k + 1) → 0 ≤ r → r < 2147483648 → Q (.int r) H'
theorem ok_next (B : Bl mg) (a : At K mg "_law_next" s_law_next) : Df P w K mg base "_law_next" 1 ["draws"] spNext := by
  refine Df.mk' a sc_law_next (fun vs H Q E h => ?_) (fun _ _ _ _ _ _ us hl => match us, hl with | [_], _ => rfl) (fun f cdv A outer s H vs Q E hr h => ?_)
  · obtain ⟨p, k, rfl, _⟩ := h
    rfl
  obtain ⟨p, k, rfl, ⟨n, j, b, e, hj⟩, hk, q⟩ := h
  refine ⟨_, (pss_cons (ps_asg (pe_op op_add (pe_ix ix_list (pv 0) pe_int (fun _ _ => rfl)) pe_int) (pg_sub (pv 0) pe_int set_list))
 (pss_cons (ps_set (i := 1) sc_law_next.nd rfl (.inl rfl) (pe_ix ix_list (pv 0) pe_int (fun _ _ => rfl)))
 (pss_cons (ps_if (pt_val (pe_ix ix_list (pv 0) pe_int (fun _ _ => rfl))) (pss_cons (ps_set (i := 2) sc_law_next.nd rfl (.inl rfl) (pe_op op_mod (pe_callTy call_int1 (by rfl) B.int (by decide +kernel) (pa_cons (pe_ix ix_list (pv 0) pe_int (fun _ _ => rfl)) pa_nil)) (pe_op op_powW pe_int pe_int)))
 (pss_cons (ps_asg (pe_op op_fdiv (pe_ix ix_list (pv 0) pe_int (fun _ _ => rfl)) (pe_op op_powW pe_int pe_int)) (pg_sub (pv 0) pe_int set_list))
 (pss_one (ps_ret (pv 2))))) pss_nil)
 (pss_cons (ps_set (i := 2) sc_law_next.nd rfl (.inl rfl) (pe_op op_mod (pe_callTy call_int1 (by rfl) B.int (by decide +kernel) (pa_cons (pe_op op_mul (pe_op op_add (pe_op op_add (pe_op op_mod (pe_callTy call_int1 (by rfl) B.int (by decide +kernel) (pa_cons (pe_ix ix_list (pv 0) pe_int (fun _ _ => rfl)) pa_nil)) pe_int) (pe_op op_mul (pe_op op_mul (pv 1) (pv 1)) pe_int)) (pv 1)) pe_int) pa_nil)) pe_int))
 (pss_cons (ps_set (i := 2) sc_law_next.nd rfl (.inl rfl) (pe_op op_mod (pe_callTy call_int1 (by rfl) B.int (by decide +kernel) (pa_cons (pe_op op_mul (pv 2) (pv 2)) pa_nil)) pe_int))
 (pss_one (ps_ret (pe_op op_fdiv (pe_op op_mod (pe_callTy call_int1 (by rfl) B.int (by decide +kernel) (pa_cons (pe_op op_mul (pv 2) (pe_op op_add (pv 2) pe_int)) pa_nil)) pe_int) pe_int)))))))), ?_⟩
  have e1 : (upd H p (.lst ([V.int n, .int (j : Int), .bl b].set 1 (.int ((j : Int) + 1))))) p = some (.lst [.int n, .int ((j + 1 : Nat) : Int), .bl b]) := by
    rw [upd_same]
    rfl
  refine ⟨_, rfl, p, _, _, _, rfl, rfl, .of e, atI_nat (j := 1) rfl, _, _, rfl, rfl, _, rfl, p, _, _, 1, rfl, rfl, e, rfl, ?_⟩
  have kp1 : Keep p H (upd H p (.lst ([V.int n, .int (j : Int), .bl b].set 1 (.int ((j : Int) + 1))))) := Keep.at
  generalize upd H p (.lst ([V.int n, .int (j : Int), .bl b].set 1 (.int ((j : Int) + 1)))) = H1 at e1 kp1 ⊢
  refine ⟨_, rfl, p, _, _, _, rfl, rfl, .of e1, atI_nat (j := 1) rfl, ?_⟩
  refine ⟨_, rfl, p, _, _, _, rfl, rfl, .of e1, atI_nat (j := 2) rfl, b, rfl, ?_⟩
  refine ite2 (fun c => ?_) (fun c => ?_)
  · refine ⟨_, rfl, p, _, _, _, rfl, rfl, .of e1, atI_nat (j := 0) rfl, .inl ⟨_, rfl, _, _, rfl, rfl, ⟨by decide, by decide +kernel⟩, _, _, rfl, rfl, Int.pow_pos (by decide), ?_⟩⟩
    refine ⟨_, rfl, p, _, _, _, rfl, rfl, .of e1, atI_nat (j := 0) rfl, _, _, rfl, rfl, ⟨by decide, by decide +kernel⟩, _, _, rfl, rfl, ⟨by decide, by decide⟩, _, rfl, p, _, _, 0, rfl, rfl, e1, rfl, ?_⟩
    refine ⟨_, rfl, q _ _ (kp1.trans Keep.at) ⟨_, j + 1, b, upd_same, by omega⟩ (Int.emod_nonneg _ (by decide)) ?_⟩
    have h6 : n % (1000000 : Int) < 1000000 := Int.emod_lt_of_pos n (by decide)
    exact Int.lt_trans h6 (by decide)
  · have k1 : -(2 ^ 64) < ((j + 1 : Nat) : Int) := by omega
    have k2 : ((j + 1 : Nat) : Int) < 2 ^ 64 := by omega
    refine ⟨_, rfl, p, _, _, _, rfl, rfl, .of e1, atI_nat (j := 0) rfl, .inl ⟨_, rfl, _, _, rfl, rfl, (by show (0 : Int) < 1000003; decide), _, rfl, _, rfl, _, _, rfl, rfl, .inl ⟨k1, k2⟩, _, _, rfl, rfl, .inr ⟨by decide, by decide⟩, _, _, rfl, rfl, _, rfl, _, _, rfl, rfl, _, _, rfl, rfl, .inr ⟨by decide, by decide⟩,
      .inl ⟨_, rfl, _, _, rfl, rfl, (by show (0 : Int) < 2147483629; decide), ?_⟩⟩⟩
    refine ⟨_, rfl, _, rfl, _, _, rfl, rfl, .inl (small_mod (by decide) (by decide)), .inl ⟨_, rfl, _, _, rfl, rfl, (by show (0 : Int) < 2147483587; decide), ?_⟩⟩
    refine ⟨_, rfl, _, rfl, _, _, rfl, rfl, _, _, rfl, rfl, .inl (small_mod (by decide) (by decide)), .inl ⟨_, rfl, _, _, rfl, rfl, (by show (0 : Int) < 2147483579; decide), _, _, rfl, rfl, ⟨by decide, by decide⟩, ?_⟩⟩
    refine q _ _ kp1 ⟨n, j + 1, b, e1, by omega⟩ (Int.ediv_nonneg (Int.emod_nonneg _ (by decide)) (by decide)) ?_
    exact Int.lt_of_le_of_lt (Int.ediv_le_self _ (Int.emod_nonneg _ (by decide))) (Int.lt_trans (Int.emod_lt_of_pos _ (by decide)) (by decide))
end
end HSP
namespace HSP
open PySem PySem.Spec PyProof.Rows L2
theorem DrAt.neOf {H : Hp} {p q : Addr} {k : Nat} {ns : List Int} (d : DrAt H p k) (e : H q = some (.lst (ns.map V.int))) : q ≠ p := fun z => by
  obtain ⟨n, j, b, e2, _⟩ := d
  rw [z, e2] at e
  have h := HO.lst.inj (Option.some.inj e)
  match ns, h with
  | [], h => exact absurd (congrArg List.length h) (by simp)
  | [_], h => exact absurd (congrArg List.length h) (by simp)
  | [_, _], h => exact absurd (congrArg List.length h) (by simp)
  | _ :: _ :: z :: _, h => exact absurd (congrArg (fun l => l[2]?) h) (by simp)
theorem DrAt.put {H : Hp} {p q : Addr} {k : Nat} {o : HO} (d : DrAt H p k) (n : q ≠ p) : DrAt (upd H q o) p k := by
  obtain ⟨z, j, b, e, l⟩ := d
  exact ⟨z, j, b, by rw [upd_ne n.symm]; exact e, l⟩
/-- a place that was not tracked at first may be written -/
theorem Keep.put {p q : Addr} {H H1 : Hp} {o : HO} (h : H q = none) (k : Keep p H H1) : Keep p H (upd H1 q o) := fun b u n e => by
  rw [upd_ne (ne_of_none e h)]
  exact k b u n e
/-- a value drawn is near 0 -/
def Near (ns : List Int) : Prop := ∀ v, v ∈ ns → -1000001 ≤ v ∧ v ≤ 1000001
theorem Near.nil : Near [] := fun _ h => by cases h
theorem Near.snoc {ns : List Int} {v : Int} (h : Near ns) (h1 : -1000001 ≤ v ∧ v ≤ 1000001) : Near (ns ++ [v]) := fun x hx => by
  rcases List.mem_append.mp hx with z | z
  · exact h x z
  · rw [List.mem_singleton.mp z]
    exact h1
theorem Near.set {ns : List Int} {v : Int} {i : Nat} (h : Near ns) (h1 : -1000001 ≤ v ∧ v ≤ 1000001) : Near (ns.set i v) := fun x hx => by
  rcases List.mem_or_eq_of_mem_set hx with z | z
  · exact h x z
  · rw [z]
    exact h1
theorem near_of {r sp : Int} (h0 : 0 ≤ sp) (h1 : sp ≤ 1000000) : -1000001 ≤ r % (sp + 1) - sp / 2 ∧ r % (sp + 1) - sp / 2 ≤ 1000001 := by
  have a1 := Int.emod_nonneg r (show sp + 1 ≠ 0 by omega)
  have a2 := Int.emod_lt_of_pos r (show (0 : Int) < sp + 1 by omega)
  omega
end HSP
set_option maxHeartbeats 2000000
namespace HSP
open PySem PySem.Spec PyProof.Rows L2
/-! ### try: body, except A as n: suite; the exception is kept -/
/-- what the clause wishes, the exception kept in the heap -/
def wKeep1 (K : PySem.W.Frag) (c1 : Value) (i : Nat) (ts : Addr → TS) (Wo : WX) (D : Ends) : WX := fun cls d σ H =>
  ∃ b, PySem.W.exmOne K cls c1 = some b ∧
    (b = true → ∀ a, H a = none → ts a ⟨fun τ G => D.nx (τ.set i none) G, D.rt, fun τ G => D.bk (τ.set i none) G, fun τ G => D.ct (τ.set i none) G⟩ (σ.set i (some (.ref a))) (upd H a (exK cls d a))) ∧ (b = false → Wo cls d σ H)
section
variable {X : Cx}
variable {x1 n : Str} {c1 : Value} {i : Nat} {body suite : List Stmt} {b₀ : Stmt} {p1 pos pos' : Pos} {tb : WX → TS} {ts : Addr → TS} {Wo : WX}
theorem ps_try_keep1 (stk : X.stack = X.env :: X.outer) (fr : X.env.frame = some X.env.locals) (nod : X.N.Nodup) (at_i : X.N[i]? = some n) (lc : X.env.kindOf n = some .local) (nm1 : Names X x1 c1) (out : Takes X Wo)
    (does : ∀ (W : WX) (pn : List (Addr × Obj)) (xe : Value → Shared → Prop), Takes (X.tr pn xe) W → PassesOwn (model X.prog X.w) X.A X.env xe → PSs (X.tr pn xe) body (tb W))
    (then_ : ∀ (e : Addr) (pn : List (Addr × Obj)), PSs (X.suite e pn) (b₀ :: suite) (ts e)) :
    PS X (.Try body [.ExceptHandler (some (.Name x1 p1)) (some n) (b₀ :: suite) pos'] [] [] pos) (fun D σ H => tb (wKeep1 X.K c1 i ts Wo D) D σ H) := by
  refine ⟨fun pins s σ H D I rd => ?_⟩
  have okX := I.ok
  have frs0 : X.A.frames = some (X.env :: X.outer) := okX.frames.trans (congrArg some stk)
  refine wpAny_Try_except ?_
  have run := (does (wKeep1 X.K c1 i ts Wo D) (X.pn ++ pins) (fun v z => wpAny (model X.prog X.w) X.A (noteFrame v X.env) (fun _ z2 => wpAny (model X.prog X.w) X.A (setFlight v none) (fun _ z3 =>
    wpAny (model X.prog X.w) X.A (handleBy v X.env [.ExceptHandler (some (.Name x1 p1)) (some n) (b₀ :: suite) pos']) (SP X pins D) X.xe z3) X.xe z2) X.xe z)
    (fun u z flown => ?caught) PassesOwn.looking).run [] s σ H D (I.toTry _) rd
  case caught =>
    obtain ⟨e, B, z0, pins', τ, G, cls, d, rfl, J0, nb, up0, sky0, ne, os0, bare0, b, hit, yes, no⟩ := flown
    have J := J0.ofTry okX
    rw [show (X.tr (X.pn ++ pins) _).stack = X.env :: X.outer from stk] at sky0
    refine Sky.land Zc.steady frs0 fr sky0 fun g fl upg => ?_
    have Jg := J.landed (s' := { z with heap := g }) nb fl.1 (up0.trans upg) os0 bare0
    obtain ⟨o3, v3, got3, z3, dat3⟩ := fl.there
    have off : ∀ {h : Heap} {o : Obj} {vs : Array Value}, h.FunFrames B (X.env :: X.outer) → h.get? e = some o → o.data = .fields vs → ¬ e ∈ frs (X.env :: X.outer) := fun {h o vs} ff ge dd m => by
      obtain ⟨_, o', ge', bad⟩ := ff.mem m
      rw [ge] at ge'
      cases ge'
      exact bad vs dd
    have none_of := off fl.2.2.1 got3 dat3
    have n1 : e ≠ X.env.locals := fun z => none_of (List.mem_filterMap.mpr ⟨X.env, List.mem_cons_self, fr.trans (congrArg some z.symm)⟩)
    have n2 : e ∉ X.fs := fun m => by
      obtain ⟨y, my, ey⟩ := List.mem_filterMap.mp m
      exact none_of (List.mem_filterMap.mpr ⟨y, List.mem_cons_of_mem _ my, ey⟩)
    have Sg := Jg.suite got3 dat3 ne n1 n2
    refine wpAny_handleBy_cons (codeAny_handlers_test ?_) (fun q => by cases q)
    refine ld_name (X := X.suite e ((e, o3) :: (X.pn ++ pins))) nm1 Sg ?_
    have looks : PySem.W.Looks (model X.prog X.w) g (typeOf (.ref e)) cls := fun _ _ _ _ k q => wpAny_typeOf_ref (k _ _ got3) (by rw [z3.1]; exact q)
    have hits := PySem.W.exm_one (M := model X.prog X.w) Jg.kIn looks hit
    refine hits.here ?_
    cases b with
    | true =>
      refine codeAny_handlers_suite_as ?_
      refine HandSPX.lands_againZ fl fun g4 fl4 up4 => ?_
      have J4 := J.landed (s' := { z with heap := g4 }) nb fl4.1 ((up0.trans upg).trans up4) os0 bare0
      obtain ⟨o4, v4, got4, z4, dat4⟩ := fl4.there
      have new0 : z0.heap.get? e = none := by
        cases q : z0.heap.get? e with
        | none => rfl
        | some o =>
          have := nb e o q (by rw [show (X.tr (X.pn ++ pins) _).stack = X.env :: X.outer from stk]; exact none_of)
          rw [fl.2.1] at this
          cases this
      have K4 := J.keptNew (s' := { z with heap := g4 }) nb fl4.1 ((up0.trans upg).trans up4) os0 bare0 new0 ne (exK_ok got4 z4 dat4)
      have S4 := K4.bareSuite e
      refine store_ok (X := X.suite e (X.pn ++ pins)) (v := .ref e) S4 nod at_i (.inl lc) rfl (fun z5 S5 => ?_) (.inr lc)
      refine wpAny_mono ((then_ e (X.pn ++ pins)).run [] z5 _ (upd G e (exK cls d e)) _ S5 (yes rfl e ne)) (fun fw z6 fin => ?_) (fun _ _ q => q.elim)
      have over : ∀ {τ6 : L2.St} {G6 : Hp} {Q : Shared → Prop}, L2.Inv (X.suite e (X.pn ++ pins)) [] τ6 G6 z6 → (∀ z7, L2.Inv X pins (τ6.set i none) G6 z7 → Q z7) → wpAny (model X.prog X.w) X.A (do bindName X.env n .none; unbindBehindTheSuite X.env n pos') (fun _ z7 => Q z7) X.xe z6 :=
        fun {τ6 G6 Q} S6 q => gone_ok (S6.offSuite okX) nod at_i lc q
      cases fw with
      | ret u =>
        obtain ⟨v6, τ6, G6, S6, r6, q6⟩ := fin
        exact over S6 fun z7 J7 => ⟨_, _, _, J7, r6, q6⟩
      | _ =>
        obtain ⟨τ6, G6, S6, q6⟩ := fin
        exact over S6 fun z7 J7 => ⟨_, _, J7, q6⟩
    | false =>
      show wpAny _ X.A (handleBy (.ref e) X.env []) _ _ _
      refine wpAny_handleBy_nil ?_
      obtain ⟨_, _, _, o5, v5, T, oT, w5, got5, _, dat5, tr5, _⟩ := id fl
      unfold PySem.passOn
      refine wpAny_bind (wpAny_field got5 dat5 tr5 ?_)
      rw [if_neg (by simp : ¬ ((Value.ref T == Value.none) = true))]
      have flies : wpAny (model X.prog X.w) X.A (setFlight (.ref e) X.env.frame) (fun _ z4 => wpAny (model X.prog X.w) X.A (throw (.ref e) : Sem Flow) (SP X pins D) X.xe z4) X.xe { z with heap := g } := by
        rw [fr]
        exact HandSPX.setFlight_upZ fl fun g4 held up4 => wpAny_throw (out _ _ ⟨e, B, z0, pins, τ, G, cls, d, rfl, J, nb, (up0.trans upg).trans up4, .inr (.inr (by rw [stk]; exact held)), ne, os0, bare0, no rfl⟩)
      first
        | exact wpAny_bind (wpAny_pure (wpAny_bind flies))
        | exact wpAny_bind flies
  refine wpAny_mono run (fun fw z6 fin => ?_) (fun v z6 q => q)
  cases fw with
  | next =>
    obtain ⟨τ, G, J, q⟩ := fin
    exact wpAny_execs_nil ⟨τ, G, J.ofTry okX, q⟩
  | ret u =>
    obtain ⟨v, τ, G, J, r, q⟩ := fin
    exact ⟨v, τ, G, J.ofTry okX, r, q⟩
  | _ =>
    obtain ⟨τ, G, J, q⟩ := fin
    exact ⟨τ, G, J.ofTry okX, q⟩
end
end HSP
namespace HSP
open PySem PySem.Spec PyProof.Rows L2
theorem rest_cut (x : Str) : TL.tl (if cutS x none (some 1) = ("-" : Str) then cutS x (some 1) none else x) = restL (TL.tl x) := by
  have e45 : TL.tl ("-" : Str) = [45] := by decide +kernel
  by_cases c : cutS x none (some 1) = ("-" : Str)
  · rw [if_pos c, cut_rest]
    have h := congrArg TL.tl c
    rw [cut_first, e45] at h
    cases hx : TL.tl x with
    | nil => rw [hx] at h; cases h
    | cons d r =>
      rw [hx] at h
      cases h
      rfl
  · rw [if_neg c]
    unfold restL
    split
    · rename_i r e
      refine absurd (TL.ext_tl ?_) c
      rw [cut_first, e, e45]
      rfl
    · rfl
section
variable {P : Program} {w : World} {K : PySem.W.Frag} {mg : Str → Option Value} {base : Heap}
theorem sc_law_number : FnScope n_law_number ["text"] (defScope s_law_number) := ⟨rfl, rfl, rfl, by decide +kernel, rfl, by decide +kernel, by decide +kernel⟩
def numV (x : Str) : V := if numT (TL.tl x) = true then .int ((intText? x).getD 0) else .non
def spLawNum : Sp := fun vs H Q _ => ∃ x : Str, vs = [.str x] ∧ x.length ≤ 640 ∧ ∀ H', Same H H' → Q (numV x) H'
theorem ok_lawNum (B : Bl mg) (a : At K mg "_law_number" s_law_number) : Df P w K mg base "_law_number" 1 ["text"] spLawNum := by
  refine Df.mk' a sc_law_number (fun vs H Q E h => ?_) (fun _ _ _ _ _ _ us hl => match us, hl with | [_], _ => rfl) (fun f cdv A outer s H vs Q E hr h => ?_)
  · obtain ⟨_, rfl, _⟩ := h
    rfl
  obtain ⟨x, rfl, hx, q⟩ := h
  refine ⟨_, (C8.pss_cut (ps_set (i := 1) sc_law_number.nd rfl (.inl rfl) (pe_ifExp (pt_cmpR op_eq (pe_slice sl_str (pv 0) po_none (po_some pe_int)) pe_str (nomark _)) (pe_slice sl_str (pv 0) (po_some pe_int) po_none) (pv 0)))
 (pss_cons (ps_if (PW.pt (pw_or (pt_cmpR op_eq (pv 1) pe_str (nomark _)) (pw_or1 (pt_cmpR (op_neN (Nat.lt_of_succ_lt (hu_of hr))) (pe_lc (own := [("sign", 2)]) (g := (gName 2)) (by rfl) sc_law_number.nd (pi_str (pv 1)) (blkOk_by (N := n_law_number) (sc := defScope s_law_number) (by decide +kernel)) (fun _ _ _ _ _ => (pg_name (i := 2) sc_law_number.nd rfl (.inl rfl))) (fun _ _ _ _ _ => (pts_one (pt_cmpR op_notIn_sign (pv 2) pe_str (by rfl)))) (fun _ _ _ _ _ => (pv 2))) (pe_lst pa_nil) (nomark _))))) (pss_one (ps_ret pe_non)) pss_nil)
 (pss_one (ps_ret (pe_ifExp (PW.pt (pw_and (pt_cmpR op_eq (pe_ix ix_str (pv 1) pe_int (fun _ _ => rfl)) pe_str (nomark _)) (pw_and1 (pt_cmpR op_ne (pv 0) pe_str (nomark _))))) pe_non (pe_callTy call_int_str (by rfl) B.int (by decide +kernel) (pa_cons (pv 0) pa_nil))))))), ?_⟩
  have line : sizeLine = 16777216 := rfl
  refine ⟨fun σ H' => ∃ d : Str, σ = [some (.str x), some (.str d), none] ∧ H' = H ∧ TL.tl d = restL (TL.tl x), ?_, fun σ H1 hX => ?_⟩
  · have rc := rest_cut x
    refine ⟨_, rfl, _, rfl, _, rfl, by omega, rfl, _, rfl, ?_⟩
    have e0 : decide (V.str (cutS x none (some 1)) = V.str ("-" : Str)) = decide (cutS x none (some 1) = ("-" : Str)) := decide_eq_decide.mpr ⟨fun h => V.str.inj h, fun h => congrArg V.str h⟩
    rw [e0]
    cases c : decide (cutS x none (some 1) = ("-" : Str)) with
    | true =>
      rw [if_pos (of_decide_eq_true c)] at rc
      exact iteT ⟨_, rfl, _, rfl, _, rfl, by omega, _, rfl, rfl, rc⟩
    | false =>
      rw [if_neg (of_decide_eq_false c)] at rc
      exact iteF ⟨_, rfl, _, rfl, rfl, rc⟩
  obtain ⟨d, rfl, rfl, ed⟩ := hX
  have nt : numT (TL.tl x) = (!(TL.tl d).isEmpty && (TL.tl d).all digB && (decide (TL.tl x = [48]) || !decide ((TL.tl d).head? = some 48))) := by
    rw [ed]
    rfl
  have ld : (TL.tl d).length ≤ 640 := by
    rw [ed]
    have h1 := restL_len (TL.tl x)
    have h2 := TL.len_tl x
    omega
  have none_ : ∀ {H'}, Same H1 H' → numT (TL.tl x) = false → Q .non H' := fun s h => by
    have := q _ s
    unfold numV at this
    rw [h] at this
    exact this
  refine ⟨_, rfl, rfl, _, rfl, ?_⟩
  rw [str_nil d]
  cases c1 : (TL.tl d).isEmpty with
  | true => exact iteT (none_ (Same.refl _) (by rw [nt, c1]; rfl))
  | false =>
    refine iteF ⟨_, rfl, _, rfl, fun L hL => ?_⟩
    refine lc_it walk_str (fun i H' => Same H1 H' ∧ H' L = some (.lst ((((TL.tl d).take i).filter fun c => !digB c).map fun c => V.str ⟨#[c]⟩))) ⟨Same.new hL, upd_same⟩ (fun _ _ _ _ => trivial) (fun i y H2 H3 hi h2 hy => ?_) (fun H2 h2 => ?_)
    · obtain ⟨s2, e2⟩ := h2
      obtain ⟨rfl, c, hc, rfl⟩ := hy
      have hc : (TL.tl d)[i]? = some c := by
        rw [← hc]
        exact Array.getElem?_toList
      refine ⟨rfl, ?_⟩
      refine ⟨_, rfl, c, _, rfl, rfl, _, rfl, ?_⟩
      have fl := List.length_filter_le (fun c => !digB c) ((TL.tl d).take i)
      rw [List.length_take] at fl
      rw [show decide (c ∈ ("0123456789" : Str).cps.toList) = digB c from dig_mem c, List.take_add_one, hc, List.filter_append]
      show if (!digB c) = true then _ else _
      have ef : (some c).toList.filter (fun c => !digB c) = if (!digB c) = true then [c] else [] := by
        show [c].filter _ = _
        rw [List.filter_cons]
        rfl
      rw [ef]
      cases c2 : !digB c with
      | true =>
        refine iteT ⟨_, rfl, _, e2, ?_, fun b o eb => ?_, ?_⟩
        · rw [List.length_map]
          omega
        · rw [upd_ne (ne_of_none eb hL)]
          exact s2 _ _ eb
        · rw [upd_same, if_pos rfl, List.map_append]
          rfl
      | false =>
        refine iteF ⟨s2, ?_⟩
        rw [if_neg (by decide), List.append_nil]
        exact e2
    · obtain ⟨s2, e2⟩ := h2
      rw [List.take_of_length_le (show (TL.tl d).length ≤ d.cps.size by rw [← TL.len_tl]; exact Nat.le_refl _)] at e2
      refine ⟨Nat.zero_le _, fun Z hZ => ?_⟩
      have sZ := Same.new (o := .lst []) hZ
      refine ⟨L, Z, _, rfl, rfl, .of (sZ _ _ e2), .of upd_same, _, rfl, ?_⟩
      have s3 := s2.trans sZ
      have ea : (!(((TL.tl d).filter fun c => !digB c).map fun c => V.str ⟨#[c]⟩).isEmpty) = !(TL.tl d).all digB := by
        congr 1
        rw [List.isEmpty_map, Bool.eq_iff_iff, List.isEmpty_iff, List.filter_eq_nil_iff, List.all_eq_true]
        refine forall_congr' fun c => forall_congr' fun _ => ?_
        cases digB c <;> decide
      rw [ea]
      cases c2 : (TL.tl d).all digB with
      | false => exact iteT (none_ s3 (by rw [nt, c1, c2]; rfl))
      | true =>
        refine iteF ?_
        generalize upd H2 Z (.lst []) = H4 at s3 ⊢
        have e48 : TL.tl ("0" : Str) = [48] := by decide +kernel
        have ex : (V.str x = V.str ("0" : Str)) ↔ TL.tl x = [48] := ⟨fun h => by rw [V.str.inj h, e48], fun h => congrArg V.str (TL.ext_tl (h.trans e48.symm))⟩
        have int_ : numT (TL.tl x) = true → ∃ n, intText? x = some n ∧ ∀ H', Same H1 H' → Q (.int n) H' := fun h => by
          obtain ⟨n, en, _⟩ := num_val h hx
          refine ⟨n, en, fun H' s => ?_⟩
          have := q H' s
          unfold numV at this
          rw [h, if_pos rfl, en] at this
          exact this
        obtain ⟨c0, r0, e0⟩ : ∃ c r, TL.tl d = c :: r := by
          cases h : TL.tl d with
          | nil => rw [h] at c1; cases c1
          | cons c r => exact ⟨c, r, rfl⟩
        have lz := TL.len_tl d
        refine ⟨_, rfl, d, 0, c0, rfl, rfl, by omega, (show atI (TL.tl d) 0 = some c0 by rw [e0]; exact atI_nat (j := 0) rfl), rfl, _, rfl, ?_⟩
        have ez : decide (V.str ⟨#[c0]⟩ = V.str ("0" : Str)) = decide (c0 = 48) := decide_eq_decide.mpr ⟨fun h => by
          have := congrArg TL.tl (V.str.inj h)
          rw [e48] at this
          exact (List.cons.inj this).1, fun h => congrArg V.str (TL.ext_tl (by rw [e48, h]))⟩
        rw [ez]
        have hd : decide ((TL.tl d).head? = some 48) = decide (c0 = 48) := by
          rw [e0]
          exact decide_eq_decide.mpr ⟨fun h => Option.some.inj h, fun h => congrArg some h⟩
        rw [c1, c2, hd] at nt
        cases c3 : decide (c0 = 48) with
        | false =>
          rw [c3] at nt
          obtain ⟨n, en, qn⟩ := int_ (by rw [nt]; cases decide (TL.tl x = [48]) <;> rfl)
          exact iteF ⟨_, rfl, x, n, rfl, en, hx, qn _ s3⟩
        | true =>
          refine iteT ⟨_, rfl, rfl, _, rfl, ?_⟩
          rw [c3] at nt
          rw [decide_eq_decide.mpr ex]
          cases c4 : decide (TL.tl x = [48]) with
          | true =>
            rw [c4] at nt
            obtain ⟨n, en, qn⟩ := int_ nt
            exact iteF ⟨_, rfl, x, n, rfl, en, hx, qn _ s3⟩
          | false =>
            rw [c4] at nt
            exact iteT (none_ s3 nt)
/-! ### _law_due -/
def resT (ls : List Str) : PyData := match badT ls with
  | none => .list [.str "told", .tuple [intsD (ls.map valT), ssD (ls.map fun l => strG (wordsT l) 2)]]
  | some i => .list [.str "raised", .int ((i + 1 : Nat) : Int)]
theorem lines_if {x : Str} {σ : L2.St} {H : Hp} {Q : VK} (h0 : σ[0]? = some (some (.str x))) (hx : x.length ≤ 600) (h : ∀ (L : Addr) (H1 : Hp), Same H H1 → H L = none → H1 L = some (.lst ((linesT x).map V.str)) → Q (.ref L) H1) :
    tIf (tTest (tOp rNe (tVar 0) (tC (V.str (Str.ofString ""))))) (tM1 (fun x xs H Q => ∃ a b, x = V.str a ∧ xs = [V.str b] ∧ (b.length == 0) = false ∧ a.length + 2 ≤ sizeLine ∧ rNewStrs (Txt.split a b) H Q) (tVar 0) (tC (V.str (Str.ofString "\n")))) (tLst tNil) σ H Q := by
  have line : sizeLine = 16777216 := rfl
  have e0 : decide (V.str x = V.str ("" : Str)) = decide (x = ("" : Str)) := decide_eq_decide.mpr ⟨fun h => V.str.inj h, fun h => congrArg V.str h⟩
  refine ⟨_, h0, rfl, _, rfl, ?_⟩
  rw [e0]
  cases c : decide (x = ("" : Str)) with
  | true =>
    refine iteF ⟨Nat.zero_le _, fun L hL => h L _ (Same.new hL) hL ?_⟩
    rw [upd_same]
    unfold linesT
    rw [if_pos (of_decide_eq_true c)]
    rfl
  | false =>
    refine iteT ⟨_, h0, ⟨_, rfl⟩, _, _, rfl, rfl, by decide +kernel, by omega, fun L hL => h L _ (Same.new hL) hL ?_⟩
    rw [upd_same]
    unfold linesT
    rw [if_neg (of_decide_eq_false c)]
theorem lines_few {x : Str} (hx : x.length ≤ 600) : (linesT x).length ≤ 601 ∧ ∀ l, l ∈ linesT x → l.length ≤ 600 := by
  unfold linesT
  by_cases c : x = ("" : Str)
  · rw [if_pos c]
    exact ⟨Nat.zero_le _, fun l h => nomatch h⟩
  · rw [if_neg c]
    have h1 := split_few (x := x) (y := ("\n" : Str)) (by decide +kernel)
    exact ⟨by omega, fun l h => by have := split_part h; omega⟩
theorem sc_law_due : FnScope n_law_due ["text"] (defScope s_law_due) := ⟨rfl, rfl, rfl, by decide +kernel, rfl, by decide +kernel, by decide +kernel⟩
def spDueT (K : PySem.W.Frag) : Sp := fun vs H Q _ => ∃ x : Str, vs = [.str x] ∧ x.length ≤ 600 ∧ ∀ (H' : Hp) (q : Addr), Same H H' → H q = none → Dp K H' (.ref q) (resT (linesT x)) → Q (.ref q) H'
theorem ok_dueT (B : Bl mg) (Nm : Df P w K mg base "_law_number" 1 ["text"] spLawNum) (a : At K mg "_law_due" s_law_due) : Df P w K mg base "_law_due" 2 ["text"] (spDueT K) := by
  refine Df.mk' a sc_law_due (fun vs H Q E h => ?_) (fun _ _ _ _ _ _ us hl => match us, hl with | [_], _ => rfl) (fun f cdv A outer s H vs Q E hr h => ?_)
  · obtain ⟨_, rfl, _⟩ := h
    rfl
  obtain ⟨x, rfl, hx, q⟩ := h
  refine ⟨_, (pss_cons (ps_set (i := 1) sc_law_due.nd rfl (.inl rfl) (pe_lst pa_nil))
 (pss_cons (ps_set (i := 2) sc_law_due.nd rfl (.inl rfl) (pe_lst pa_nil))
 (pss_cons (ps_for PassesOwn.never rfl (pi_enum (by rfl) B.enumerate (pa_cons (pe_ifExp (pt_cmpR op_ne (pv 0) pe_str (nomark _)) (pe_split (pv 0) pe_str) (pe_lst pa_nil)) pa_nil)) (pg_tup rfl (pgs_cons (pg_name (i := 3) sc_law_due.nd rfl (.inl rfl)) (pgs_cons (pg_name (i := 4) sc_law_due.nd rfl (.inl rfl)) pgs_nil))) (pss_cons (ps_set (i := 5) sc_law_due.nd rfl (.inl rfl) (pe_split (pv 4) pe_str))
 (pss_cons (ps_if (PW.pt (pw_or (pt_cmpR op_ne (pe_callB call_len_seq (by rfl) B.len PySem.boot_len (pa_cons (pv 5) pa_nil)) pe_int (nomark _)) (pw_or (pt_cmpR op_ne (pe_ix ix_list (pv 5) pe_int (fun _ _ => rfl)) (pe_callTy call_str_int (by rfl) B.str (by decide +kernel) (pa_cons (pv 3) pa_nil)) (nomark _)) (pw_or1 (pt_cmpR op_isN (pe_df Nm hr (pa_cons (pe_ix ix_list (pv 5) pe_int (fun _ _ => rfl)) pa_nil)) pe_non (nomark _)))))) (pss_one (ps_ret (pe_lst (pa_cons pe_str (pa_cons (pe_op op_add (pv 3) pe_int) pa_nil))))) pss_nil)
 (pss_cons (ps_if (pt_cmpR op_notIn_seq (pe_ix ix_list (pv 5) pe_int (fun _ _ => rfl)) (pe_lst (pa_cons pe_str (pa_cons pe_str (pa_cons pe_str (pa_cons pe_str pa_nil))))) (by rfl)) (pss_one (ps_ret (pe_lst (pa_cons pe_str (pa_cons (pe_op op_add (pv 3) pe_int) pa_nil))))) pss_nil)
 (pss_cons (ps_expr (pe_bm PySem.F.plainAttrs_list PySem.F.slot_list_append PySem.F.type_list_append mt_append (pv 1) (pa_cons (pe_df Nm hr (pa_cons (pe_ix ix_list (pv 5) pe_int (fun _ _ => rfl)) pa_nil)) pa_nil)))
 (pss_one (ps_expr (pe_bm PySem.F.plainAttrs_list PySem.F.slot_list_append PySem.F.type_list_append mt_append (pv 2) (pa_cons (pe_ix ix_list (pv 5) pe_int (fun _ _ => rfl)) pa_nil)))))))))
 (pss_one (ps_ret (pe_lst (pa_cons pe_str (pa_cons (pe_tup (pa_cons (pv 1) (pa_cons (pv 2) pa_nil))) pa_nil)))))))), ?_⟩
  have line : sizeLine = 16777216 := rfl
  refine ⟨Nat.zero_le _, fun A1 hA1 => ?_⟩
  have sA := Same.new (o := .lst []) hA1
  have eA : (upd H A1 (.lst [])) A1 = some (.lst (([] : List Int).map V.int)) := upd_same
  generalize upd H A1 (.lst []) = HA at sA eA ⊢
  refine ⟨Nat.zero_le _, fun B1 hB1 => ?_⟩
  have sB := Same.new (o := .lst []) hB1
  have eB : (upd HA B1 (.lst [])) B1 = some (.lst (([] : List Str).map V.str)) := upd_same
  have eA2 := sB _ _ eA
  have nAB : A1 ≠ B1 := ne_of_none eA hB1
  have nB0 : H B1 = none := sA.free hB1
  have sAB := sA.trans sB
  generalize upd HA B1 (.lst []) = HB at sB eB eA2 sAB ⊢
  obtain ⟨ln1, ln2⟩ := lines_few hx
  refine lines_if (x := x) rfl hx fun L H1 s1 nL eL => ?_
  have nLA : L ≠ A1 := fun z => by rw [z, eA2] at nL; cases nL
  have nLB : L ≠ B1 := fun z => by rw [z, eB] at nL; cases nL
  have eA3 := s1 _ _ eA2
  have eB3 := s1 _ _ eB
  generalize linesT x = ls at q eL ln1 ln2
  refine ⟨L, _, rfl, .of eL, for_it (walk_enum (K := K) (a := L) (xs := ls.map V.str)) (fun i σ H' => (∃ y3 y4 y5 : Option V, σ = [some (.str x), some (.ref A1), some (.ref B1), y3, y4, y5]) ∧ Stay [A1, B1] H1 H' ∧ (∀ j, j < i → okT ls j = true) ∧ H' A1 = some (.lst (((ls.take i).map valT).map V.int)) ∧ H' B1 = some (.lst (((ls.take i).map fun l => strG (wordsT l) 2).map V.str))) ⟨⟨_, _, _, rfl⟩, .refl _ _, fun _ h => absurd h (Nat.not_lt_zero _), eA3, eB3⟩ (fun i σ H' _ h' => .of (h'.2.1 _ _ (no2 nLA nLB) eL)) (fun i y σ H2 H3 hi h2 hy => ?_) (fun σ H2 h2 => ?_)⟩
  · obtain ⟨⟨y4, y5, y6, rfl⟩, st, ok, eA4, eB4⟩ := h2
    obtain ⟨T, x1, x2, rfl, nT, rfl, g1, g2⟩ := hy
    rw [List.length_map] at hi
    have g2 : (ls.map V.str)[i]? = some x2 := g2
    rw [List.getElem?_map, List.getElem?_eq_getElem hi] at g2
    cases g2
    cases (show some (V.int ((i : Nat) : Int)) = some x1 from g1)
    have hl : ls[i]? = some ls[i] := List.getElem?_eq_getElem hi
    have hg : strG ls i = ls[i] := by
      unfold strG
      rw [List.getD_eq_getElem?_getD, hl]
      rfl
    have l6 := ln2 _ (List.getElem_mem hi)
    generalize ls[i] = l at hl hg l6
    have sT := Same.new (o := .tup [V.int ((i : Nat) : Int), V.str l]) nT
    have eT : (upd H2 T (.tup [V.int ((i : Nat) : Int), V.str l])) T = some (.tup [V.int ((i : Nat) : Int), V.str l]) := upd_same
    have eA5 := sT _ _ eA4
    have eB5 := sT _ _ eB4
    have st3 := st.then sT
    generalize upd H2 T (.tup [V.int ((i : Nat) : Int), V.str l]) = H3 at eT eA5 eB5 st3 ⊢
    refine ⟨T, _, rfl, .of eT, rfl, _, _, rfl, _, [], rfl, rfl, ?_⟩
    refine ⟨_, rfl, ⟨_, rfl⟩, _, _, rfl, rfl, by decide +kernel, by omega, fun W hW => ?_⟩
    have sW := Same.new (o := .lst ((Txt.split l (" " : Str)).map V.str)) hW
    have eW : (upd H3 W (.lst ((Txt.split l (" " : Str)).map V.str))) W = some (.lst ((wordsT l).map V.str)) := upd_same
    have eA6 := sW _ _ eA5
    have eB6 := sW _ _ eB5
    have st4 := st3.then sW
    generalize upd H3 W (.lst ((Txt.split l (" " : Str)).map V.str)) = H4 at eW eA6 eB6 st4 ⊢
    have wl : ∀ s, s ∈ wordsT l → s.length ≤ 600 := fun s hs => Nat.le_trans (split_part hs) l6
    have sH : Same H H4 := Stay.same (X := [A1, B1]) (sAB.trans s1) (fun y hy => by
      rcases List.mem_cons.mp hy with z | z
      · exact z ▸ hA1
      · exact (List.mem_singleton.mp z) ▸ nB0) st4
    have ek : okT ls i = lineOk (wordsT l) i := by
      unfold okT
      rw [hg]
    have fail : ∀ {H'}, Same H4 H' → lineOk (wordsT l) i = false → ∀ R, H' R = none → Q (.ref R) (upd H' R (.lst [V.str "raised", V.int ((i : Int) + 1)])) := fun {H'} s c R hR => by
      have eb : badT ls = some i := by
        unfold badT
        exact List.find?_range_eq_some.mpr ⟨by rw [ek, c]; rfl, List.mem_range.mpr hi, fun j hj => by rw [ok j hj]; rfl⟩
      have sR := Same.new (o := .lst [V.str "raised", V.int ((i : Int) + 1)]) hR
      refine q _ R ((sH.trans s).trans sR) ((sH.trans s).free hR) ?_
      unfold resT
      rw [eb]
      exact .lst (.of upd_same) (.cons (.str _) (.cons (.int _) .nil))
    have big : ((i : Nat) : Int).natAbs.log2 < 1920 := by
      show i.log2 < 1920
      by_cases c : i = 0
      · rw [c]; decide
      · exact (Nat.log2_lt c).mpr (Nat.lt_of_lt_of_le (show i < 1024 by omega) (Nat.pow_le_pow_right (n := 2) (by decide) (show 10 ≤ 1920 by decide)))
    refine ⟨_, rfl, W, _, rfl, .inl (.of eW), rfl, _, rfl, ?_⟩
    have e3 : decide (V.int ((((wordsT l).map V.str).length : Nat) : Int) = V.int 3) = decide ((wordsT l).length = 3) := by
      rw [List.length_map, Bool.eq_iff_iff, decide_eq_true_iff, decide_eq_true_iff]
      exact ⟨fun h => by have := V.int.inj h; omega, fun h => by rw [h]; rfl⟩
    rw [e3]
    have two : 2 ≤ sizeLine := by show 2 ≤ sizeLine; decide
    unfold lineOk at fail
    cases c1 : decide ((wordsT l).length = 3) with
    | false => exact iteT ⟨_, rfl, _, _, rfl, rfl, two, fun R hR => fail (Same.refl _) (by rw [c1]; rfl) R hR⟩
    | true =>
      have l3 := of_decide_eq_true c1
      have at_ : ∀ k, k < 3 → ((wordsT l).map V.str)[k]? = some (V.str (strG (wordsT l) k)) := fun k hk => by
        unfold strG
        rw [List.getElem?_map, List.getD_eq_getElem?_getD, List.getElem?_eq_getElem (by omega)]
        rfl
      have lw : (strG (wordsT l) 1).length ≤ 640 := by
        unfold strG
        rw [List.getD_eq_getElem?_getD, List.getElem?_eq_getElem (by omega)]
        have := wl _ (List.getElem_mem (show 1 < (wordsT l).length by omega))
        show (wordsT l)[1].length ≤ 640
        omega
      refine iteF ⟨_, rfl, W, _, _, _, rfl, rfl, .of eW, atI_nat (j := 0) (at_ 0 (by decide)), _, rfl, _, rfl, big, rfl, _, rfl, ?_⟩
      have e4 : decide (V.str (strG (wordsT l) 0) = V.str (Str.ofString (toString ((i : Nat) : Int)))) = decide (strG (wordsT l) 0 = numS i) := decide_eq_decide.mpr ⟨fun h => V.str.inj h, fun h => congrArg V.str h⟩
      rw [e4]
      cases c2 : decide (strG (wordsT l) 0 = numS i) with
      | false => exact iteT ⟨_, rfl, _, _, rfl, rfl, two, fun R hR => fail (Same.refl _) (by rw [c1, c2]; rfl) R hR⟩
      | true =>
        refine iteF ⟨_, rfl, W, _, _, _, rfl, rfl, .of eW, atI_nat (j := 1) (at_ 1 (by decide)), strG (wordsT l) 1, rfl, lw, fun H5 s5 => ⟨rfl, _, rfl, ?_⟩⟩
        cases c3 : numT (TL.tl (strG (wordsT l) 1)) with
        | false =>
          have en : decide (numV (strG (wordsT l) 1) = V.non) = true := by
            unfold numV
            rw [c3]
            rfl
          rw [en]
          exact iteT ⟨_, rfl, _, _, rfl, rfl, two, fun R hR => fail s5 (by rw [c1, c2, c3]; rfl) R hR⟩
        | true =>
          obtain ⟨n, en, _⟩ := num_val c3 lw
          have env : numV (strG (wordsT l) 1) = V.int n := by
            unfold numV
            rw [c3, if_pos rfl, en]
            rfl
          have ev : valT l = n := by
            unfold valT
            rw [en]
            rfl
          rw [env, decide_eq_false (fun z => nomatch z)]
          have eW5 := s5 _ _ eW
          refine iteF ⟨_, rfl, W, _, _, _, rfl, rfl, .of eW5, atI_nat (j := 2) (at_ 2 (by decide)), (by show 4 ≤ sizeLine; decide), fun Z hZ => ?_⟩
          have sZ := Same.new (o := .lst [V.str "dead", V.str "found", V.str "high", V.str "low"]) hZ
          have eZ : (upd H5 Z (.lst [V.str "dead", V.str "found", V.str "high", V.str "low"])) Z = some (.lst (labelL.map V.str)) := upd_same
          have eW6 := sZ _ _ eW5
          have eA7 := sZ _ _ (s5 _ _ eA6)
          have eB7 := sZ _ _ (s5 _ _ eB6)
          have st6 := (st4.then s5).then sZ
          have s6 := s5.trans sZ
          generalize upd H5 Z (.lst [V.str "dead", V.str "found", V.str "high", V.str "low"]) = H6 at eZ eW6 eA7 eB7 st6 s6 ⊢
          refine ⟨Z, _, rfl, .inl (.of eZ), rfl, by decide, _, rfl, ?_⟩
          rw [if_pos rfl, in_strs]
          cases c4 : decide (strG (wordsT l) 2 ∈ labelL) with
          | false => exact iteT ⟨_, rfl, _, _, rfl, rfl, two, fun R hR => fail s6 (by rw [c1, c2, c3, c4]; rfl) R hR⟩
          | true =>
            refine iteF ⟨_, rfl, .inl ⟨rfl, _, .of eA7⟩, _, rfl, W, _, _, _, rfl, rfl, .of eW6, atI_nat (j := 1) (at_ 1 (by decide)), strG (wordsT l) 1, rfl, lw, fun H7 s7 => ?_⟩
            have nWA : W ≠ A1 := (ne_of_none eA5 hW).symm
            have nWB : W ≠ B1 := (ne_of_none eB5 hW).symm
            rw [env]
            refine ⟨A1, _, _, rfl, rfl, s7 _ _ eA7, ?_, ?_⟩
            · rw [List.length_map, List.length_map, List.length_take]
              exact small1000 (by omega)
            have eB8 : (upd H7 A1 (.lst (((ls.take i).map valT).map V.int ++ [V.int n]))) B1 = some (.lst (((ls.take i).map fun l => strG (wordsT l) 2).map V.str)) := by
              rw [upd_ne nAB.symm]
              exact s7 _ _ eB7
            refine ⟨_, rfl, .inl ⟨rfl, _, .of eB8⟩, _, rfl, W, _, _, _, rfl, rfl, .of ((upd_ne nWA).trans (s7 _ _ eW6)), atI_nat (j := 2) (at_ 2 (by decide)), B1, _, _, rfl, rfl, eB8, ?_, ?_⟩
            · rw [List.length_map, List.length_map, List.length_take]
              exact small1000 (by omega)
            refine ⟨⟨_, _, _, rfl⟩, ((st6.then s7).put (List.mem_cons_self)).put (List.mem_cons_of_mem _ List.mem_cons_self), fun j hj => ?_, ?_, ?_⟩
            · by_cases d : j = i
              · rw [d, ek]
                unfold lineOk
                rw [c1, c2, c3, c4]
                rfl
              · exact ok j (by omega)
            · rw [upd_ne nAB, upd_same, List.take_add_one, hl, List.map_append, List.map_append]
              show _ = some (HO.lst (_ ++ [V.int (valT l)]))
              rw [ev]
            · rw [upd_same, List.take_add_one, hl, List.map_append, List.map_append]
              rfl
  · obtain ⟨⟨y4, y5, y6, rfl⟩, st, ok, eA4, eB4⟩ := h2
    rw [List.length_map] at ok eA4 eB4
    rw [List.take_length] at eA4 eB4
    have sH : Same H H2 := Stay.same (X := [A1, B1]) (sAB.trans s1) (fun y hy => by
      rcases List.mem_cons.mp hy with z | z
      · exact z ▸ hA1
      · exact (List.mem_singleton.mp z) ▸ nB0) st
    have eb : badT ls = none := by
      unfold badT
      rw [List.find?_eq_none]
      intro j hj z
      rw [ok j (List.mem_range.mp hj)] at z
      cases z
    refine ⟨_, rfl, _, rfl, (by show 2 ≤ sizeLine; decide), fun R hR => ?_⟩
    have sR := Same.new (o := .tup [V.ref A1, V.ref B1]) hR
    refine ⟨(by show 2 ≤ sizeLine; decide), fun Z hZ => ?_⟩
    have sZ := Same.new (o := .lst [V.str "told", V.ref R]) hZ
    refine q _ Z (sH.trans (sR.trans sZ)) (sH.free (sR.free hZ)) ?_
    unfold resT
    rw [eb]
    exact .lst (.of upd_same) (.cons (.str _) (.cons (.tup (.of (sZ _ _ upd_same)) (.cons (.lst (.of (sZ _ _ (sR _ _ eA4))) (ints_dpAll _)) (.cons (.lst (.of (sZ _ _ (sR _ _ eB4))) (ss_dpAll _)) .nil))) .nil))
end
end HSP
namespace HSP
open PySem PySem.Spec PyProof.Rows L2
section
variable {P : Program} {w : World} {K : PySem.W.Frag} {mg : Str → Option Value} {base : Heap}
/-! ### _law_told -/
/-- what the law asks of the class -/
structure OneT (K : PySem.W.Frag) (mg : Str → Option Value) (C : Addr) : Prop where
  g : mg "InvalidText" = some (.ref C)
  x : PySem.W.exmOne K (.ref C) (.ref C) = some true
  e : ExcC K C
  f : XfC K C
  n : PySem.W.findIn K (.ref C) "line" = some none
  v : PySem.W.kitOne K (.ref C) (.type "ValueError") = some true
theorem sc_law_told : FnScope n_law_told ["text"] (defScope s_law_told) := ⟨rfl, rfl, rfl, by decide +kernel, rfl, by decide +kernel, by decide +kernel⟩
theorem ok_toldT {C : Addr} (B : Bl mg) (Ve : mg "ValueError" = none) (T : OneT K mg C) (Pa : DfX P w K mg base "parse_list" 3 ["text"] (spParse C)) (a : At K mg "_law_told" s_law_told) : Df P w K mg base "_law_told" 4 ["text"] (spDueT K) := by
  refine Df.mk' a sc_law_told (fun vs H Q E h => ?_) (fun _ _ _ _ _ _ us hl => match us, hl with | [_], _ => rfl) (fun f cdv A outer s H vs Q E hr h => ?_)
  · obtain ⟨_, rfl, _⟩ := h
    rfl
  obtain ⟨x, rfl, hx, q⟩ := h
  have two : 2 ≤ sizeLine := by show 2 ≤ sizeLine; decide
  refine ⟨_, (pss_cons (ps_set (i := 1) sc_law_told.nd rfl (.inl rfl) pe_non)
 (pss_cons (ps_set (i := 2) sc_law_told.nd rfl (.inl rfl) pe_non)
 (pss_cons (ps_try_keep1 (i := 3) rfl rfl sc_law_told.nd rfl rfl ⟨rfl, by decide, .inl T.g⟩ takes0 (fun W pn xe tk _ => (pss_one (ps_set (i := 2) sc_law_told.nd rfl (.inl rfl) (pe_dfX Pa hr tk (pa_cons (pv 0) pa_nil))))) (fun e pn => (pss_one (ps_set (i := 1) sc_law_told.nd rfl (.inl rfl) (pv 3)))))
 (pss_cons (ps_if (pt_cmpR op_isN (pv 1) pe_non (nomark _)) (pss_one (ps_ret (pe_lst (pa_cons pe_str (pa_cons (pv 2) pa_nil))))) pss_nil)
 (pss_one (ps_ret (pe_ifExp (pt_val (pe_callB call_isK (by rfl) B.isinstance (by decide +kernel) (pa_cons (pv 1) (pa_cons (pe_bltn (v := .ty "ValueError") (by rfl) Ve (by decide +kernel) rfl) pa_nil)))) (pe_lst (pa_cons pe_str (pa_cons (pe_xfK (pv 1)) pa_nil))) (pe_lst (pa_cons pe_str pa_nil))))))))), ?_⟩
  refine ⟨_, rfl, x, rfl, hx, fun eb H1 r a b s1 nr na nb er ea ebb => ?_, fun i eb H1 dd s1 e1 => ?_⟩
  · refine ⟨_, rfl, rfl, _, rfl, ?_⟩
    refine iteT ⟨_, rfl, two, fun R nR => ?_⟩
    have sR := Same.new (o := .lst [V.str "told", V.ref r]) nR
    refine q _ R (s1.trans sR) (s1.free nR) ?_
    unfold resT
    rw [eb]
    exact .lst (.of upd_same) (.cons (.str _) (.cons (.tup (.of (sR _ _ er)) (.cons (.lst (.of (sR _ _ ea)) (ints_dpAll _)) (.cons (.lst (.of (sR _ _ ebb)) (ss_dpAll _)) .nil))) .nil))
  · refine ⟨true, T.x, fun _ e ne => ?_, fun z => nomatch z⟩
    have se := Same.new (o := exK (.ref C) (some dd) e) ne
    have s2 := s1.trans se
    have e2 := se _ _ e1
    refine ⟨_, rfl, ?_⟩
    refine ⟨_, rfl, rfl, _, rfl, iteF ?_⟩
    refine ⟨_, rfl, e, C, _, _, true, rfl, ⟨some dd, upd_same, fun d2 z => ⟨_, by cases z; exact e2⟩⟩, T.e, fun u h => h, T.v, true, rfl, iteT ?_⟩
    refine ⟨_, rfl, e, C, dd, _, natV (i + 1), rfl, upd_same, T.f, T.n, e2, rfl, two, fun R nR => ?_⟩
    refine q _ R (s2.trans (Same.new nR)) (s2.free nR) ?_
    unfold resT
    rw [eb]
    exact .lst (.of upd_same) (.cons (.str _) (.cons (.int _) .nil))
/-! ### _law_line -/
theorem word_at {l : List Str} {n : Nat} (h : ∀ s, s ∈ l → s.length ≤ n) {i : Int} (h0 : 0 ≤ i) (h1 : i < (l.length : Int)) : ∃ s : Str, atI (l.map V.str) i = some (V.str s) ∧ s.length ≤ n := by
  obtain ⟨x, hx, s, rfl, hs⟩ := at_any (xs := l.map V.str) (C := fun x => ∃ s : Str, x = V.str s ∧ s.length ≤ n) (fun x hx => by
    obtain ⟨s, hs, rfl⟩ := List.mem_map.mp hx
    exact ⟨s, rfl, h s hs⟩) h0 (by rw [List.length_map]; exact h1)
  exact ⟨s, hx, hs⟩
def numW : List Str := ["0", "7", "-7", "12", "-0", "007", "", "+3", "3.", "--2", "1_0", "5:"]
def labW : List Str := ["found", "low", "high", "dead", "Found", "lost", ""]
def sgnW : List Str := ["  ", "/", ""]
theorem sc_law_line : FnScope n_law_line ["draws", "at"] (defScope s_law_line) := ⟨rfl, rfl, rfl, by decide +kernel, rfl, by decide +kernel, by decide +kernel⟩
def spLineT : Sp := fun vs H Q _ => ∃ (p : Addr) (k i : Nat), vs = [.ref p, natV i] ∧ DrAt H p k ∧ k ≤ 90000 ∧ i ≤ 100 ∧ ∀ (H' : Hp) (s : Str), Keep p H H' → DrAt H' p (k + 1) → s.length ≤ 30 → Q (.str s) H'
theorem ok_lineT (B : Bl mg) (N : Df P w K mg base "_law_next" 1 ["draws"] spNext) (a : At K mg "_law_line" s_law_line) : Df P w K mg base "_law_line" 2 ["draws", "at"] spLineT := by
  refine Df.mk' a sc_law_line (fun vs H Q E h => ?_) (fun _ _ _ _ _ _ us hl => match us, hl with | [_, _], _ => rfl) (fun f cdv A outer s H vs Q E hr h => ?_)
  · obtain ⟨_, _, _, rfl, _⟩ := h
    rfl
  obtain ⟨p, k, i, rfl, hd, hk, hi, q⟩ := h
  refine ⟨_, (pss_cons (ps_set (i := 2) sc_law_line.nd rfl (.inl rfl) (pe_df N hr (pa_cons (pv 0) pa_nil)))
 (pss_cons (ps_set (i := 3) sc_law_line.nd rfl (.inl rfl) (pe_ix ix_list (pe_lst (pa_cons pe_str (pa_cons pe_str (pa_cons pe_str (pa_cons pe_str (pa_cons pe_str (pa_cons pe_str (pa_cons pe_str (pa_cons pe_str (pa_cons pe_str (pa_cons pe_str (pa_cons pe_str (pa_cons pe_str pa_nil))))))))))))) (pe_op op_mod (pe_callTy call_int1 (by rfl) B.int (by decide +kernel) (pa_cons (pv 2) pa_nil)) pe_int) (fun _ _ => rfl)))
 (pss_cons (ps_set (i := 4) sc_law_line.nd rfl (.inl rfl) (pe_ix ix_list (pe_lst (pa_cons pe_str (pa_cons pe_str (pa_cons pe_str (pa_cons pe_str (pa_cons pe_str (pa_cons pe_str (pa_cons pe_str pa_nil)))))))) (pe_op op_mul (pe_op op_mod (pe_callTy call_int1 (by rfl) B.int (by decide +kernel) (pa_cons (pe_op op_fdiv (pv 2) pe_int) pa_nil)) pe_int) (pe_callTy call_int1 (by rfl) B.int (by decide +kernel) (pa_cons (pe_cmpR op_lt (pe_op op_mod (pe_callTy call_int1 (by rfl) B.int (by decide +kernel) (pa_cons (pv 2) pa_nil)) pe_int) pe_int (nomark _)) pa_nil))) (fun _ _ => rfl)))
 (C8.pss_cut (ps_set (i := 5) sc_law_line.nd rfl (.inl rfl) (pe_ifExp (pt_cmpR op_eq (pe_op op_mod (pe_callTy call_int1 (by rfl) B.int (by decide +kernel) (pa_cons (pv 2) pa_nil)) pe_int) pe_int (nomark _)) (pe_ix ix_list (pe_lst (pa_cons pe_str (pa_cons pe_str (pa_cons pe_str pa_nil)))) (pe_op op_mod (pe_callTy call_int1 (by rfl) B.int (by decide +kernel) (pa_cons (pe_op op_fdiv (pv 2) pe_int) pa_nil)) pe_int) (fun _ _ => rfl)) pe_str))
 (C8.pss_cut (ps_if (PW.pt (pw_and (pt_cmpR op_ge (pe_op op_mod (pe_callTy call_int1 (by rfl) B.int (by decide +kernel) (pa_cons (pv 2) pa_nil)) pe_int) pe_int (nomark _)) (pw_and1 (pt_cmpR op_gt (pe_op op_mod (pe_callTy call_int1 (by rfl) B.int (by decide +kernel) (pa_cons (pv 2) pa_nil)) pe_int) pe_int (nomark _))))) (pss_one (ps_set (i := 3) sc_law_line.nd rfl (.inl rfl) pe_str)) pss_nil)
 (pss_one (ps_ret (pe_op op_add_str (pe_op op_add_str (pe_op op_add_str (pe_op op_add_str (pe_callTy call_str_int (by rfl) B.str (by decide +kernel) (pa_cons (pv 1) pa_nil)) (pv 5)) (pv 3)) pe_str) (pv 4))))))))), ?_⟩
  refine ⟨_, rfl, p, k, rfl, hd, by omega, fun H1 r kp1 d1 a1 a2 => ?_⟩
  have line : sizeLine = 16777216 := rfl
  have num : ((i : Nat) : Int).natAbs.log2 < 1920 := by
    show i.log2 < 1920
    by_cases c : i = 0
    · rw [c]; decide
    · exact (Nat.log2_lt c).mpr (Nat.lt_of_lt_of_le (show i < 1024 by omega) (Nat.pow_le_pow_right (n := 2) (by decide) (show 10 ≤ 1920 by decide)))
  have nlen : (Str.ofString (toString ((i : Nat) : Int))).length ≤ 4 := by
    rw [show (Str.ofString (toString ((i : Nat) : Int))).length = (toString ((i : Nat) : Int)).length from PySem.ofString_length _]
    exact Nat.le_trans (int_text_length_le10 (k := 3) (by decide) (show ((i : Nat) : Int).natAbs < 10 ^ 3 from (show i < 1000 by omega))) (by decide)
  refine ⟨(by show 12 ≤ sizeLine; decide), fun L hL => ?_⟩
  have sL := Same.new (o := .lst (numW.map V.str)) hL
  have eL : (upd H1 L (.lst (numW.map V.str))) L = some (.lst (numW.map V.str)) := upd_same
  obtain ⟨s1, h1, l1⟩ := word_at (l := numW) (n := 8) (by decide +kernel) (i := r % 12) (Int.emod_nonneg _ (by decide)) (Int.emod_lt_of_pos _ (by decide))
  refine ⟨_, rfl, .inl ⟨_, rfl, _, _, rfl, rfl, (by show (0 : Int) < 12; decide), L, _, _, _, rfl, rfl, .of eL, h1, ?_⟩⟩
  have kp2 := kp1.trans (.of sL)
  have d2 := d1.same sL
  generalize hH : upd H1 L (.lst (numW.map V.str)) = H2 at eL kp2 d2
  rw [show upd H1 L (.lst [V.str "0", V.str "7", V.str "-7", V.str "12", V.str "-0", V.str "007", V.str "", V.str "+3", V.str "3.", V.str "--2", V.str "1_0", V.str "5:"]) = H2 from hH]
  refine ⟨(by show 7 ≤ sizeLine; decide), fun M hM => ?_⟩
  have sM := Same.new (o := .lst (labW.map V.str)) hM
  have eM : (upd H2 M (.lst (labW.map V.str))) M = some (.lst (labW.map V.str)) := upd_same
  have m7 := Int.emod_nonneg (r / 12) (show (7 : Int) ≠ 0 by decide)
  have m7' := Int.emod_lt_of_pos (r / 12) (show (0 : Int) < 7 by decide)
  have idx : ∀ c : Bool, 0 ≤ (r / 12 % 7) * (if c = true then 1 else 0) ∧ (r / 12 % 7) * (if c = true then 1 else 0) < 7 := fun c => by
    cases c
    · rw [if_neg (by decide), Int.mul_zero]; exact ⟨Int.le_refl _, by decide⟩
    · rw [if_pos rfl, Int.mul_one]; exact ⟨m7, m7'⟩
  obtain ⟨s2, h2, l2⟩ := word_at (l := labW) (n := 8) (by decide +kernel) (i := (r / 12 % 7) * (if decide (r % 5 < 3) = true then 1 else 0)) (idx _).1 (idx _).2
  refine ⟨_, rfl, _, _, rfl, rfl, ⟨by decide, by decide⟩, .inl ⟨_, rfl, _, _, rfl, rfl, (by show (0 : Int) < 7; decide), _, rfl, .inl ⟨_, rfl, _, _, rfl, rfl, (by show (0 : Int) < 5; decide), _, _, rfl, rfl, .inr ⟨_, rfl, _, _, rfl, rfl, ?_, M, _, _, _, rfl, rfl, .of eM, h2, ?_⟩⟩⟩⟩
  · refine .inl ⟨?_, ?_⟩ <;> omega
  have kp3 := kp2.trans (.of sM)
  have d3 := d2.same sM
  rw [show upd H2 M (.lst [V.str "found", V.str "low", V.str "high", V.str "dead", V.str "Found", V.str "lost", V.str ""]) = upd H2 M (.lst (labW.map V.str)) from rfl]
  generalize upd H2 M (.lst (labW.map V.str)) = H3 at kp3 d3 ⊢
  refine ⟨fun σ H' => ∃ s3 : Str, σ = [some (.ref p), some (natV i), some (.int r), some (.str s1), some (.str s2), some (.str s3)] ∧ s3.length ≤ 8 ∧ Keep p H H' ∧ DrAt H' p (k + 1), ?_, fun σ H4 hX => ?_⟩
  · refine ⟨_, rfl, .inl ⟨_, rfl, _, _, rfl, rfl, (by show (0 : Int) < 31; decide), rfl, _, rfl, ite2 (fun c => ?_) (fun c => ⟨" ", rfl, by decide +kernel, kp3, d3⟩)⟩⟩
    refine ⟨(by show 3 ≤ sizeLine; decide), fun N0 hN => ?_⟩
    have sN := Same.new (o := .lst (sgnW.map V.str)) hN
    have eN : (upd H3 N0 (.lst (sgnW.map V.str))) N0 = some (.lst (sgnW.map V.str)) := upd_same
    obtain ⟨s3, h3, l3⟩ := word_at (l := sgnW) (n := 8) (by decide +kernel) (i := r / 84 % 3) (Int.emod_nonneg _ (by decide)) (Int.emod_lt_of_pos _ (by decide))
    exact ⟨_, rfl, _, _, rfl, rfl, ⟨by decide, by decide⟩, .inl ⟨_, rfl, _, _, rfl, rfl, (by show (0 : Int) < 3; decide), N0, _, _, _, rfl, rfl, .of eN, h3, s3, rfl, l3, kp3.trans (.of sN), d3.same sN⟩⟩
  obtain ⟨s3, rfl, l3, kp4, d4⟩ := hX
  clear kp1 kp2 kp3 d1 d2 d3 eL eM sM sL hH
  refine ⟨fun σ H' => ∃ s1 : Str, σ = [some (.ref p), some (natV i), some (.int r), some (.str s1), some (.str s2), some (.str s3)] ∧ s1.length ≤ 8 ∧ H' = H4, ?_, fun σ H5 hX => ?_⟩
  · refine ⟨_, rfl, .inl ⟨_, rfl, _, _, rfl, rfl, (by show (0 : Int) < 12; decide), _, _, rfl, rfl, _, rfl, ?_⟩⟩
    refine ite2 (fun c => ?_) (fun c => iteF ⟨s1, rfl, l1, rfl⟩)
    refine ⟨_, rfl, .inl ⟨_, rfl, _, _, rfl, rfl, (by show (0 : Int) < 7; decide), _, _, rfl, rfl, _, rfl, ?_⟩⟩
    exact ite2 (fun c => ⟨"5", rfl, by decide +kernel, rfl⟩) (fun c => ⟨s1, rfl, l1, rfl⟩)
  obtain ⟨s1, rfl, l1, rfl⟩ := hX
  have la : ∀ a b : Str, (a ++ b).length = a.length + b.length := fun a b => by
    rw [TL.len_tl, TL.tl_append, List.length_append, ← TL.len_tl, ← TL.len_tl]
  have l4 : (" " : Str).length = 1 := by decide +kernel
  refine ⟨_, rfl, _, rfl, num, _, rfl, _, _, rfl, rfl, by omega, _, rfl, _, _, rfl, rfl, by rw [la]; omega, _, _, rfl, rfl, by rw [la, la, l4]; omega, _, rfl, _, _, rfl, rfl, by rw [la, la, la, l4]; omega, ?_⟩
  refine q _ _ kp4 d4 ?_
  rw [la, la, la, la, l4]
  omega
end
end HSP
namespace HSP
open PySem PySem.Spec PyProof.Rows L2
/-! ## what the laws' right sides share -/
theorem Mid.of {ns : List Int} (h : Near ns) : Mid ns := fun v hv => by
  have := h v hv
  omega
def spRight : Sp := fun vs H Q _ => ∃ (p : Addr) (k : Nat), vs = [.ref p] ∧ DrAt H p k ∧ k ≤ 1000 ∧ ∀ H' : Hp, Keep p H H' → DrAt H' p (k + 200) → Q (.bl true) H'
end HSP
namespace HSP
open PySem PySem.Spec PyProof.Rows L2
/-! ### slices -/
theorem cut_from (xs : List V) (k : Nat) : cutV xs (some (k : Int)) none = xs.drop k := by
  unfold cutV
  rw [HT.sIx_nat, HT.sIx_none]
  by_cases h : k ≤ xs.length
  · rw [Nat.min_eq_left h]
    exact List.take_of_length_le (by rw [List.length_drop]; exact Nat.le_refl _)
  · rw [Nat.min_eq_right (by omega), Nat.sub_self, List.take_zero, List.drop_eq_nil_of_le (by omega)]
theorem cut_to (xs : List V) (k : Nat) : cutV xs none (some (k : Int)) = xs.take k := by
  unfold cutV
  rw [HT.sIx_nat, HT.sIx_none, List.drop_zero, Nat.sub_zero]
  by_cases h : k ≤ xs.length
  · rw [Nat.min_eq_left h]
  · rw [Nat.min_eq_right (by omega), List.take_of_length_le (by omega), List.take_of_length_le (by omega)]
theorem cut_init (xs : List V) (x : V) : cutV (xs ++ [x]) none (some (-1)) = xs := by
  unfold cutV
  have e1 : HT.sIx (xs ++ [x]).length (xs ++ [x]).length (some (-1)) = xs.length := by
    show (if (-1 : Int) < 0 then ((-1 : Int) + ((xs ++ [x]).length : Int)).toNat else min (-1 : Int).toNat (xs ++ [x]).length) = _
    rw [if_pos (by decide), List.length_append, List.length_singleton]
    omega
  have e2 : HT.sIx (xs ++ [x]).length 0 none = 0 := rfl
  rw [e1, e2, List.drop_zero, Nat.sub_zero]
  exact List.take_left
/-- len(..) within a comprehension -/
def rLenK (K : PySem.W.Frag) : List V → Hp → VK → Prop := fun xs H Q => ∃ p ys, xs = [V.ref p] ∧ (SqL K H p ys ∨ SqT K H p ys) ∧ Q (.int ((ys.length : Nat) : Int)) H
end HSP
namespace HSP
open PySem PySem.Spec PyProof.Rows L2
/-! ## classes of errors: what the top tells of them -/
structure ClsT (K : PySem.W.Frag) (C : Addr) : Prop where
  k : PySem.W.keepIn K (.ref C) = true
  b : PySem.W.subIn K (.ref C) (.type "BaseException") = some true
  t : PySem.W.typeIn K (.ref C) = some (.type "type")
  c : ∃ q, PySem.W.clsIn K C = some q
  a : PySem.W.findIn K (.ref C) "__getattribute__" = some (some (.builtin "BaseException.__getattribute__"))
  g : PySem.W.findIn K (.ref C) "__getattr__" = some none
  d : PySem.W.hasDictIn K C = true
  l : PySem.W.findIn K (.ref C) "__class__" = some (some (.builtin "object.__class__"))
  n : PySem.W.specialIn K (.builtin "object.__class__") "__get__" = some (some (.builtin "getset_descriptor.__get__"))
  h : PySem.W.takesIn K (.builtin "object.__class__") = some true
  m : PySem.W.mroIn K C (.type "object") = some true
section
variable {K : PySem.W.Frag} {C C1 C2 : Addr} {b : Bool}
theorem ClsT.exc (T : ClsT K C) : ExcC K C := ⟨T.a, T.g, T.b, T.d, T.l, T.n, T.h, T.m⟩
theorem ClsT.xf (T : ClsT K C) : XfC K C := ⟨T.a, T.g, T.b, T.d⟩
theorem kit_sub {t : Value} (T2 : ClsT K C2) (s : PySem.W.subIn K t (.ref C2) = some b) : PySem.W.kitCls K t (.ref C2) = some b := by
  obtain ⟨q, e⟩ := T2.c
  show (if ((PySem.W.clsIn K C2).isSome && PySem.W.typeIn K (.ref C2) == some (.type "type")) = true then PySem.W.subIn K t (.ref C2) else none) = some b
  rw [if_pos, s]
  rw [e, T2.t]
  rfl
theorem kit_cls (T2 : ClsT K C2) (ne : (Value.ref C1 == Value.ref C2) = false) (s : PySem.W.subIn K (.ref C1) (.ref C2) = some b) : PySem.W.kitOne K (.ref C1) (.ref C2) = some b := by
  unfold PySem.W.kitOne
  rw [ne, if_neg Bool.false_ne_true]
  exact kit_sub T2 s
theorem kit_self : PySem.W.kitOne K (.ref C) (.ref C) = some true := by
  unfold PySem.W.kitOne
  rw [if_pos (beq_self_eq_true _)]
theorem exm_cls {t : Value} (T2 : ClsT K C2) (s : PySem.W.subIn K t (.ref C2) = some b) : PySem.W.exmOne K t (.ref C2) = some b := by
  unfold PySem.W.exmOne
  rw [if_pos (by rw [T2.b]; rfl)]
  exact kit_sub T2 s
theorem exm_two {t c1 c2 : Value} {b1 b2 : Bool} (h1 : PySem.W.exmOne K t c1 = some b1) (h2 : PySem.W.exmOne K t c2 = some b2) : PySem.W.exmAny K t [c1, c2] = some (b1 || (b2 || false)) := by
  simp only [PySem.W.exmAny, h1, h2]
end
end HSP
namespace HSP
open PySem PySem.Spec PyProof.Rows L2
theorem kit_ve {K : PySem.W.Frag} {C : Addr} (s : PySem.W.subIn K (.ref C) (.type "ValueError") = some true) : PySem.W.kitOne K (.ref C) (.type "ValueError") = some true := by
  unfold PySem.W.kitOne
  rw [if_neg (by intro h; cases h)]
  show (if PySem.W.kitMeta "ValueError" = true then PySem.W.subIn K (.ref C) (.type "ValueError") else none) = some true
  rw [if_pos (by decide +kernel), s]
/-! ### what is told, as data of a small size -/
theorem log_small {n : Nat} (h : n < 10 ^ 500) : n.log2 < 1920 := by
  by_cases c : n = 0
  · rw [c]; decide
  · exact (Nat.log2_lt c).mpr (Nat.lt_of_lt_of_le h (by decide +kernel))
theorem int_fine {v : Int} (h : v.natAbs < 10 ^ 500) : (PyData.int v).shown.length ≤ 503 ∧ (PyData.int v).showable = true := by
  constructor
  · simp only [PyData.shown]
    rw [show (Str.ofString (toString v)).length = (toString v).length from PySem.ofString_length _]
    exact Nat.le_trans (int_text_length_le10 (k := 500) (by decide) h) (by decide)
  · have := log_small h
    simpa [PyData.showable] using this
theorem ss_show : ∀ l : List Str, PyData.showableAll (l.map PyData.str) = true
  | [] => by simp [PyData.showableAll]
  | z :: r => by simp only [List.map_cons, PyData.showableAll, PyData.showable, ss_show r, Bool.and_self]
theorem ss_nodict : ∀ l : List Str, PyData.hasDictAll (l.map PyData.str) = false
  | [] => by simp [PyData.hasDictAll]
  | z :: r => by simp only [List.map_cons, PyData.hasDictAll, PyData.hasDict, ss_nodict r, Bool.or_self]
theorem label_text : ∀ s, s ∈ labelL → (reprText s).length ≤ 7 := by decide +kernel
theorem told_fine {vs : List Int} {ss : List Str} (hv : ∀ v, v ∈ vs → v.natAbs < 10 ^ 500) (hs : ∀ s, s ∈ ss → s ∈ labelL) (lv : vs.length ≤ 601) (ls : ss.length ≤ 601) : Fine (.list [.str "told", .tuple [intsD vs, ssD ss]]) := by
  have d1 : PyData.depthAll (vs.map PyData.int) ≤ 1 := ints_deep vs
  have d2 := ss_deep ss
  refine ⟨?_, ?_, ?_, ?_⟩
  · simp only [PyData.showable, PyData.showableAll, intsD, ssD, ints_show vs fun v h => log_small (hv v h), ss_show, Bool.and_self]
  · simp only [PyData.hasDict, PyData.hasDictAll, intsD, ssD, ints_dict, ss_nodict, Bool.or_self]
  · simp only [PyData.depth, PyData.depthAll, intsD, ssD]
    omega
  · have hI : (intsD vs).shown.length ≤ vs.length * 505 + 2 := by
      have := shown_list_le 503 (vs.map PyData.int) fun d hd => by
        obtain ⟨v, h, rfl⟩ := List.mem_map.mp hd
        exact (int_fine (hv v h)).1
      rw [List.length_map] at this
      exact this
    have hS : (ssD ss).shown.length ≤ ss.length * 9 + 2 := by
      have := shown_list_le 7 (ss.map PyData.str) fun d hd => by
        obtain ⟨s, h, rfl⟩ := List.mem_map.mp hd
        simp only [PyData.shown]
        exact label_text s (hs s h)
      rw [List.length_map] at this
      exact this
    have hT : (PyData.tuple [intsD vs, ssD ss]).shown.length ≤ 400000 := by
      have h3 := tupleText_le (PyData.shownAll [intsD vs, ssD ss])
      simp only [PyData.shownAll, piled_cons, piled_nil] at h3
      simp only [PyData.shown] at h3 ⊢
      simp only [PyData.shownAll] at h3 ⊢
      omega
    have := shown_list_le 400000 [.str "told", .tuple [intsD vs, ssD ss]] fun d hd => by
      rcases List.mem_cons.mp hd with e | e
      · rw [e]; decide +kernel
      · rw [List.mem_singleton.mp e]; exact hT
    have line : sizeLine = 16777216 := rfl
    have l2 : [PyData.str "told", .tuple [intsD vs, ssD ss]].length = 2 := rfl
    rw [l2] at this
    omega
theorem res_fine {x : Str} (hx : x.length ≤ 500) : Fine (resT (linesT x)) := by
  obtain ⟨ln1, ln2⟩ := lines_few (x := x) (by omega)
  have l4 : ∀ l, l ∈ linesT x → l.length ≤ 500 := by
    unfold linesT
    by_cases c : x = ("" : Str)
    · rw [if_pos c]
      exact fun l h => nomatch h
    · rw [if_neg c]
      exact fun l h => by have := split_part h; omega
  unfold resT
  cases e : badT (linesT x) with
  | some i =>
    have hi : i < 601 := by
      unfold badT at e
      have := List.mem_range.mp (List.mem_of_find?_eq_some e)
      omega
    have hv : ((i + 1 : Nat) : Int).natAbs < 10 ^ 500 := Nat.lt_of_lt_of_le (show i + 1 < 10 ^ 3 by omega) (Nat.pow_le_pow_right (by decide) (by decide))
    obtain ⟨h1, h2⟩ := int_fine hv
    refine ⟨?_, ?_, ?_, ?_⟩
    · simp only [PyData.showable, PyData.showableAll] at h2 ⊢
      simp only [h2, Bool.and_self]
    · simp only [PyData.hasDict, PyData.hasDictAll, Bool.or_self]
    · simp only [PyData.depth, PyData.depthAll]
      omega
    · have := shown_list_le 503 [.str "raised", .int ((i + 1 : Nat) : Int)] fun d hd => by
        rcases List.mem_cons.mp hd with e | e
        · rw [e]; decide +kernel
        · rw [List.mem_singleton.mp e]; exact h1
      have line : sizeLine = 16777216 := rfl
      have l2 : [PyData.str "raised", .int ((i + 1 : Nat) : Int)].length = 2 := rfl
      rw [l2] at this
      show (PyData.list [.str "raised", .int ((i + 1 : Nat) : Int)]).shown.length ≤ _
      omega
  | none =>
    have ok : ∀ i, i < (linesT x).length → okT (linesT x) i = true := fun i hi => by
      unfold badT at e
      have := List.find?_eq_none.mp e i (List.mem_range.mpr hi)
      cases c : okT (linesT x) i with
      | true => rfl
      | false => rw [c] at this; exact absurd rfl this
    have each : ∀ l, l ∈ linesT x → numT (TL.tl (strG (wordsT l) 1)) = true ∧ strG (wordsT l) 2 ∈ labelL ∧ (wordsT l).length = 3 := fun l hl => by
      obtain ⟨i, hi, rfl⟩ := List.getElem_of_mem hl
      have h := ok i hi
      unfold okT lineOk at h
      have hg : strG (linesT x) i = (linesT x)[i] := by
        unfold strG
        rw [List.getD_eq_getElem?_getD, List.getElem?_eq_getElem hi]
        rfl
      rw [hg, Bool.and_eq_true, Bool.and_eq_true, Bool.and_eq_true, decide_eq_true_iff, decide_eq_true_iff] at h
      exact ⟨h.2.2.1, h.2.2.2 |> of_decide_eq_true, h.1⟩
    refine told_fine (fun v hv => ?_) (fun s hs => ?_) (by rw [List.length_map]; exact ln1) (by rw [List.length_map]; exact ln1)
    · obtain ⟨l, hl, rfl⟩ := List.mem_map.mp hv
      obtain ⟨h1, _, h3⟩ := each l hl
      have lw : (strG (wordsT l) 1).length ≤ 500 := by
        unfold strG
        rw [List.getD_eq_getElem?_getD, List.getElem?_eq_getElem (by omega)]
        have := split_part (List.getElem_mem (show 1 < (wordsT l).length by omega))
        have := l4 l hl
        show (wordsT l)[1].length ≤ 500
        omega
      obtain ⟨n, en, bn⟩ := num_val h1 (by omega)
      have ev : valT l = n := by
        unfold valT
        rw [en]
        rfl
      rw [ev]
      exact Nat.lt_of_lt_of_le bn (Nat.pow_le_pow_right (by decide) (by omega))
    · obtain ⟨l, hl, rfl⟩ := List.mem_map.mp hs
      exact (each l hl).2.1
/-! ### _law_right -/
def insW : List Str := ["", " ", "0 1 low", "1 1 found", "0 1 low "]
def oneW : List Str := [" ", "\n", "0", "-", "x", "f", "+", "_", ":", "/"]
def LinesOk (ls : List Str) (n : Nat) : Prop := ls.length ≤ n ∧ ∀ s, s ∈ ls → s.length ≤ 30
theorem cut_one (xs : List V) (a : Nat) : (cutV xs (some ((a : Int) - 1)) (some (a : Int))).length ≤ 1 := by
  unfold cutV
  rw [HT.sIx_nat, List.length_take]
  cases a with
  | zero =>
    rw [Nat.zero_min, Nat.zero_sub]
    omega
  | succ b =>
    rw [show (((b + 1 : Nat) : Int) - 1) = ((b : Nat) : Int) by omega, HT.sIx_nat]
    omega
theorem cut_strs (gs : List Str) (lo hi : Option Int) : ∃ hs : List Str, cutV (gs.map V.str) lo hi = hs.map V.str ∧ ∀ s, s ∈ hs → s ∈ gs := by
  unfold cutV
  rw [List.length_map, ← List.map_drop, ← List.map_take]
  exact ⟨_, rfl, fun s hs => List.mem_of_mem_drop (List.mem_of_mem_take hs)⟩
theorem cutS_two (x : Str) (a : Nat) : (cutS x none (some (a : Int))).length + (cutS x (some (a : Int)) none).length ≤ x.length := by
  rw [TL.len_tl, TL.len_tl (cutS x (some (a : Int)) none), TL.len_tl x, cut_tl, cut_tl, HT.sIx_none, HT.sIx_none, HT.sIx_nat, HT.sIx_nat, List.length_take, List.length_take, List.length_drop, List.length_drop, ← TL.len_tl]
  omega
theorem cutS_skip (x : Str) (a : Nat) : (cutS x none (some (a : Int))).length + (cutS x (some ((a : Int) + 1)) none).length ≤ x.length := by
  rw [show ((a : Int) + 1) = ((a + 1 : Nat) : Int) by omega]
  rw [TL.len_tl, TL.len_tl (cutS x (some ((a + 1 : Nat) : Int)) none), TL.len_tl x, cut_tl, cut_tl, HT.sIx_none, HT.sIx_none, HT.sIx_nat, HT.sIx_nat, List.length_take, List.length_take, List.length_drop, List.length_drop, ← TL.len_tl]
  omega
theorem join_nl {ls : List Str} {c : Nat} (h : ∀ s, s ∈ ls → s.length ≤ c) : (Txt.join ("\n" : Str) ls).length ≤ (c + 1) * ls.length := by
  rw [TL.join_eq, TL.len_tl, TL.tl_join]
  have e : TL.tl ("\n" : Str) = [10] := by decide +kernel
  rw [e]
  have := joinL_len 10 (c := c) (ls.map TL.tl) fun p hp => by
    obtain ⟨s, hs, rfl⟩ := List.mem_map.mp hp
    rw [← TL.len_tl]
    exact h s hs
  rw [List.length_map] at this
  exact this
section
variable {P : Program} {w : World} {K : PySem.W.Frag} {mg : Str → Option Value} {base : Heap}
theorem DrAt.neStr {H : Hp} {p q : Addr} {k : Nat} {ls : List Str} (d : DrAt H p k) (e : H q = some (.lst (ls.map V.str))) : q ≠ p := fun z => by
  obtain ⟨n, j, b, e2, _⟩ := d
  rw [z, e2] at e
  have h := HO.lst.inj (Option.some.inj e)
  cases ls with
  | nil => cases h
  | cons x r => exact nomatch (List.cons.inj h).1
theorem sc_law_right : FnScope n_law_right ["draws"] (defScope s_law_right) := ⟨rfl, rfl, rfl, by decide +kernel, rfl, by decide +kernel, by decide +kernel⟩
theorem ok_right (B : Bl mg) (Rp : mg "repr" = none) (N : Df P w K mg base "_law_next" 1 ["draws"] spNext) (Ln : Df P w K mg base "_law_line" 2 ["draws", "at"] spLineT) (To : Df P w K mg base "_law_told" 4 ["text"] (spDueT K)) (Du : Df P w K mg base "_law_due" 2 ["text"] (spDueT K)) (a : At K mg "_law_right" s_law_right) : DfG P w K mg base "_law_right" 20 ["draws"] spRight := by
  refine DfG.mk' a sc_law_right (fun vs H Q E h => ?_) (fun _ _ _ _ _ _ us hl => match us, hl with | [_], _ => rfl) (fun f cdv A0 outer s H vs Q E hg hr h => ?_)
  · obtain ⟨p, k, rfl, _⟩ := h
    rfl
  obtain ⟨p, k, rfl, hd, hk, q⟩ := h
  refine ⟨_, (pss_cons (ps_setLc (i := 2) (own := [("at", 1)]) (g := (gName 1)) (tt := tYes) (by rfl) sc_law_right.nd rfl rfl (sw_true rfl rfl rfl (by decide +kernel)) (pi_range1 (by rfl) B.range (pa_cons (pe_op op_mod (pe_callTy call_int1 (by rfl) B.int (by decide +kernel) (pa_cons (pe_df N (hr.mono (by decide)) (pa_cons (pv 0) pa_nil)) pa_nil)) pe_int) pa_nil)) (blkOk_by (N := n_law_right) (sc := defScope s_law_right) (by decide +kernel)) (fun _ _ _ _ _ => (pg_name (i := 1) sc_law_right.nd rfl (.inl rfl))) (fun _ _ _ _ _ => pts_nil) (fun _ _ _ _ _ => (pe_df Ln (hr.mono (by decide)) (pa_cons (pv 0) (pa_cons (pv 1) pa_nil)))))
 (C8.pss_cut (ps_for PassesOwn.never rfl (pi_range1 (by rfl) B.range (pa_cons (pe_op op_mod (pe_callTy call_int1 (by rfl) B.int (by decide +kernel) (pa_cons (pe_df N (hr.mono (by decide)) (pa_cons (pv 0) pa_nil)) pa_nil)) pe_int) pa_nil)) (pg_name (i := 3) sc_law_right.nd rfl (.inl rfl)) (pss_cons (ps_set (i := 4) sc_law_right.nd rfl (.inl rfl) (pe_df N (hr.mono (by decide)) (pa_cons (pv 0) pa_nil)))
 (pss_cons (ps_set (i := 1) sc_law_right.nd rfl (.inl rfl) (pe_op op_mod (pe_callTy call_int1 (by rfl) B.int (by decide +kernel) (pa_cons (pe_op op_fdiv (pv 4) pe_int) pa_nil)) (pe_op op_add (pe_callB call_len_seq (by rfl) B.len PySem.boot_len (pa_cons (pv 2) pa_nil)) pe_int)))
 (C8.pss_cut (ps_if (pt_cmpR op_eq (pe_op op_mod (pe_callTy call_int1 (by rfl) B.int (by decide +kernel) (pa_cons (pv 4) pa_nil)) pe_int) pe_int (nomark _)) (pss_one (ps_set (i := 2) sc_law_right.nd rfl (.inl rfl) (pe_op op_cat (pe_slice sl_list (pv 2) po_none (po_some (pv 1))) (pe_slice sl_list (pv 2) (po_some (pe_op op_add (pv 1) pe_int)) po_none)))) pss_nil)
 (C8.pss_cut (ps_if (pt_cmpR op_eq (pe_op op_mod (pe_callTy call_int1 (by rfl) B.int (by decide +kernel) (pa_cons (pv 4) pa_nil)) pe_int) pe_int (nomark _)) (pss_one (ps_set (i := 2) sc_law_right.nd rfl (.inl rfl) (pe_op op_cat (pe_op op_cat (pe_slice sl_list (pv 2) po_none (po_some (pv 1))) (pe_lst (pa_cons (pe_ix ix_list (pe_lst (pa_cons pe_str (pa_cons pe_str (pa_cons pe_str (pa_cons pe_str (pa_cons pe_str pa_nil)))))) (pe_op op_mod (pe_callTy call_int1 (by rfl) B.int (by decide +kernel) (pa_cons (pe_op op_fdiv (pv 4) pe_int) pa_nil)) pe_int) (fun _ _ => rfl)) pa_nil))) (pe_slice sl_list (pv 2) (po_some (pv 1)) po_none)))) pss_nil)
 (pss_one (ps_if (pt_cmpR op_eq (pe_op op_mod (pe_callTy call_int1 (by rfl) B.int (by decide +kernel) (pa_cons (pv 4) pa_nil)) pe_int) pe_int (nomark _)) (pss_one (ps_set (i := 2) sc_law_right.nd rfl (.inl rfl) (pe_op op_cat (pe_op op_cat (pe_slice sl_list (pv 2) po_none (po_some (pv 1))) (pe_slice sl_list (pv 2) (po_some (pe_op op_sub (pv 1) pe_int)) (po_some (pv 1)))) (pe_slice sl_list (pv 2) (po_some (pv 1)) po_none)))) pss_nil)))))))
 (pss_cons (ps_set (i := 5) sc_law_right.nd rfl (.inl rfl) (pe_join pe_str (pv 2)))
 (pss_cons (ps_set (i := 4) sc_law_right.nd rfl (.inl rfl) (pe_df N (hr.mono (by decide)) (pa_cons (pv 0) pa_nil)))
 (pss_cons (ps_set (i := 1) sc_law_right.nd rfl (.inl rfl) (pe_op op_mod (pe_callTy call_int1 (by rfl) B.int (by decide +kernel) (pa_cons (pe_op op_fdiv (pv 4) pe_int) pa_nil)) (pe_op op_add (pe_callB call_len_str (by rfl) B.len PySem.boot_len (pa_cons (pv 5) pa_nil)) pe_int)))
 (C8.pss_cut (ps_if (pt_cmpR op_eq (pe_op op_mod (pe_callTy call_int1 (by rfl) B.int (by decide +kernel) (pa_cons (pv 4) pa_nil)) pe_int) pe_int (nomark _)) (pss_cons (ps_set (i := 6) sc_law_right.nd rfl (.inl rfl) (pe_ix ix_list (pe_lst (pa_cons pe_str (pa_cons pe_str (pa_cons pe_str (pa_cons pe_str (pa_cons pe_str (pa_cons pe_str (pa_cons pe_str (pa_cons pe_str (pa_cons pe_str (pa_cons pe_str pa_nil))))))))))) (pe_op op_mod (pe_callTy call_int1 (by rfl) B.int (by decide +kernel) (pa_cons (pe_op op_fdiv (pv 4) pe_int) pa_nil)) pe_int) (fun _ _ => rfl)))
 (pss_one (ps_set (i := 5) sc_law_right.nd rfl (.inl rfl) (pe_op op_add_str (pe_op op_add_str (pe_slice sl_str (pv 5) po_none (po_some (pv 1))) (pv 6)) (pe_slice sl_str (pv 5) (po_some (pv 1)) po_none))))) pss_nil)
 (C8.pss_cut (ps_if (pt_cmpR op_eq (pe_op op_mod (pe_callTy call_int1 (by rfl) B.int (by decide +kernel) (pa_cons (pv 4) pa_nil)) pe_int) pe_int (nomark _)) (pss_one (ps_set (i := 5) sc_law_right.nd rfl (.inl rfl) (pe_op op_add_str (pe_slice sl_str (pv 5) po_none (po_some (pv 1))) (pe_slice sl_str (pv 5) (po_some (pe_op op_add (pv 1) pe_int)) po_none)))) pss_nil)
 (pss_one (ps_ret (pe_cmpR op_eq (pe_callB (cr_reprD hg hr.units) (by rfl) Rp (by decide +kernel) (pa_cons (pe_df To (hr.mono (by decide)) (pa_cons (pv 5) pa_nil)) pa_nil)) (pe_callB (cr_reprD hg hr.units) (by rfl) Rp (by decide +kernel) (pa_cons (pe_df Du (hr.mono (by decide)) (pa_cons (pv 5) pa_nil)) pa_nil)) (nomark _))))))))))), ?_⟩
  have line : sizeLine = 16777216 := rfl
  have one : 1 ≤ sizeLine := by show 1 ≤ sizeLine; decide
  refine ⟨_, rfl, p, k, rfl, hd, by omega, fun H1 r1 kp1 d1 a1 a2 => .inl ⟨_, rfl, _, _, rfl, rfl, (by show (0 : Int) < 13; decide), _, rfl, by omega, by omega, fun D hD => ?_⟩⟩
  refine lc_range (lo := 0) (n := (r1 % 13).toNat) (fun j H' => ∃ ls : List Str, Keep p H H' ∧ DrAt H' p (k + 1 + j) ∧ H' D = some (.lst (ls.map V.str)) ∧ ls.length = j ∧ ∀ s, s ∈ ls → s.length ≤ 30) ⟨[], kp1.trans (Keep.new hD), d1.same (Same.new hD), upd_same, rfl, fun _ h => nomatch h⟩ (fun j H2 hj h2 => ?_) (fun H2 h2 => ?_)
  · obtain ⟨ls, kp2, d2, e2, l2, w2⟩ := h2
    have nDp := d2.neStr e2
    have ej : (0 : Int) + (j : Int) = (j : Int) := by omega
    rw [ej]
    refine ⟨rfl, ?_⟩
    refine ⟨_, rfl, _, rfl, p, _, j, rfl, d2, by omega, by omega, fun H3 s kp3 d3 ls3 => ?_⟩
    refine ⟨_, kp3 _ _ nDp e2, ?_, ls ++ [s], ?_, d3.put nDp, ?_, ?_, fun x hx => ?_⟩
    · rw [List.length_map]
      exact small1000 (by omega)
    · intro b o nb e
      by_cases c : b = D
      · rw [c] at e
        exact absurd (kp1 _ _ (c ▸ nb) e) (by rw [hD]; exact fun z => nomatch z)
      · rw [upd_ne c]
        exact kp3 _ _ nb (kp2 _ _ nb e)
    · rw [upd_same, List.map_append]
      rfl
    · rw [List.length_append, l2]
      rfl
    · rcases List.mem_append.mp hx with h | h
      · exact w2 x h
      · rw [List.mem_singleton.mp h]
        exact ls3
  obtain ⟨ls, kp2, d2, e2, l2, w2⟩ := h2
  refine ⟨fun σ H' => ∃ (L : Addr) (ls : List Str) (y1 y3 y4 : Option V), σ = [some (.ref p), y1, some (.ref L), y3, y4, none, none] ∧ Keep p H H' ∧ DrAt H' p (k + 20) ∧ H' L = some (.lst (ls.map V.str)) ∧ LinesOk ls 16, ?_, fun σ H3 hX => ?_⟩
  · refine ⟨_, rfl, p, _, rfl, d2, by omega, fun H3 r3 kp3 d3 b1 b2 => .inl ⟨_, rfl, _, _, rfl, rfl, (by show (0 : Int) < 3; decide), _, rfl, by omega, by omega, for_range (lo := 0) (n := (r3 % 3).toNat) (fun i σ H' => ∃ (L : Addr) (ls : List Str) (y1 y3 y4 : Option V), σ = [some (.ref p), y1, some (.ref L), y3, y4, none, none] ∧ Keep p H H' ∧ DrAt H' p (k + 15 + i) ∧ H' L = some (.lst (ls.map V.str)) ∧ LinesOk ls (12 + 2 * i)) ⟨D, ls, _, _, _, rfl, kp2.trans kp3, d3.mono (by omega), kp3 _ _ (d2.neStr e2) e2, by omega, w2⟩ (fun i σ H4 hi h4 => ?_) (fun σ H4 h4 => ?_)⟩⟩
    · obtain ⟨L, ls, y1, y3, y4, rfl, kp4, d4, e4, ok4⟩ := h4
      have hi : i < 3 := by omega
      have nLp := d4.neStr e4
      refine ⟨_, rfl, p, _, rfl, d4, by omega, fun H5 r5 kp5 d5 c1 c2 => ?_⟩
      have e5 := kp5 _ _ nLp e4
      have kpB := kp4.trans kp5
      have m1 := Int.emod_nonneg (r5 / 8) (show (((ls.map V.str).length : Nat) : Int) + 1 ≠ 0 by omega)
      have m2 := Int.emod_lt_of_pos (r5 / 8) (show (0 : Int) < (((ls.map V.str).length : Nat) : Int) + 1 by omega)
      obtain ⟨at_, ea⟩ : ∃ n : Nat, r5 / 8 % ((((ls.map V.str).length : Nat) : Int) + 1) = (n : Int) := ⟨(r5 / 8 % ((((ls.map V.str).length : Nat) : Int) + 1)).toNat, by omega⟩
      refine ⟨_, rfl, _, _, rfl, rfl, ⟨by decide, by decide⟩, .inl ⟨_, rfl, _, rfl, L, _, rfl, .inl (.of e5), _, _, rfl, rfl, _, _, rfl, rfl, (by omega), ?_⟩⟩
      dsimp only
      rw [ea]
      clear m1 m2 ea kp4 kp5 e4
      refine ⟨fun σ H' => ∃ (L : Addr) (ls : List Str), σ = [some (.ref p), some (natV at_), some (.ref L), some (.int (0 + (i : Int))), some (.int r5), none, none] ∧ Same H5 H' ∧ H' L = some (.lst (ls.map V.str)) ∧ LinesOk ls (12 + 2 * i), ?_, fun σ H6 hX => ?_⟩
      · refine ⟨_, rfl, .inl ⟨_, rfl, _, _, rfl, rfl, (by show (0 : Int) < 8; decide), rfl, _, rfl, ite2 (fun c => ?_) (fun c => ⟨L, ls, rfl, Same.refl _, e5, ok4⟩)⟩⟩
        refine ⟨_, rfl, _, rfl, _, rfl, L, _, rfl, .of e5, fun P1 hP1 => ?_⟩
        have sP1 := Same.new (o := .lst (cutV (ls.map V.str) none (some (at_ : Int)))) hP1
        have eP1 : (upd H5 P1 (.lst (cutV (ls.map V.str) none (some (at_ : Int))))) P1 = some (.lst ((ls.take at_).map V.str)) := by rw [upd_same, cut_to, List.map_take]
        generalize upd H5 P1 (.lst (cutV (ls.map V.str) none (some (at_ : Int)))) = H6 at sP1 eP1 ⊢
        refine ⟨_, rfl, _, rfl, _, _, rfl, rfl, _, rfl, L, _, rfl, .of (sP1 _ _ e5), fun P2 hP2 => ?_⟩
        have sP2 := Same.new (o := .lst (cutV (ls.map V.str) (some ((at_ : Int) + 1)) none)) hP2
        have eP2 : (upd H6 P2 (.lst (cutV (ls.map V.str) (some ((at_ : Int) + 1)) none))) P2 = some (.lst ((ls.drop (at_ + 1)).map V.str)) := by
          rw [upd_same, show ((at_ : Int) + 1) = ((at_ + 1 : Nat) : Int) by omega, cut_from, List.map_drop]
        generalize upd H6 P2 (.lst (cutV (ls.map V.str) (some ((at_ : Int) + 1)) none)) = H7 at sP2 eP2 ⊢
        refine ⟨P1, P2, _, _, rfl, rfl, sP2 _ _ eP1, eP2, ?_, fun P3 hP3 => ⟨P3, ls.take at_ ++ ls.drop (at_ + 1), rfl, sP1.trans (sP2.trans (Same.new hP3)), by rw [upd_same, List.map_append], ?_, fun s hs => ?_⟩⟩
        · rw [List.length_map, List.length_map, List.length_take, List.length_drop]
          have := ok4.1
          exact Nat.le_of_lt (small1000 (by omega))
        · rw [List.length_append, List.length_take, List.length_drop]
          have := ok4.1
          omega
        · rcases List.mem_append.mp hs with h | h
          · exact ok4.2 s (List.mem_of_mem_take h)
          · exact ok4.2 s (List.mem_of_mem_drop h)
      clear ok4 e5 d4 nLp
      obtain ⟨L, ls, rfl, s6, e6, ok6⟩ := hX
      refine ⟨fun σ H' => ∃ (L : Addr) (ls : List Str), σ = [some (.ref p), some (natV at_), some (.ref L), some (.int (0 + (i : Int))), some (.int r5), none, none] ∧ Same H5 H' ∧ H' L = some (.lst (ls.map V.str)) ∧ LinesOk ls (12 + 2 * i + 1), ?_, fun σ H7 hX => ?_⟩
      · refine ⟨_, rfl, .inl ⟨_, rfl, _, _, rfl, rfl, (by show (0 : Int) < 8; decide), rfl, _, rfl, ite2 (fun c => ?_) (fun c => ⟨L, ls, rfl, s6, e6, by have := ok6.1; omega, ok6.2⟩)⟩⟩
        refine ⟨_, rfl, _, rfl, _, rfl, L, _, rfl, .of e6, fun P1 hP1 => ?_⟩
        have sP1 := Same.new (o := .lst (cutV (ls.map V.str) none (some (at_ : Int)))) hP1
        have eP1 : (upd H6 P1 (.lst (cutV (ls.map V.str) none (some (at_ : Int))))) P1 = some (.lst ((ls.take at_).map V.str)) := by rw [upd_same, cut_to, List.map_take]
        generalize upd H6 P1 (.lst (cutV (ls.map V.str) none (some (at_ : Int)))) = H7 at sP1 eP1 ⊢
        refine ⟨(by show 5 ≤ sizeLine; decide), fun P2 hP2 => ?_⟩
        have sP2 := Same.new (o := .lst (insW.map V.str)) hP2
        have eP2 : (upd H7 P2 (.lst (insW.map V.str))) P2 = some (.lst (insW.map V.str)) := upd_same
        obtain ⟨s2, h2, l2⟩ := word_at (l := insW) (n := 9) (by decide +kernel) (i := r5 / 128 % 5) (Int.emod_nonneg _ (by decide)) (Int.emod_lt_of_pos _ (by decide))
        refine ⟨_, rfl, _, _, rfl, rfl, ⟨by decide, by decide⟩, .inl ⟨_, rfl, _, _, rfl, rfl, (by show (0 : Int) < 5; decide), P2, _, _, _, rfl, rfl, .of eP2, h2, ?_⟩⟩
        rw [show upd H7 P2 (.lst [V.str "", V.str " ", V.str "0 1 low", V.str "1 1 found", V.str "0 1 low "]) = upd H7 P2 (.lst (insW.map V.str)) from rfl]
        generalize upd H7 P2 (.lst (insW.map V.str)) = H8 at sP2 ⊢
        refine ⟨one, fun P3 hP3 => ?_⟩
        have sP3 := Same.new (o := .lst [V.str s2]) hP3
        have eP3 : (upd H8 P3 (.lst [V.str s2])) P3 = some (.lst [V.str s2]) := upd_same
        generalize upd H8 P3 (.lst [V.str s2]) = H9 at sP3 eP3 ⊢
        refine ⟨P1, P3, _, _, rfl, rfl, sP3 _ _ (sP2 _ _ eP1), eP3, ?_, fun P4 hP4 => ?_⟩
        · rw [List.length_map, List.length_take]
          have := ok6.1
          show _ + 1 ≤ sizeLine
          exact Nat.le_of_lt (small1000 (by omega))
        have sP4 := Same.new (o := .lst ((ls.take at_).map V.str ++ [V.str s2])) hP4
        have eP4 : (upd H9 P4 (.lst ((ls.take at_).map V.str ++ [V.str s2]))) P4 = some (.lst ((ls.take at_ ++ [s2]).map V.str)) := by
          rw [upd_same, List.map_append]
          rfl
        generalize upd H9 P4 (.lst ((ls.take at_).map V.str ++ [V.str s2])) = H10 at sP4 eP4 ⊢
        have s10 := sP1.trans (sP2.trans (sP3.trans sP4))
        refine ⟨_, rfl, _, rfl, _, rfl, L, _, rfl, .of (s10 _ _ e6), fun P5 hP5 => ?_⟩
        have sP5 := Same.new (o := .lst (cutV (ls.map V.str) (some (at_ : Int)) none)) hP5
        have eP5 : (upd H10 P5 (.lst (cutV (ls.map V.str) (some (at_ : Int)) none))) P5 = some (.lst ((ls.drop at_).map V.str)) := by rw [upd_same, cut_from, List.map_drop]
        generalize upd H10 P5 (.lst (cutV (ls.map V.str) (some (at_ : Int)) none)) = H11 at sP5 eP5 ⊢
        refine ⟨P4, P5, _, _, rfl, rfl, sP5 _ _ eP4, eP5, ?_, fun P6 hP6 => ⟨P6, ls.take at_ ++ [s2] ++ ls.drop at_, rfl, s6.trans (s10.trans (sP5.trans (Same.new hP6))), by rw [upd_same, List.map_append (l₁ := _ ++ _)], ?_, fun s hs => ?_⟩⟩
        · rw [List.length_map, List.length_map, List.length_append, List.length_take, List.length_drop, List.length_singleton]
          have := ok6.1
          exact Nat.le_of_lt (small1000 (by omega))
        · rw [List.length_append, List.length_append, List.length_take, List.length_drop, List.length_singleton]
          have := ok6.1
          omega
        · rcases List.mem_append.mp hs with h | h
          · rcases List.mem_append.mp h with h | h
            · exact ok6.2 s (List.mem_of_mem_take h)
            · rw [List.mem_singleton.mp h]; omega
          · exact ok6.2 s (List.mem_of_mem_drop h)
      clear s6 e6 ok6
      obtain ⟨L, ls, rfl, s6, e6, ok6⟩ := hX
      have kp7 := kpB.trans (.of s6)
      have d7 := d5.same s6
      refine ⟨_, rfl, .inl ⟨_, rfl, _, _, rfl, rfl, (by show (0 : Int) < 8; decide), rfl, _, rfl, ite2 (fun c => ?_) (fun c => ⟨L, ls, _, _, _, rfl, kp7, d7.mono (by omega), e6, by have := ok6.1; omega, ok6.2⟩)⟩⟩
      refine ⟨_, rfl, _, rfl, _, rfl, L, _, rfl, .of e6, fun P1 hP1 => ?_⟩
      have sP1 := Same.new (o := .lst (cutV (ls.map V.str) none (some (at_ : Int)))) hP1
      have eP1 : (upd H7 P1 (.lst (cutV (ls.map V.str) none (some (at_ : Int))))) P1 = some (.lst ((ls.take at_).map V.str)) := by rw [upd_same, cut_to, List.map_take]
      generalize upd H7 P1 (.lst (cutV (ls.map V.str) none (some (at_ : Int)))) = H8 at sP1 eP1 ⊢
      obtain ⟨hs, ehs, mem⟩ := cut_strs ls (some ((at_ : Int) - 1)) (some (at_ : Int))
      have lhs : hs.length ≤ 1 := by
        have := cut_one (ls.map V.str) at_
        rw [ehs, List.length_map] at this
        exact this
      refine ⟨_, rfl, _, rfl, _, _, rfl, rfl, _, rfl, _, rfl, _, rfl, L, _, rfl, .of (sP1 _ _ e6), fun P2 hP2 => ?_⟩
      have sP2 := Same.new (o := .lst (cutV (ls.map V.str) (some ((at_ : Int) - 1)) (some (at_ : Int)))) hP2
      have eP2 : (upd H8 P2 (.lst (cutV (ls.map V.str) (some ((at_ : Int) - 1)) (some (at_ : Int))))) P2 = some (.lst (hs.map V.str)) := by rw [upd_same, ehs]
      generalize upd H8 P2 (.lst (cutV (ls.map V.str) (some ((at_ : Int) - 1)) (some (at_ : Int)))) = H9 at sP2 eP2 ⊢
      refine ⟨P1, P2, _, _, rfl, rfl, sP2 _ _ eP1, eP2, ?_, fun P3 hP3 => ?_⟩
      · rw [List.length_map, List.length_map, List.length_take]
        have := ok6.1
        exact Nat.le_of_lt (small1000 (by omega))
      have sP3 := Same.new (o := .lst ((ls.take at_).map V.str ++ hs.map V.str)) hP3
      have eP3 : (upd H9 P3 (.lst ((ls.take at_).map V.str ++ hs.map V.str))) P3 = some (.lst ((ls.take at_ ++ hs).map V.str)) := by rw [upd_same, List.map_append]
      generalize upd H9 P3 (.lst ((ls.take at_).map V.str ++ hs.map V.str)) = H10 at sP3 eP3 ⊢
      have s10 := sP1.trans (sP2.trans sP3)
      refine ⟨_, rfl, _, rfl, _, rfl, L, _, rfl, .of (s10 _ _ e6), fun P5 hP5 => ?_⟩
      have sP5 := Same.new (o := .lst (cutV (ls.map V.str) (some (at_ : Int)) none)) hP5
      have eP5 : (upd H10 P5 (.lst (cutV (ls.map V.str) (some (at_ : Int)) none))) P5 = some (.lst ((ls.drop at_).map V.str)) := by rw [upd_same, cut_from, List.map_drop]
      generalize upd H10 P5 (.lst (cutV (ls.map V.str) (some (at_ : Int)) none)) = H11 at sP5 eP5 ⊢
      have s11 := s10.trans sP5
      refine ⟨P3, P5, _, _, rfl, rfl, sP5 _ _ eP3, eP5, ?_, fun P6 hP6 => ⟨P6, ls.take at_ ++ hs ++ ls.drop at_, _, _, _, rfl, kp7.trans (.of (s11.trans (Same.new hP6))), (d7.same (s11.trans (Same.new hP6))).mono (by omega), by rw [upd_same, List.map_append (l₁ := _ ++ _)], ?_, fun s hs' => ?_⟩⟩
      · rw [List.length_map, List.length_map, List.length_append, List.length_take, List.length_drop]
        have := ok6.1
        exact Nat.le_of_lt (small1000 (by omega))
      · rw [List.length_append, List.length_append, List.length_take, List.length_drop]
        have := ok6.1
        omega
      · rcases List.mem_append.mp hs' with h | h
        · rcases List.mem_append.mp h with h | h
          · exact ok6.2 s (List.mem_of_mem_take h)
          · exact ok6.2 s (mem s h)
        · exact ok6.2 s (List.mem_of_mem_drop h)
    · obtain ⟨L, ls, y1, y3, y4, rfl, kp4, d4, e4, ok4⟩ := h4
      exact ⟨L, ls, y1, y3, y4, rfl, kp4, d4.mono (by omega), e4, by have := ok4.1; omega, ok4.2⟩
  clear e2 d2 l2 w2 kp2 ls
  obtain ⟨L, ls, y1, y3, y4, rfl, kp3, d3, e3, ok3⟩ := hX
  have la : ∀ a b : Str, (a ++ b).length = a.length + b.length := fun a b => by
    rw [TL.len_tl, TL.tl_append, List.length_append, ← TL.len_tl, ← TL.len_tl]
  have sums : (ls.map (·.length)).sum ≤ 30 * 16 := by
    have : ∀ l : List Str, (∀ s, s ∈ l → s.length ≤ 30) → (l.map (·.length)).sum ≤ 30 * l.length := fun l => by
      induction l with
      | nil => exact fun _ => Nat.le_refl _
      | cons a r ih =>
        intro h
        have := ih fun s hs => h s (List.mem_cons_of_mem _ hs)
        have := h a List.mem_cons_self
        rw [List.map_cons, List.sum_cons, List.length_cons]
        omega
    have h1 := this ls ok3.2
    have h2 := ok3.1
    omega
  have nl : ("\n" : Str).length = 1 := by decide +kernel
  have tl : (Txt.join ("\n" : Str) ls).length ≤ 496 := by
    have h1 := join_nl ok3.2
    have h2 := ok3.1
    omega
  refine ⟨⟨_, rfl⟩, _, rfl, _, L, ls, rfl, rfl, .inl (.of e3), by rw [nl]; have := ok3.1; omega, ?_⟩
  generalize Txt.join ("\n" : Str) ls = x at tl ⊢
  refine ⟨_, rfl, p, _, rfl, d3, by omega, fun H4 r4 kp4 d4 b1 b2 => ?_⟩
  have m1 := Int.emod_nonneg (r4 / 4) (show ((x.length : Nat) : Int) + 1 ≠ 0 by omega)
  have m2 := Int.emod_lt_of_pos (r4 / 4) (show (0 : Int) < ((x.length : Nat) : Int) + 1 by omega)
  obtain ⟨at_, ea⟩ : ∃ n : Nat, r4 / 4 % (((x.length : Nat) : Int) + 1) = (n : Int) := ⟨(r4 / 4 % (((x.length : Nat) : Int) + 1)).toNat, by omega⟩
  refine ⟨_, rfl, _, _, rfl, rfl, ⟨by decide, by decide⟩, .inl ⟨_, rfl, _, rfl, x, rfl, by omega, _, _, rfl, rfl, _, _, rfl, rfl, (by omega), ?_⟩⟩
  dsimp only
  rw [ea]
  have kp5 := kp3.trans kp4
  clear m1 m2 ea kp3 kp4 d3 e3 sums ok3
  refine ⟨fun σ H' => ∃ (z : Str) (y6 : Option V), σ = [some (.ref p), some (natV at_), some (.ref L), y3, some (.int r4), some (.str z), y6] ∧ Same H4 H' ∧ z.length ≤ 500, ?_, fun σ H5 hX => ?_⟩
  · refine ⟨_, rfl, .inl ⟨_, rfl, _, _, rfl, rfl, (by show (0 : Int) < 4; decide), rfl, _, rfl, ite2 (fun c => ?_) (fun c => ⟨x, _, rfl, Same.refl _, by omega⟩)⟩⟩
    refine ⟨(by show 10 ≤ sizeLine; decide), fun P2 hP2 => ?_⟩
    have sP2 := Same.new (o := .lst (oneW.map V.str)) hP2
    have eP2 : (upd H4 P2 (.lst (oneW.map V.str))) P2 = some (.lst (oneW.map V.str)) := upd_same
    obtain ⟨s2, h2, l2⟩ := word_at (l := oneW) (n := 1) (by decide +kernel) (i := r4 / 64 % 10) (Int.emod_nonneg _ (by decide)) (Int.emod_lt_of_pos _ (by decide))
    have c2 := cutS_two x at_
    refine ⟨_, rfl, _, _, rfl, rfl, ⟨by decide, by decide⟩, .inl ⟨_, rfl, _, _, rfl, rfl, (by show (0 : Int) < 10; decide), P2, _, _, _, rfl, rfl, .of eP2, h2, ?_⟩⟩
    refine ⟨_, rfl, _, rfl, _, rfl, x, rfl, by omega, _, rfl, _, _, rfl, rfl, by omega, _, rfl, _, rfl, _, rfl, x, rfl, by omega, _, _, rfl, rfl, by rw [la]; omega, ?_⟩
    exact ⟨_, _, rfl, sP2, by rw [la, la]; omega⟩
  obtain ⟨z, y6, rfl, s5, lz⟩ := hX
  refine ⟨fun σ H' => ∃ (z : Str), σ = [some (.ref p), some (natV at_), some (.ref L), y3, some (.int r4), some (.str z), y6] ∧ H' = H5 ∧ z.length ≤ 500, ?_, fun σ H6 hX => ?_⟩
  · refine ⟨_, rfl, .inl ⟨_, rfl, _, _, rfl, rfl, (by show (0 : Int) < 4; decide), rfl, _, rfl, ite2 (fun c => ?_) (fun c => ⟨z, rfl, rfl, lz⟩)⟩⟩
    have c2 := cutS_skip z at_
    refine ⟨_, rfl, _, rfl, _, rfl, z, rfl, by omega, _, rfl, _, rfl, _, _, rfl, rfl, _, rfl, z, rfl, by omega, _, _, rfl, rfl, by omega, ?_⟩
    exact ⟨_, rfl, rfl, by rw [la]; omega⟩
  obtain ⟨z, rfl, rfl, lz⟩ := hX
  have fi := res_fine lz
  refine ⟨_, rfl, z, rfl, by omega, fun H7 q7 s7 n7 dp7 => ⟨q7, _, rfl, dp7, fi.show_, fi.dict, fi.deep, fi.len, ?_⟩⟩
  refine ⟨_, rfl, z, rfl, by omega, fun H8 q8 s8 n8 dp8 => ⟨q8, _, rfl, dp8, fi.show_, fi.dict, fi.deep, fi.len, rfl, ?_⟩⟩
  have fin := q _ (kp5.trans (.of (s5.trans (s7.trans s8)))) ((d4.same (s5.trans (s7.trans s8))).mono (by omega))
  rw [← decide_eq_true (show V.str (resT (linesT z)).shown = V.str (resT (linesT z)).shown from rfl)] at fin
  exact fin
end
end HSP
namespace HSP
open PySem PySem.Spec PyProof.Rows L2
section
variable {P : Program} {w : World} {K : PySem.W.Frag} {mg : Str → Option Value} {base : Heap}
/-! ### law -/
theorem sc_law : FnScope n_law ["script"] (defScope s_law) := ⟨rfl, rfl, rfl, by decide +kernel, rfl, by decide +kernel, by decide +kernel⟩
def spLaw (K : PySem.W.Frag) : Sp := fun vs H Q _ => ∃ (a : Addr) (ns : List Int), vs = [.ref a] ∧ SqL K H a (ns.map V.int) ∧ ns.length ≤ 63 ∧ ∀ H', Q (.bl true) H'
theorem ok_law {f : Addr} {fd : FuncData} (B : Bl mg) (F : Fun K "law" "law" s_law f fd) (D : Df P w K mg base "_law_draws" 1 ["cell"] spDraws) (R : DfG P w K mg base "_law_right" 20 ["draws"] spRight) : FnG P w K mg base CX0 21 f fd ["script"] (spLaw K) := by
  refine FnG.mk' F sc_law (fun vs H Q E h => ?_) (fun cdv A outer s H vs Q E hg hr h => ?_)
  · obtain ⟨a, ns, rfl, _⟩ := h
    rfl
  obtain ⟨a, ns, rfl, hS, h63, q⟩ := h
  refine ⟨_, PSs.nox (pss_cons (ps_for PassesOwn.never rfl (pi_list (pe_op op_cat (pe_slice sl_list (pv 0) po_none (po_some pe_int)) (pe_lst (pa_cons pe_int pa_nil)))) (pg_name (i := 1) sc_law.nd rfl (.inl rfl)) (pss_cons (ps_set (i := 2) sc_law.nd rfl (.inl rfl) (pe_df D (hr.mono (by decide)) (pa_cons (pv 1) pa_nil)))
 (pss_one (ps_for PassesOwn.never rfl (pi_range1 (by rfl) B.range (pa_cons pe_int pa_nil)) (pg_name (i := 3) sc_law.nd rfl (.inl rfl)) (pss_one (ps_if (pt_not (pt_val (pe_dfG R hg hr (pa_cons (pv 2) pa_nil)))) (pss_one (ps_ret pe_bl)) pss_nil))))))
 (pss_one (ps_ret pe_bl))), ?_⟩
  refine ⟨_, rfl, 6, rfl, a, _, rfl, hS, fun c1 hc1 => ?_⟩
  refine ⟨(by show 1 ≤ sizeLine; decide), fun c2 hc2 => ?_⟩
  have s1 := Same.new (o := .lst (cutV (ns.map V.int) none (some 6))) hc1
  have s2 := Same.new (o := .lst [V.int 0]) hc2
  refine ⟨c1, c2, _, _, rfl, rfl, s2 _ _ upd_same, upd_same, ?_, fun C hC => ?_⟩
  · have z := cutV_length (ns.map V.int) none (some 6)
    rw [List.length_map] at z
    show _ + 1 ≤ sizeLine
    exact Nat.le_of_lt (small1000 (by omega))
  have cells : ∀ x, x ∈ cutV (ns.map V.int) none (some 6) ++ [V.int 0] → ∃ z, x = V.int z := fun x hx => by
    rcases List.mem_append.mp hx with hx | hx
    · have h1 := List.mem_of_mem_take hx
      have h2 := List.mem_of_mem_drop h1
      obtain ⟨z, _, rfl⟩ := List.mem_map.mp h2
      exact ⟨z, rfl⟩
    · exact ⟨0, List.mem_singleton.mp hx⟩
  have eC : (upd (upd (upd H c1 (.lst (cutV (ns.map V.int) none (some 6)))) c2 (.lst [V.int 0])) C (.lst (cutV (ns.map V.int) none (some 6) ++ [V.int 0]))) C = some (.lst (cutV (ns.map V.int) none (some 6) ++ [V.int 0])) := upd_same
  generalize cutV (ns.map V.int) none (some 6) ++ [V.int 0] = xs at cells eC ⊢
  generalize upd (upd (upd H c1 (.lst (cutV (ns.map V.int) none (some 6)))) c2 (.lst [V.int 0])) C (.lst xs) = H1 at eC ⊢
  refine ⟨C, rfl, ⟨_, .of eC⟩, for_list (xs := xs) (fun i σ H' => ∃ y0 y1 y2 y3, σ = [y0, y1, y2, y3] ∧ H' C = some (.lst xs)) ⟨_, _, _, _, rfl, eC⟩ (fun i σ H2 _ h2 => ?_) (fun i x σ H2 hx h2 => ?_) (fun σ H2 _ => q H2)⟩
  · obtain ⟨_, _, _, _, _, e2⟩ := h2
    exact .of e2
  · obtain ⟨y0, y1, y2, y3, rfl, e2⟩ := h2
    obtain ⟨z, rfl⟩ := cells x (List.mem_of_getElem? hx)
    refine ⟨_, rfl, z, rfl, fun H3 p s3 np d3 => ?_⟩
    have nC : C ≠ p := ne_of_none e2 np
    refine ⟨6, rfl, by decide, by decide, ?_⟩
    refine for_range (lo := 0) (n := 6) (fun j σ H' => ∃ y0 y1 y3, σ = [y0, y1, some (.ref p), y3] ∧ H' C = some (.lst xs) ∧ DrAt H' p (200 * j)) ⟨_, _, _, rfl, s3 _ _ e2, d3⟩ (fun j σ H4 hj h4 => ?_) (fun σ H4 h4 => ?_)
    · obtain ⟨y0, y1, y3, rfl, e4, d4⟩ := h4
      refine ⟨_, rfl, p, 200 * j, rfl, d4, by omega, fun H5 k5 d5 => ⟨true, rfl, iteF ?_⟩⟩
      exact ⟨_, _, _, rfl, k5 C _ nC e4, d5.mono (by omega)⟩
    · obtain ⟨y0, y1, y3, rfl, e4, _⟩ := h4
      exact ⟨_, _, _, _, rfl, e4⟩
end
/-! ## what the top has written -/
theorem all_mk {l : PySem.W.OpenLaw} {w : World} {K : PySem.W.Frag} {h : Heap} {mg : Str → Option Value} {fa : Addr} (X : K.In h) (G : h.Ns mainGlobals mg) (hfa : mg "law" = some (.ref fa))
    {f1 : Addr} {od1 an1 : Option Addr} {sl1 : Array (Option Value)} {oc1 kV1 dc1 pm1 cd1 ct1 : Value}
    (a1 : PySem.W.nsIn K mainGlobals "is_number" = some (some (.ref f1))) (l1 : K.lookup f1 = some ⟨oc1, od1, .func (PySem.W.fnOf "is_number" "is_number" (defArgs s_is_number) (defBody s_is_number) (defScope s_is_number) .none kV1 dc1 pm1 an1 cd1 ct1), sl1⟩) (c1 : PySem.W.codeIn K cd1 "is_number" = true) (k1 : PySem.W.keepIn K (.ref f1) = true)
    {f2 : Addr} {od2 an2 : Option Addr} {sl2 : Array (Option Value)} {oc2 kV2 dc2 pm2 cd2 ct2 : Value}
    (a2 : PySem.W.nsIn K mainGlobals "is_line" = some (some (.ref f2))) (l2 : K.lookup f2 = some ⟨oc2, od2, .func (PySem.W.fnOf "is_line" "is_line" (defArgs s_is_line) (defBody s_is_line) (defScope s_is_line) .none kV2 dc2 pm2 an2 cd2 ct2), sl2⟩) (c2 : PySem.W.codeIn K cd2 "is_line" = true) (k2 : PySem.W.keepIn K (.ref f2) = true)
    {f3 : Addr} {od3 an3 : Option Addr} {sl3 : Array (Option Value)} {oc3 kV3 dc3 pm3 cd3 ct3 : Value}
    (a3 : PySem.W.nsIn K mainGlobals "parse_list" = some (some (.ref f3))) (l3 : K.lookup f3 = some ⟨oc3, od3, .func (PySem.W.fnOf "parse_list" "parse_list" (defArgs s_parse_list) (defBody s_parse_list) (defScope s_parse_list) .none kV3 dc3 pm3 an3 cd3 ct3), sl3⟩) (c3 : PySem.W.codeIn K cd3 "parse_list" = true) (k3 : PySem.W.keepIn K (.ref f3) = true)
    {f4 : Addr} {od4 an4 : Option Addr} {sl4 : Array (Option Value)} {oc4 kV4 dc4 pm4 cd4 ct4 : Value}
    (a4 : PySem.W.nsIn K mainGlobals "_law_draws" = some (some (.ref f4))) (l4 : K.lookup f4 = some ⟨oc4, od4, .func (PySem.W.fnOf "_law_draws" "_law_draws" (defArgs s_law_draws) (defBody s_law_draws) (defScope s_law_draws) .none kV4 dc4 pm4 an4 cd4 ct4), sl4⟩) (c4 : PySem.W.codeIn K cd4 "_law_draws" = true) (k4 : PySem.W.keepIn K (.ref f4) = true)
    {f5 : Addr} {od5 an5 : Option Addr} {sl5 : Array (Option Value)} {oc5 kV5 dc5 pm5 cd5 ct5 : Value}
    (a5 : PySem.W.nsIn K mainGlobals "_law_next" = some (some (.ref f5))) (l5 : K.lookup f5 = some ⟨oc5, od5, .func (PySem.W.fnOf "_law_next" "_law_next" (defArgs s_law_next) (defBody s_law_next) (defScope s_law_next) .none kV5 dc5 pm5 an5 cd5 ct5), sl5⟩) (c5 : PySem.W.codeIn K cd5 "_law_next" = true) (k5 : PySem.W.keepIn K (.ref f5) = true)
    {f6 : Addr} {od6 an6 : Option Addr} {sl6 : Array (Option Value)} {oc6 kV6 dc6 pm6 cd6 ct6 : Value}
    (a6 : PySem.W.nsIn K mainGlobals "_law_number" = some (some (.ref f6))) (l6 : K.lookup f6 = some ⟨oc6, od6, .func (PySem.W.fnOf "_law_number" "_law_number" (defArgs s_law_number) (defBody s_law_number) (defScope s_law_number) .none kV6 dc6 pm6 an6 cd6 ct6), sl6⟩) (c6 : PySem.W.codeIn K cd6 "_law_number" = true) (k6 : PySem.W.keepIn K (.ref f6) = true)
    {f7 : Addr} {od7 an7 : Option Addr} {sl7 : Array (Option Value)} {oc7 kV7 dc7 pm7 cd7 ct7 : Value}
    (a7 : PySem.W.nsIn K mainGlobals "_law_due" = some (some (.ref f7))) (l7 : K.lookup f7 = some ⟨oc7, od7, .func (PySem.W.fnOf "_law_due" "_law_due" (defArgs s_law_due) (defBody s_law_due) (defScope s_law_due) .none kV7 dc7 pm7 an7 cd7 ct7), sl7⟩) (c7 : PySem.W.codeIn K cd7 "_law_due" = true) (k7 : PySem.W.keepIn K (.ref f7) = true)
    {f8 : Addr} {od8 an8 : Option Addr} {sl8 : Array (Option Value)} {oc8 kV8 dc8 pm8 cd8 ct8 : Value}
    (a8 : PySem.W.nsIn K mainGlobals "_law_told" = some (some (.ref f8))) (l8 : K.lookup f8 = some ⟨oc8, od8, .func (PySem.W.fnOf "_law_told" "_law_told" (defArgs s_law_told) (defBody s_law_told) (defScope s_law_told) .none kV8 dc8 pm8 an8 cd8 ct8), sl8⟩) (c8 : PySem.W.codeIn K cd8 "_law_told" = true) (k8 : PySem.W.keepIn K (.ref f8) = true)
    {f9 : Addr} {od9 an9 : Option Addr} {sl9 : Array (Option Value)} {oc9 kV9 dc9 pm9 cd9 ct9 : Value}
    (a9 : PySem.W.nsIn K mainGlobals "_law_line" = some (some (.ref f9))) (l9 : K.lookup f9 = some ⟨oc9, od9, .func (PySem.W.fnOf "_law_line" "_law_line" (defArgs s_law_line) (defBody s_law_line) (defScope s_law_line) .none kV9 dc9 pm9 an9 cd9 ct9), sl9⟩) (c9 : PySem.W.codeIn K cd9 "_law_line" = true) (k9 : PySem.W.keepIn K (.ref f9) = true)
    {f10 : Addr} {od10 an10 : Option Addr} {sl10 : Array (Option Value)} {oc10 kV10 dc10 pm10 cd10 ct10 : Value}
    (a10 : PySem.W.nsIn K mainGlobals "_law_right" = some (some (.ref f10))) (l10 : K.lookup f10 = some ⟨oc10, od10, .func (PySem.W.fnOf "_law_right" "_law_right" (defArgs s_law_right) (defBody s_law_right) (defScope s_law_right) .none kV10 dc10 pm10 an10 cd10 ct10), sl10⟩) (c10 : PySem.W.codeIn K cd10 "_law_right" = true) (k10 : PySem.W.keepIn K (.ref f10) = true)
    {f11 : Addr} {od11 an11 : Option Addr} {sl11 : Array (Option Value)} {oc11 kV11 dc11 pm11 cd11 ct11 : Value}
    (a11 : PySem.W.nsIn K mainGlobals "law" = some (some (.ref f11))) (l11 : K.lookup f11 = some ⟨oc11, od11, .func (PySem.W.fnOf "law" "law" (defArgs s_law) (defBody s_law) (defScope s_law) .none kV11 dc11 pm11 an11 cd11 ct11), sl11⟩) (c11 : PySem.W.codeIn K cd11 "law" = true) (k11 : PySem.W.keepIn K (.ref f11) = true)
    (z0 : PySem.W.nsIn K mainGlobals "isinstance" = some none)
    (z1 : PySem.W.nsIn K mainGlobals "int" = some none)
    (z2 : PySem.W.nsIn K mainGlobals "bool" = some none)
    (z3 : PySem.W.nsIn K mainGlobals "tuple" = some none)
    (z4 : PySem.W.nsIn K mainGlobals "list" = some none)
    (z5 : PySem.W.nsIn K mainGlobals "str" = some none)
    (z6 : PySem.W.nsIn K mainGlobals "len" = some none)
    (z7 : PySem.W.nsIn K mainGlobals "range" = some none)
    (z8 : PySem.W.nsIn K mainGlobals "enumerate" = some none)
    (z9 : PySem.W.nsIn K mainGlobals "sorted" = some none)
    (z10 : PySem.W.nsIn K mainGlobals "set" = some none)
    (z11 : PySem.W.nsIn K mainGlobals "sum" = some none)
    (z12 : PySem.W.nsIn K mainGlobals "max" = some none)
    (z13 : PySem.W.nsIn K mainGlobals "abs" = some none)
    (z14 : PySem.W.nsIn K mainGlobals "zip" = some none)
    (z15 : PySem.W.nsIn K mainGlobals "min" = some none)
    (z16 : PySem.W.nsIn K mainGlobals "repr" = some none)
    (z17 : PySem.W.nsIn K mainGlobals "all" = some none)
    {C1 fI aL : Addr} {odI anI dL : Option Addr} {slI slL : Array (Option Value)} {ocI kVI dcI pmI cdI ctI : Value} {nmI qqI : Str} {NNI : Addr} {bsI : List Value} {snI : List Str} {subI : List Value} {abI : Bool} {colI : Option Bool} {dddI : Option Addr} {m0 m1 m2 m3 m5 : Option Value} {zt t1 t2 t3 t4 : Tok} {nL : Nat}
    (cg1 : PySem.W.nsIn K mainGlobals "InvalidText" = some (some (.ref C1)))
    (ci1 : PySem.W.findIn K (.ref C1) "__init__" = some (some (.ref fI)))
    (cT1 : ClsT K C1)
    (cs11 : PySem.W.subIn K (.ref C1) (.ref C1) = some true)
    (csV : PySem.W.subIn K (.ref C1) (.type "ValueError") = some true)
    (cL1 : K.lookup C1 = some (excClassObj nmI qqI C1 NNI bsI [.type "ValueError", .type "Exception", .type "BaseException", .type "object"] true snI subI abI colI dddI m0 m1 m2 m3 m5 "ValueError.__new__"))
    (csa1 : PySem.W.findIn K (.ref C1) "__setattr__" = some (some (.builtin "object.__setattr__")))
    (cn1 : PySem.W.findIn K (.ref C1) "line" = some none)
    (htI : PySem.W.typeIn K (.ref fI) = some (.type "function"))
    (clI : K.lookup fI = some ⟨ocI, odI, .func (PySem.W.fnOf "__init__" "InvalidText.__init__" (defArgs s_itInit) (defBody s_itInit) (defScope s_itInit) .none kVI dcI pmI anI cdI ctI), slI⟩)
    (ccI : PySem.W.codeIn K cdI "InvalidText.__init__" = true)
    (ckI : PySem.W.keepIn K (.ref fI) = true)
    (cvE : PySem.W.nsIn K mainGlobals "ValueError" = some none)
    (cvV : PySem.W.findCls K (.type "ValueError") (.type "type") "__init__" = some (.val (.builtin "ValueError.__init__")))
    (zdig : PySem.W.nsIn K mainGlobals "DIGITS" = some (some (.str "0123456789" zt)))
    (zlab : PySem.W.nsIn K mainGlobals "LABELS" = some (some (.ref aL)))
    (zlk : K.lookup aL = some ⟨.type "tuple", dL, .seq #[.str "dead" t1, .str "found" t2, .str "high" t3, .str "low" t4] nL, slL⟩)
    : ∃ fd : FuncData, (∀ (s : Shared) (v : Value), BindsTo s fd ⟨[v], []⟩ [("script", v)]) ∧ ∀ base : Heap, K.In base → base.Ns mainGlobals mg → FnG l.prog w K mg base CX0 21 fa fd ["script"] (spLaw K) := by
  cases hfa.symm.trans (PySem.W.mg_of X G a11)
  have B : Bl mg := ⟨PySem.W.mg_none_of X G z0, PySem.W.mg_none_of X G z1, PySem.W.mg_none_of X G z2, PySem.W.mg_none_of X G z3, PySem.W.mg_none_of X G z4, PySem.W.mg_none_of X G z5, PySem.W.mg_none_of X G z6, PySem.W.mg_none_of X G z7, PySem.W.mg_none_of X G z8, PySem.W.mg_none_of X G z9, PySem.W.mg_none_of X G z10, PySem.W.mg_none_of X G z11, PySem.W.mg_none_of X G z12, PySem.W.mg_none_of X G z13, PySem.W.mg_none_of X G z14, PySem.W.mg_none_of X G z15⟩
  have A1 : At K mg "is_number" s_is_number := ⟨_, _, PySem.W.mg_of X G a1, fun_mk l1 c1 k1⟩
  have A2 : At K mg "is_line" s_is_line := ⟨_, _, PySem.W.mg_of X G a2, fun_mk l2 c2 k2⟩
  have A3 : At K mg "parse_list" s_parse_list := ⟨_, _, PySem.W.mg_of X G a3, fun_mk l3 c3 k3⟩
  have A4 : At K mg "_law_draws" s_law_draws := ⟨_, _, PySem.W.mg_of X G a4, fun_mk l4 c4 k4⟩
  have A5 : At K mg "_law_next" s_law_next := ⟨_, _, PySem.W.mg_of X G a5, fun_mk l5 c5 k5⟩
  have A6 : At K mg "_law_number" s_law_number := ⟨_, _, PySem.W.mg_of X G a6, fun_mk l6 c6 k6⟩
  have A7 : At K mg "_law_due" s_law_due := ⟨_, _, PySem.W.mg_of X G a7, fun_mk l7 c7 k7⟩
  have A8 : At K mg "_law_told" s_law_told := ⟨_, _, PySem.W.mg_of X G a8, fun_mk l8 c8 k8⟩
  have A9 : At K mg "_law_line" s_law_line := ⟨_, _, PySem.W.mg_of X G a9, fun_mk l9 c9 k9⟩
  have A10 : At K mg "_law_right" s_law_right := ⟨_, _, PySem.W.mg_of X G a10, fun_mk l10 c10 k10⟩
  refine ⟨PySem.W.fnOf "law" "law" (defArgs s_law) (defBody s_law) (defScope s_law) .none kV11 dc11 pm11 an11 cd11 ct11, fun s v => .of_eq rfl, fun base _ _ => ?_⟩
  have FI := fun_mk (st := s_itInit) clI ccI ckI
  have OT : OwnT K mg C1 fI _ := ⟨PySem.W.mg_of X G cg1, ⟨⟨_, _, _, _, _, _, _, _, _, _, _, _, _, _, _, cL1, by decide +kernel⟩, csa1, cT1.b, cT1.t, cT1.k⟩, ci1, htI, cn1, FI, FI.binds fun _ _ _ _ _ _ us hl => match us, hl with | [_, _], _ => rfl, PySem.W.mg_none_of X G cvE, cvV⟩
  have OE : OneT K mg C1 := ⟨PySem.W.mg_of X G cg1, exm_cls cT1 cs11, cT1.exc, cT1.xf, cn1, kit_ve csV⟩
  have LA : LabsAt K mg := ⟨aL, PySem.W.mg_of X G zlab, fun H => .inr ⟨_, _, _, zlk, rfl, rfl, (by show 4 ≤ sizeLine; decide), .cons ⟨_, rfl⟩ (.cons ⟨_, rfl⟩ (.cons ⟨_, rfl⟩ (.cons ⟨_, rfl⟩ .nil)))⟩⟩
  have Nm := ok_num (P := l.prog) (w := w) (base := base) B (PySem.W.mg_none_of X G z17) (PySem.W.mg_of X G zdig) A1
  have Li := ok_line B LA Nm A2
  have Pa := ok_parse B OT Li A3
  have Dr := ok_draws (P := l.prog) (w := w) (base := base) B A4
  have N := ok_next (P := l.prog) (w := w) (base := base) B A5
  have Nb := ok_lawNum (P := l.prog) (w := w) (base := base) B A6
  have Du := ok_dueT B Nb A7
  have To := ok_toldT B (PySem.W.mg_none_of X G cvE) OE Pa A8
  have Ln := ok_lineT B N A9
  have R := ok_right B (PySem.W.mg_none_of X G z16) N Ln To Du A10
  exact ok_law B (fun_mk l11 c11 k11) Dr R
end HSP
open PySem PySem.W PyProof.Rows
set_option maxHeartbeats 0 in
theorem PySem.Challenge.cw_halfsearch_k71_texts_that_are_none_holds : PySem.Challenge.rw_halfsearch_k71_texts_that_are_none.Holds := by
  w_on; o_law; k_head; (case hw => w_witness2)
  k_fill
  refine HSP.walk_ofG (l := PySem.Challenge.rw_halfsearch_k71_texts_that_are_none) (n := 63) (k := 21) (x := "script") (sp := fun w => HSP.spLaw _) rfl (by decide) rfl ⟨rfl, by decide, by decide⟩ (fun w h Y => PySem.W.kIn_of Y) ?F (fun _ _ a ns hl _ hS => ⟨a, ns, rfl, hS, hl, fun _ => rfl⟩)
  case F =>
    intro w mg fa h KX G hmg
    refine' HSP.all_mk KX G hmg ?a1 ?l1 ?c1 ?k1 ?a2 ?l2 ?c2 ?k2 ?a3 ?l3 ?c3 ?k3 ?a4 ?l4 ?c4 ?k4 ?a5 ?l5 ?c5 ?k5 ?a6 ?l6 ?c6 ?k6 ?a7 ?l7 ?c7 ?k7 ?a8 ?l8 ?c8 ?k8 ?a9 ?l9 ?c9 ?k9 ?a10 ?l10 ?c10 ?k10 ?a11 ?l11 ?c11 ?k11 ?z0 ?z1 ?z2 ?z3 ?z4 ?z5 ?z6 ?z7 ?z8 ?z9 ?z10 ?z11 ?z12 ?z13 ?z14 ?z15 ?z16 ?z17 ?cg1 ?ci1 ?cT1 ?cs11 ?csV ?cL1 ?csa1 ?cn1 ?htI ?clI ?ccI ?ckI ?cvE ?cvV ?zdig ?zlab ?zlk
    (case a1 => k_is)
    (case l1 => k_is)
    (case c1 => k_is)
    (case k1 => k_is)
    (case a2 => k_is)
    (case l2 => k_is)
    (case c2 => k_is)
    (case k2 => k_is)
    (case a3 => k_is)
    (case l3 => k_is)
    (case c3 => k_is)
    (case k3 => k_is)
    (case a4 => k_is)
    (case l4 => k_is)
    (case c4 => k_is)
    (case k4 => k_is)
    (case a5 => k_is)
    (case l5 => k_is)
    (case c5 => k_is)
    (case k5 => k_is)
    (case a6 => k_is)
    (case l6 => k_is)
    (case c6 => k_is)
    (case k6 => k_is)
    (case a7 => k_is)
    (case l7 => k_is)
    (case c7 => k_is)
    (case k7 => k_is)
    (case a8 => k_is)
    (case l8 => k_is)
    (case c8 => k_is)
    (case k8 => k_is)
    (case a9 => k_is)
    (case l9 => k_is)
    (case c9 => k_is)
    (case k9 => k_is)
    (case a10 => k_is)
    (case l10 => k_is)
    (case c10 => k_is)
    (case k10 => k_is)
    (case a11 => k_is)
    (case l11 => k_is)
    (case c11 => k_is)
    (case k11 => k_is)
    (case z0 => k_is)
    (case z1 => k_is)
    (case z2 => k_is)
    (case z3 => k_is)
    (case z4 => k_is)
    (case z5 => k_is)
    (case z6 => k_is)
    (case z7 => k_is)
    (case z8 => k_is)
    (case z9 => k_is)
    (case z10 => k_is)
    (case z11 => k_is)
    (case z12 => k_is)
    (case z13 => k_is)
    (case z14 => k_is)
    (case z15 => k_is)
    (case z16 => k_is)
    (case z17 => k_is)
    (case cg1 => k_is)
    (case ci1 => k_is)
    (case cT1 => exact ⟨by k_is, by k_is, by k_is, ⟨_, by k_is⟩, by k_is, by k_is, by k_is, by k_is, by k_is, by k_is, by k_is⟩)
    (case cs11 => k_is)
    (case csV => k_is)
    (case cL1 => k_is)
    (case csa1 => k_is)
    (case cn1 => k_is)
    (case htI => k_is)
    (case clI => k_is)
    (case ccI => k_is)
    (case ckI => k_is)
    (case cvE => k_is)
    (case cvV => k_is)
    (case zdig => k_is)
    (case zlab => k_is)
    (case zlk => k_is)
