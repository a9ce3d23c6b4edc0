import PyProof.Rows.All
import Wide.All
import OpenK.AllK
import Wide.FinOn
import HandS.Base
import HandS.Call
import HandS.List
import HandS.Comp
import HandS.Ends
import HandS.Dict
import HandS.Iter
import HandS.Text
import HandS.Words
import HandS.WordsList
import HandS.Wide
import HandS.Strs
import HandS.SetFor
import HandS.SortInts
import HandS.Defaults
import HandS.IsInst
import HandS.Walk
import HandS.Codes
import HandS.Exc
import HandS.ExcValue
import HandS.SortKw
import KE.DatumOrd
import HandS.Deep
import HandS.ForSpec
import KE.KTryMore
import HandS.ExcField
import HandS.ExcIs
import HandS.WordsExc
import HandS.ExcOwn
import HandS.ExcInit
import HandS.Conv
import HandS.GenCall
import HandS.GenList
import KE.SortData
import HandS.Gcd
import KE.KMathGC
import PySem.Challenge.RW_halfsearch_k14_whole_patterns_are_cuttin
set_option Elab.async false
set_option maxRecDepth 100000
namespace HSP
open PySem PySem.Spec PyProof.Rows L2
/-! ## trees of pairs, as they lie in the heap -/
inductive Tr where
  | nil
  | nod (l r : Tr)
  deriving DecidableEq
def Tr.size : Tr → Nat
  | .nil => 0
  | .nod l r => l.size + 1 + r.size
def Tr.ht : Tr → Nat
  | .nil => 0
  | .nod l r => max l.ht r.ht + 1
theorem Tr.ht_le : ∀ t : Tr, t.ht ≤ t.size
  | .nil => Nat.le_refl _
  | .nod l r => by
    have h1 := l.ht_le
    have h2 := r.ht_le
    simp only [Tr.ht, Tr.size]
    omega
inductive TrAt (H : Hp) : V → Tr → Prop
  | nil : TrAt H .non .nil
  | nod {a : Addr} {x y : V} {l r : Tr} : H a = some (.tup [x, y]) → TrAt H x l → TrAt H y r → TrAt H (.ref a) (.nod l r)
theorem TrAt.keep {H H' : Hp} {v : V} {t : Tr} (h : TrAt H v t) (s : ∀ a x y, H a = some (.tup [x, y]) → H' a = some (.tup [x, y])) : TrAt H' v t := by
  induction h with
  | nil => exact .nil
  | nod e _ _ ih1 ih2 => exact .nod (s _ _ _ e) ih1 ih2
theorem TrAt.same {H H' : Hp} {v : V} {t : Tr} (h : TrAt H v t) (s : Same H H') : TrAt H' v t := h.keep fun a x y e => s a _ e
/-! ## heaps: all but one place stays -/
def Keep (p : Addr) (H H' : Hp) : Prop := ∀ b o, b ≠ p → H b = some o → H' b = some o
theorem Keep.refl (p : Addr) (H : Hp) : Keep p H H := fun _ _ _ e => e
theorem Keep.trans {p : Addr} {H H1 H2 : Hp} (a : Keep p H H1) (b : Keep p H1 H2) : Keep p H H2 := fun c o n e => b c o n (a c o n e)
theorem Keep.of {p : Addr} {H H' : Hp} (s : Same H H') : Keep p H H' := fun b o _ e => s b o e
theorem Keep.at {p : Addr} {H : Hp} {o : HO} : Keep p H (upd H p o) := fun b u n e => by
  rw [upd_ne n]; exact e
theorem Keep.new {p q : Addr} {H : Hp} {o : HO} (h : H q = none) : Keep p H (upd H q o) := fun b u _ e => by
  rw [upd_ne (ne_of_none e h)]; exact e
theorem Keep.tree {p : Addr} {H H' : Hp} {v : V} {t : Tr} {xs : List V} (k : Keep p H H') (hp : H p = some (.lst xs)) (h : TrAt H v t) : TrAt H' v t :=
  h.keep fun a x y e => k a _ (fun z => by rw [z, hp] at e; cases e) e
theorem Same.new {H : Hp} {p : Addr} {o : HO} (h : H p = none) : Same H (upd H p o) := fun b u e => by
  rw [upd_ne (ne_of_none e h)]; exact e
theorem Keep.same {p : Addr} {H H1 H' : Hp} (s : Same H H1) (n : H p = none) (k : Keep p H1 H') : Same H H' := fun b o e => k b o (ne_of_none e n) (s b o e)
/-! ## powers -/
def CPowW (i j : Int) : Prop := 0 ≤ j ∧ (Builtin.Int.intBits i : Int) * j ≤ 2 ^ 27
section
variable {X : Cx}
theorem op_powW : OpR X (binaryOp .Pow) (rI CPowW fun i j => .int (i ^ j.toNat)) :=
  opI fun _ _ _ _ _ _ _ hc q => pow_int hc.1 hc.2 q
end
end HSP
namespace HSP
open PySem PySem.Spec PyProof.Rows L2
/-! ## the representative -/
/-- the value nearest to v between two bounds -/
def clamp (lo hi : Option Int) (v : Int) : Int := match lo with
  | some l => if v ≤ l then l else match hi with
    | some h => if v ≥ h then h else v
    | none => v
  | none => match hi with
    | some h => if v ≥ h then h else v
    | none => v
/-- the values of the representative, in the order of the nodes -/
def repOf (g : Nat → Int) : Tr → Nat → Option Int → Option Int → List Int
  | .nil, _, _, _ => []
  | .nod l r, f, lo, hi => repOf g l f lo (some (clamp lo hi (g (f + l.size)))) ++ clamp lo hi (g (f + l.size)) :: repOf g r (f + l.size + 1) (some (clamp lo hi (g (f + l.size)))) hi
theorem repOf_nod (g : Nat → Int) (l r : Tr) (f : Nat) (lo hi : Option Int) : repOf g (.nod l r) f lo hi = repOf g l f lo (some (clamp lo hi (g (f + l.size)))) ++ clamp lo hi (g (f + l.size)) :: repOf g r (f + l.size + 1) (some (clamp lo hi (g (f + l.size)))) hi := rfl
theorem repOf_len (g : Nat → Int) : ∀ (t : Tr) (f : Nat) (lo hi : Option Int), (repOf g t f lo hi).length = t.size
  | .nil, _, _, _ => rfl
  | .nod l r, f, lo, hi => by
    rw [repOf_nod, List.length_append, List.length_cons, repOf_len g l, repOf_len g r]
    show _ = l.size + 1 + r.size
    omega
/-- bounds that do not cross -/
def Straight (lo hi : Option Int) : Prop := ∀ l h, lo = some l → hi = some h → l ≤ h
theorem straight_none : Straight none none := fun l h e => by cases e
theorem clamp_in {lo hi : Option Int} (s : Straight lo hi) (v : Int) : Straight lo (some (clamp lo hi v)) ∧ Straight (some (clamp lo hi v)) hi := by
  constructor
  · intro l h e1 e2
    subst e1
    cases e2
    cases hi with
    | none => show l ≤ if v ≤ l then l else v; split <;> omega
    | some d =>
      have := s l d rfl rfl
      show l ≤ if v ≤ l then l else if v ≥ d then d else v
      split <;> (try split) <;> omega
  · intro l h e1 e2
    subst e2
    cases e1
    cases lo with
    | none => show (if v ≥ h then h else v) ≤ h; split <;> omega
    | some d =>
      have := s d h rfl rfl
      show (if v ≤ d then d else if v ≥ h then h else v) ≤ h
      split <;> (try split) <;> omega
def upTo (hi : Option Int) (x : Int) : Prop := ∀ h, hi = some h → x ≤ h
def downTo (lo : Option Int) (x : Int) : Prop := ∀ l, lo = some l → l ≤ x
theorem rep_in {g : Nat → Int} : ∀ (t : Tr) (f : Nat) (lo hi : Option Int), Straight lo hi → (repOf g t f lo hi).Pairwise (· ≤ ·) ∧ ∀ x, x ∈ repOf g t f lo hi → downTo lo x ∧ upTo hi x
  | .nil, _, _, _, _ => ⟨.nil, fun x h => by cases h⟩
  | .nod l r, f, lo, hi, s => by
    rw [repOf_nod]
    obtain ⟨s1, s2⟩ := clamp_in s (g (f + l.size))
    obtain ⟨a1, a2⟩ := rep_in l f lo (some (clamp lo hi (g (f + l.size)))) s1
    obtain ⟨b1, b2⟩ := rep_in r (f + l.size + 1) (some (clamp lo hi (g (f + l.size)))) hi s2
    refine ⟨List.pairwise_append.mpr ⟨a1, List.pairwise_cons.mpr ⟨fun x hx => (b2 x hx).1 _ rfl, b1⟩, fun x hx y hy => ?_⟩, fun x hx => ?_⟩
    · have h1 := (a2 x hx).2 _ rfl
      rcases List.mem_cons.mp hy with z | z
      · rw [z]; exact h1
      · exact Int.le_trans h1 ((b2 y z).1 _ rfl)
    · rcases List.mem_append.mp hx with z | z
      · exact ⟨(a2 x z).1, fun h e => Int.le_trans ((a2 x z).2 _ rfl) (s2 _ _ rfl e)⟩
      · rcases List.mem_cons.mp z with z | z
        · rw [z]
          exact ⟨fun l e => s1 _ _ e rfl, fun h e => s2 _ _ rfl e⟩
        · exact ⟨fun l e => Int.le_trans (s1 _ _ e rfl) ((b2 x z).1 _ rfl), (b2 x z).2⟩
theorem clamp_id {lo hi : Option Int} {v : Int} (h1 : downTo lo v) (h2 : upTo hi v) : clamp lo hi v = v := by
  cases lo with
  | none => cases hi with
    | none => rfl
    | some h => have := h2 h rfl; show (if v ≥ h then h else v) = v; split <;> omega
  | some l => have := h1 l rfl; cases hi with
    | none => show (if v ≤ l then l else v) = v; split <;> omega
    | some h => have := h2 h rfl; show (if v ≤ l then l else if v ≥ h then h else v) = v; split <;> (try split) <;> omega
end HSP
namespace HSP
open PySem PySem.Spec PyProof.Rows L2
/-! ## a def of the text that keeps a promise, called by its name -/
/-- the def stands under its own name behind the top -/
def At (K : PySem.W.Frag) (mg : Str → Option Value) (x : Str) (st : Stmt) : Prop := ∃ (f : Addr) (fd : FuncData), mg x = some (.ref f) ∧ Fun K x x st f fd
structure Df (P : Program) (w : World) (K : PySem.W.Frag) (mg : Str → Option Value) (base : Heap) (x : Str) (n : Nat) (ps : List Str) (sp : Sp) : Prop where
  ex : ∃ (f : Addr) (fd : FuncData), mg x = some (.ref f) ∧ PySem.W.keepIn K (.ref f) = true ∧ Binds K fd ps [] ∧ FnOk P w K mg base CX0 n f fd ps sp
section
variable {P : Program} {w : World} {K : PySem.W.Frag} {mg : Str → Option Value} {base : Heap}
theorem Df.mk' {x : Str} {st : Stmt} {N ps : List Str} {k : Nat} {sp : Sp} (a : At K mg x st) (S : FnScope N ps (defScope st)) (len : ∀ vs H Q E, sp vs H Q E → vs.length = ps.length)
    (hb : ∀ (kV doc pm : Value) (an : Option Addr) (cdv ct : Value) (us : List Value), us.length = ps.length → bindArgs (PySem.W.fnOf x x (defArgs st) (defBody st) (defScope st) .none kV doc pm an cdv ct) ⟨us, []⟩ = pure (ps.zip us))
    (body : ∀ (f : Addr) (cdv : Value) (A : Around) (outer : List Env) (s : Shared) (H : Hp) (vs : List V) (Q : VK) (E : XK), Room k (A.deeper (envOfC x (defScope st) s.heap.objs.size f cdv)) → sp vs H Q E →
      ∃ t, PSs (cxOf CX0 P w K mg base N x (defScope st) f cdv A outer s H E).nox (defBody st) t ∧ t { nx := fun _ H' => Q .non H', rt := Q } (start N vs) H) : Df P w K mg base x (k + 1) ps sp := by
  obtain ⟨f, fd, hm, F⟩ := a
  exact ⟨f, fd, hm, F.kp, F.binds hb, F.ok S len (body f)⟩
theorem Df.mono {x : Str} {j k : Nat} {ps : List Str} {sp : Sp} (D : Df P w K mg base x j ps sp) (h : j ≤ k) : Df P w K mg base x k ps sp := by
  obtain ⟨f, fd, a, b, c, d⟩ := D.ex
  exact ⟨f, fd, a, b, c, d.mono h⟩
theorem Df.imp {x : Str} {k : Nat} {ps : List Str} {sp sp' : Sp} (D : Df P w K mg base x k ps sp) (h : ∀ vs H Q E, sp' vs H Q E → sp vs H Q E) : Df P w K mg base x k ps sp' := by
  obtain ⟨f, fd, a, b, c, d⟩ := D.ex
  exact ⟨f, fd, a, b, c, d.imp h⟩
end
section
variable {X : Cx} {k : Nat} {ps : List Str} {sp : Sp} {x : Str} {p pos : Pos} {e : Expr} {es : List Expr} {t : TA}
theorem pe_df (D : Df X.prog X.w X.K X.mg X.base x k ps sp) (hr : Room k X.A) (ha : PA X (e :: es) t) (hg : Gl X x := by rfl) (hdb : (x == ("__debug__" : Str)) = false := by decide)
    (he : starEach (e :: es) X.env = (false, eval e X.env) :: starEach es X.env := by rfl) (hpl : (backTo pos (starEach es X.env)).any (·.1) = false := by rfl) : PE X (.Call (.Name x p) (e :: es) [] pos) (tCall sp [] E0 t) := by
  obtain ⟨f, fd, hm, hk, hb, F⟩ := D.ex
  exact pe_call F hr hg hm hk hb .nil pass0 ha hdb he hpl
end
/-! ## what a test or a value is -/
theorem int_inj {i j : Int} (h : i = j) : V.int i = V.int j := by rw [h]
/-! ## the built-ins, not shadowed -/
structure Bl (mg : Str → Option Value) : Prop where
  isinstance : mg "isinstance" = none
  int : mg "int" = none
  bool : mg "bool" = none
  tuple : mg "tuple" = none
  list : mg "list" = none
  str : mg "str" = none
  len : mg "len" = none
  range : mg "range" = none
  enumerate : mg "enumerate" = none
  sorted : mg "sorted" = none
  set : mg "set" = none
  sum : mg "sum" = none
  max : mg "max" = none
  abs : mg "abs" = none
  zip : mg "zip" = none
  min : mg "min" = none
end HSP
namespace HSP
open PySem PySem.Spec PyProof.Rows L2
theorem Paired.app {α β : Type} {R : α → β → Prop} : ∀ {l : List α} {m : List β} {l' : List α} {m' : List β}, Paired R l m → Paired R l' m' → Paired R (l ++ l') (m ++ m')
  | _, _, _, _, .nil, h => h
  | _, _, _, _, .cons a t, h => .cons a (Paired.app t h)
theorem ixN_in {n : Nat} {i : Int} (h0 : 0 ≤ i) (h1 : i < (n : Int)) : ixN n i = some i.toNat := by
  unfold ixN
  rw [if_pos h0, if_pos h1]
def valAt (ns : List Int) (i : Nat) : Int := ns.getD i 0
theorem valAt_get {ns : List Int} {i : Nat} (h : i < ns.length) : (ns.map V.int)[i]? = some (.int (valAt ns i)) := by
  rw [List.getElem?_map, List.getElem?_eq_getElem h, valAt, List.getD_eq_getElem?_getD, List.getElem?_eq_getElem h]
  rfl
def natV (n : Nat) : V := .int (n : Int)
theorem ite_no {c A B : Prop} [Decidable c] (h : ¬ c) (b : B) : if decide c = true then A else B := by
  rw [decide_eq_false h]
  exact iteF b
theorem ite_yes {c A B : Prop} [Decidable c] (h : c) (a : A) : if decide c = true then A else B := by
  rw [decide_eq_true h]
  exact iteT a
inductive Md where
  | fin | lft | rgt
def Md.str : Md → Str
  | .fin => "end"
  | .lft => "left"
  | .rgt => "right"
/-- where a search goes on -/
def wayOf (tw v : Int) (m : Md) : Md := if tw = 2 * v then m else if tw < 2 * v then .lft else .rgt
/-! ### the search, as a function of the tree -/
/-- how it ends: is it found, and the node or the gap -/
def sEnd (g : Nat → Int) (tw : Int) (m : Md) : Tr → Nat → Bool × Nat
  | .nil, f => (false, f)
  | .nod l r, f => match wayOf tw (g (f + l.size)) m with
    | .fin => (true, f + l.size)
    | .lft => sEnd g tw m l f
    | .rgt => sEnd g tw m r (f + l.size + 1)
theorem sEnd_nod (g : Nat → Int) (tw : Int) (m : Md) (l r : Tr) (f : Nat) : sEnd g tw m (.nod l r) f = match wayOf tw (g (f + l.size)) m with | .fin => (true, f + l.size) | .lft => sEnd g tw m l f | .rgt => sEnd g tw m r (f + l.size + 1) := rfl
/-- the nodes at which it is -/
def sPath (g : Nat → Int) (tw : Int) (m : Md) : Tr → Nat → List Nat
  | .nil, _ => []
  | .nod l r, f => (f + l.size) :: match wayOf tw (g (f + l.size)) m with
    | .fin => []
    | .lft => sPath g tw m l f
    | .rgt => sPath g tw m r (f + l.size + 1)
theorem sPath_in (g : Nat → Int) (tw : Int) (m : Md) : ∀ (t : Tr) (f i : Nat), i ∈ sPath g tw m t f → f ≤ i ∧ i < f + t.size
  | .nil, _, _, h => by cases h
  | .nod l r, f, i, h => by
    have e : sPath g tw m (.nod l r) f = (f + l.size) :: match wayOf tw (g (f + l.size)) m with | .fin => [] | .lft => sPath g tw m l f | .rgt => sPath g tw m r (f + l.size + 1) := rfl
    have z : (Tr.nod l r).size = l.size + 1 + r.size := rfl
    rw [e] at h
    rw [z]
    rcases List.mem_cons.mp h with q | q
    · omega
    · cases w : wayOf tw (g (f + l.size)) m with
      | fin => rw [w] at q; cases q
      | lft =>
        rw [w] at q
        have := sPath_in g tw m l f i q
        omega
      | rgt =>
        rw [w] at q
        have := sPath_in g tw m r (f + l.size + 1) i q
        omega
theorem sPath_len (g : Nat → Int) (tw : Int) (m : Md) : ∀ (t : Tr) (f : Nat), (sPath g tw m t f).length ≤ t.size
  | .nil, _ => Nat.le_refl _
  | .nod l r, f => by
    have e : sPath g tw m (.nod l r) f = (f + l.size) :: match wayOf tw (g (f + l.size)) m with | .fin => [] | .lft => sPath g tw m l f | .rgt => sPath g tw m r (f + l.size + 1) := rfl
    have z : (Tr.nod l r).size = l.size + 1 + r.size := rfl
    rw [e, z, List.length_cons]
    cases wayOf tw (g (f + l.size)) m with
    | fin => show 0 + 1 ≤ _; omega
    | lft => have := sPath_len g tw m l f; show (sPath g tw m l f).length + 1 ≤ _; omega
    | rgt => have := sPath_len g tw m r (f + l.size + 1); show (sPath g tw m r (f + l.size + 1)).length + 1 ≤ _; omega
def optNV : Option Nat → V
  | none => .non
  | some n => natV n
def kindV (b : Bool) : V := if b = true then .str "found" else .str "gap"
end HSP
namespace HSP
open PySem PySem.Spec PyProof.Rows L2
/-! ## trees of halving, trees put together -/
/-- the tree of halving, to so many levels -/
def halv : Nat → Nat → Tr
  | 0, _ => .nil
  | _ + 1, 0 => .nil
  | k + 1, m + 1 => .nod (halv k ((m + 1) / 2)) (halv k (m + 1 - (m + 1) / 2 - 1))
theorem half_lt {k m : Nat} (h : m + 1 < 2 ^ (k + 1)) : (m + 1) / 2 < 2 ^ k ∧ m + 1 - (m + 1) / 2 - 1 < 2 ^ k := by
  have e : 2 ^ (k + 1) = 2 ^ k * 2 := Nat.pow_succ 2 k
  omega
theorem halv_size : ∀ (k m : Nat), m < 2 ^ k → (halv (k + 1) m).size = m
  | _, 0, _ => rfl
  | 0, m + 1, h => by
    have e : 2 ^ 0 = 1 := rfl
    omega
  | k + 1, m + 1, h => by
    obtain ⟨h1, h2⟩ := half_lt h
    show (halv (k + 1) ((m + 1) / 2)).size + 1 + (halv (k + 1) (m + 1 - (m + 1) / 2 - 1)).size = m + 1
    rw [halv_size k _ h1, halv_size k _ h2]
    omega
theorem halv_ht : ∀ (k m : Nat), (halv k m).ht ≤ k
  | 0, _ => Nat.le_refl _
  | _ + 1, 0 => Nat.zero_le _
  | k + 1, m + 1 => by
    have h1 := halv_ht k ((m + 1) / 2)
    have h2 := halv_ht k (m + 1 - (m + 1) / 2 - 1)
    show max (halv k ((m + 1) / 2)).ht (halv k (m + 1 - (m + 1) / 2 - 1)).ht + 1 ≤ k + 1
    omega
/-- the trees, with a node between each two -/
def joinT : Nat → List Tr → Tr
  | 0, _ => .nil
  | n + 1, ts => if ts.length = 1 then ts.headD .nil else .nod (joinT n (ts.take (ts.length / 2))) (joinT n (ts.drop (ts.length / 2)))
/-- how many nodes that makes -/
def wide : List Tr → Nat
  | [] => 0
  | [t] => t.size
  | t :: r => t.size + 1 + wide r
theorem wide_app : ∀ (a b : List Tr), a ≠ [] → b ≠ [] → wide (a ++ b) = wide a + 1 + wide b
  | [], _, h, _ => absurd rfl h
  | [t], [], _, h => absurd rfl h
  | [t], u :: r, _, _ => rfl
  | t :: u :: r, b, _, hb => by
    have ih := wide_app (u :: r) b (by simp) hb
    show t.size + 1 + wide ((u :: r) ++ b) = t.size + 1 + wide (u :: r) + 1 + wide b
    rw [ih]
    omega
theorem take_ne {α : Type} {l : List α} (h : 2 ≤ l.length) : l.take (l.length / 2) ≠ [] := fun z => by
  have := congrArg List.length z
  rw [List.length_take, List.length_nil] at this
  omega
theorem drop_ne {α : Type} {l : List α} (h : 2 ≤ l.length) : l.drop (l.length / 2) ≠ [] := fun z => by
  have := congrArg List.length z
  rw [List.length_drop, List.length_nil] at this
  omega
theorem half_len {n : Nat} {α : Type} {l : List α} (h : l.length ≤ 2 ^ (n + 1)) : (l.take (l.length / 2)).length ≤ 2 ^ n ∧ (l.drop (l.length / 2)).length ≤ 2 ^ n := by
  have e : 2 ^ (n + 1) = 2 ^ n * 2 := Nat.pow_succ 2 n
  rw [List.length_take, List.length_drop]
  omega
theorem one_list {α : Type} {l : List α} (h : l ≠ []) (h2 : l.length ≤ 2 ^ 0) : ∃ t, l = [t] := by
  match l, h, h2 with
  | [], h, _ => exact absurd rfl h
  | [t], _, _ => exact ⟨t, rfl⟩
  | _ :: _ :: r, _, h2 =>
    have e : 2 ^ 0 = 1 := rfl
    rw [List.length_cons, List.length_cons] at h2
    omega
/-- what joinT makes, by halves -/
theorem join_ind {P : Nat → List Tr → Tr → Prop} (h1 : ∀ n t, P (n + 1) [t] t) (h2 : ∀ n a b x y, a ≠ [] → b ≠ [] → P n a x → P n b y → P (n + 1) (a ++ b) (.nod x y)) : ∀ (n : Nat) (ts : List Tr), ts ≠ [] → ts.length ≤ 2 ^ n → P (n + 1) ts (joinT (n + 1) ts)
  | 0, ts, hne, hl => by
    obtain ⟨t, rfl⟩ := one_list hne hl
    exact h1 0 t
  | n + 1, ts, hne, hl => by
    by_cases c : ts.length = 1
    · obtain ⟨t, rfl⟩ := one_list hne (Nat.le_of_eq c)
      exact h1 (n + 1) t
    · have c2 : 2 ≤ ts.length := by
        cases ts with
        | nil => exact absurd rfl hne
        | cons a r =>
          rw [List.length_cons] at c ⊢
          omega
      obtain ⟨l1, l2⟩ := half_len hl
      have a := join_ind h1 h2 n (ts.take (ts.length / 2)) (take_ne c2) l1
      have b := join_ind h1 h2 n (ts.drop (ts.length / 2)) (drop_ne c2) l2
      have z := h2 (n + 1) _ _ _ _ (take_ne c2) (drop_ne c2) a b
      rw [List.take_append_drop] at z
      show P (n + 1 + 1) ts (if ts.length = 1 then ts.headD .nil else .nod (joinT (n + 1) (ts.take (ts.length / 2))) (joinT (n + 1) (ts.drop (ts.length / 2))))
      rw [if_neg c]
      exact z
theorem join_size (n : Nat) (ts : List Tr) (h : ts ≠ []) (hl : ts.length ≤ 2 ^ n) : (joinT (n + 1) ts).size = wide ts :=
  join_ind (P := fun _ ts t => t.size = wide ts) (fun _ _ => rfl) (fun n a b x y ha hb e1 e2 => by
    show x.size + 1 + y.size = wide (a ++ b)
    rw [wide_app a b ha hb, e1, e2]) n ts h hl
theorem join_ht (m : Nat) (n : Nat) (ts : List Tr) (h : ts ≠ []) (hl : ts.length ≤ 2 ^ n) (hm : ∀ t, t ∈ ts → t.ht ≤ m) : (joinT (n + 1) ts).ht ≤ n + m := by
  have z := join_ind (P := fun k ts t => (∀ u, u ∈ ts → u.ht ≤ m) → t.ht + 1 ≤ k + m) (fun n t hm => by
    have := hm t (List.mem_singleton.mpr rfl)
    omega) (fun n a b x y ha hb e1 e2 hm => by
    have h1 := e1 fun u hu => hm u (List.mem_append_left _ hu)
    have h2 := e2 fun u hu => hm u (List.mem_append_right _ hu)
    show max x.ht y.ht + 1 + 1 ≤ n + 1 + m
    omega) n ts h hl hm
  omega
end HSP
namespace HSP
open PySem PySem.Spec PyProof.Rows L2
/-! ## goals of a list -/
structure GoalOk (g r : Nat → Int) (n : Nat) : Prop where
  up : ∀ i, i + 1 < n → r i ≤ r (i + 1)
  st : ∀ i, i < n → (i = 0 ∨ r (i - 1) ≠ r i) → r i ≤ g i
  en : ∀ i, i < n → (i + 1 = n ∨ r (i + 1) ≠ r i) → g i ≤ r i
  ex : ∀ i, i < n → ∃ j, j < n ∧ r j = r i ∧ g j = r i
theorem clamp_ge {lo hi : Option Int} {v : Int} (s : Straight lo hi) (h : lo ≠ some (clamp lo hi v)) : clamp lo hi v ≤ v := by
  cases lo with
  | none => cases hi with
    | none => exact Int.le_refl _
    | some b =>
      show (if v ≥ b then b else v) ≤ v
      split <;> omega
  | some a => cases hi with
    | none =>
      have e : clamp (some a) none v = if v ≤ a then a else v := rfl
      rw [e] at h ⊢
      by_cases c : v ≤ a
      · rw [if_pos c] at h
        exact absurd rfl h
      · rw [if_neg c]
        exact Int.le_refl _
    | some b =>
      have e : clamp (some a) (some b) v = if v ≤ a then a else if v ≥ b then b else v := rfl
      rw [e] at h ⊢
      by_cases c : v ≤ a
      · rw [if_pos c] at h
        exact absurd rfl h
      · rw [if_neg c]
        split <;> omega
theorem clamp_le {lo hi : Option Int} {v : Int} (s : Straight lo hi) (h : hi ≠ some (clamp lo hi v)) : v ≤ clamp lo hi v := by
  cases hi with
  | none => cases lo with
    | none => exact Int.le_refl _
    | some a =>
      show v ≤ if v ≤ a then a else v
      split <;> omega
  | some b => cases lo with
    | none =>
      have e : clamp none (some b) v = if v ≥ b then b else v := rfl
      rw [e] at h ⊢
      by_cases c : v ≥ b
      · rw [if_pos c] at h
        exact absurd rfl h
      · rw [if_neg c]
        exact Int.le_refl _
    | some a =>
      have e : clamp (some a) (some b) v = if v ≤ a then a else if v ≥ b then b else v := rfl
      have ab := s a b rfl rfl
      rw [e] at h ⊢
      by_cases c : v ≤ a
      · rw [if_pos c]
        exact c
      · rw [if_neg c] at h ⊢
        by_cases d : v ≥ b
        · rw [if_pos d] at h
          exact absurd rfl h
        · rw [if_neg d]
          exact Int.le_refl _
theorem get_app {α : Type} {a b : List α} {c : α} {i : Nat} : (a ++ c :: b)[i]? = if i < a.length then a[i]? else if i = a.length then some c else b[i - a.length - 1]? := by
  by_cases h : i < a.length
  · rw [if_pos h, List.getElem?_append_left h]
  · rw [if_neg h, List.getElem?_append_right (by omega)]
    by_cases e : i = a.length
    · rw [if_pos e, e, Nat.sub_self]
      rfl
    · rw [if_neg e, show i - a.length = (i - a.length - 1) + 1 by omega, List.getElem?_cons_succ]
      rfl
theorem up_get {l : List Int} (h : l.Pairwise (· ≤ ·)) {i j : Nat} {x y : Int} (hij : i < j) (hx : l[i]? = some x) (hy : l[j]? = some y) : x ≤ y := by
  obtain ⟨h1, e1⟩ := List.getElem?_eq_some_iff.mp hx
  obtain ⟨h2, e2⟩ := List.getElem?_eq_some_iff.mp hy
  rw [← e1, ← e2]
  exact List.pairwise_iff_getElem.mp h i j h1 h2 hij
/-- a block of the representative starts at a value that is not less, ends at one that is not greater, and holds an equal one -/
theorem rep_blocks {g : Nat → Int} : ∀ (t : Tr) (f : Nat) (lo hi : Option Int), Straight lo hi →
    (∀ (i : Nat) (v : Int), (repOf g t f lo hi)[i]? = some v → lo ≠ some v → (i = 0 ∨ (repOf g t f lo hi)[i - 1]? ≠ some v) → v ≤ g (f + i)) ∧
    (∀ (i : Nat) (v : Int), (repOf g t f lo hi)[i]? = some v → hi ≠ some v → (repOf g t f lo hi)[i + 1]? ≠ some v → g (f + i) ≤ v) ∧
    ∀ (i : Nat) (v : Int), (repOf g t f lo hi)[i]? = some v → lo ≠ some v → hi ≠ some v → ∃ j : Nat, (repOf g t f lo hi)[j]? = some v ∧ g (f + j) = v
  | .nil, f, lo, hi, _ => ⟨fun i v h => (by cases h), fun i v h => (by cases h), fun i v h => (by cases h)⟩
  | .nod l r, f, lo, hi, s => by
    obtain ⟨s1, s2⟩ := clamp_in s (g (f + l.size))
    obtain ⟨a1, a2, a3⟩ := rep_blocks (g := g) l f lo (some (clamp lo hi (g (f + l.size)))) s1
    obtain ⟨b1, b2, b3⟩ := rep_blocks (g := g) r (f + l.size + 1) (some (clamp lo hi (g (f + l.size)))) hi s2
    obtain ⟨u1, m1⟩ := rep_in (g := g) l f lo (some (clamp lo hi (g (f + l.size)))) s1
    obtain ⟨u2, m2⟩ := rep_in (g := g) r (f + l.size + 1) (some (clamp lo hi (g (f + l.size)))) hi s2
    have ge : lo ≠ some (clamp lo hi (g (f + l.size))) → clamp lo hi (g (f + l.size)) ≤ g (f + l.size) := clamp_ge s
    have le : hi ≠ some (clamp lo hi (g (f + l.size))) → g (f + l.size) ≤ clamp lo hi (g (f + l.size)) := clamp_le s
    have ll := repOf_len g l f lo (some (clamp lo hi (g (f + l.size))))
    rw [repOf_nod]
    generalize clamp lo hi (g (f + l.size)) = c at *
    generalize repOf g l f lo (some c) = Rl at *
    generalize repOf g r (f + l.size + 1) (some c) hi = Rr at *
    have lowR : ∀ {j : Nat} {v : Int}, Rr[j]? = some v → c ≤ v := fun h => (m2 _ (List.mem_of_getElem? h)).1 c rfl
    have highL : ∀ {j : Nat} {v : Int}, Rl[j]? = some v → v ≤ c := fun h => (m1 _ (List.mem_of_getElem? h)).2 c rfl
    refine ⟨fun i v h hlo st => ?_, fun i v h hhi en => ?_, fun i v h hlo hhi => ?_⟩
    · rw [get_app] at h
      by_cases c1 : i < Rl.length
      · rw [if_pos c1] at h
        refine a1 i v h hlo (st.imp id fun q => ?_)
        rw [get_app, if_pos (by omega)] at q
        exact q
      · rw [if_neg c1] at h
        by_cases c2 : i = Rl.length
        · rw [if_pos c2] at h
          cases h
          rw [c2, ll]
          exact ge hlo
        · rw [if_neg c2] at h
          have cv : c ≠ v := fun z => by
            rcases st with q | q
            · omega
            · rw [get_app, if_neg (by omega)] at q
              by_cases c3 : i - 1 = Rl.length
              · rw [if_pos c3] at q
                exact q (congrArg some z)
              · rw [if_neg c3] at q
                obtain ⟨y, hy⟩ : ∃ y, Rr[i - 1 - Rl.length - 1]? = some y := ⟨_, List.getElem?_eq_getElem (by have := (List.getElem?_eq_some_iff.mp h).1; omega)⟩
                have h1 := up_get u2 (show i - 1 - Rl.length - 1 < i - Rl.length - 1 by omega) hy h
                have h2 := lowR hy
                rw [hy] at q
                exact q (congrArg some (by omega))
          have z := b1 (i - Rl.length - 1) v h (fun z => cv (Option.some.inj z)) (by
            by_cases c3 : i - Rl.length - 1 = 0
            · exact .inl c3
            · refine .inr ?_
              rcases st with q | q
              · omega
              · rw [get_app, if_neg (by omega), if_neg (by omega)] at q
                rw [show i - Rl.length - 1 - 1 = i - 1 - Rl.length - 1 by omega]
                exact q)
          rw [show f + l.size + 1 + (i - Rl.length - 1) = f + i by omega] at z
          exact z
    · rw [get_app] at h
      by_cases c1 : i < Rl.length
      · rw [if_pos c1] at h
        have cv : c ≠ v := fun z => by
          rw [get_app] at en
          by_cases c2 : i + 1 < Rl.length
          · rw [if_pos c2] at en
            obtain ⟨y, hy⟩ : ∃ y, Rl[i + 1]? = some y := ⟨_, List.getElem?_eq_getElem c2⟩
            have h1 := up_get u1 (Nat.lt_succ_self i) h hy
            have h2 := highL hy
            rw [hy] at en
            exact en (congrArg some (by omega))
          · rw [if_neg c2, if_pos (by omega)] at en
            exact en (congrArg some z)
        refine a2 i v h (fun z => cv (Option.some.inj z)) ?_
        by_cases c2 : i + 1 < Rl.length
        · rw [get_app, if_pos c2] at en
          exact en
        · rw [List.getElem?_eq_none (by omega)]
          exact fun z => by cases z
      · rw [if_neg c1] at h
        by_cases c2 : i = Rl.length
        · rw [if_pos c2] at h
          cases h
          rw [c2, ll]
          exact le hhi
        · rw [if_neg c2] at h
          have z := b2 (i - Rl.length - 1) v h hhi (by
            rw [get_app, if_neg (by omega), if_neg (by omega)] at en
            rw [show i - Rl.length - 1 + 1 = i + 1 - Rl.length - 1 by omega]
            exact en)
          rw [show f + l.size + 1 + (i - Rl.length - 1) = f + i by omega] at z
          exact z
    · by_cases cv : v = c
      · have h1 := ge (by rw [← cv]; exact hlo)
        have h2 := le (by rw [← cv]; exact hhi)
        refine ⟨Rl.length, ?_, by rw [ll]; omega⟩
        rw [get_app, if_neg (by omega), if_pos rfl, cv]
      · rw [get_app] at h
        by_cases c1 : i < Rl.length
        · rw [if_pos c1] at h
          obtain ⟨j, h1, h2⟩ := a3 i v h hlo (fun z => cv (Option.some.inj z).symm)
          refine ⟨j, ?_, h2⟩
          rw [get_app, if_pos (List.getElem?_eq_some_iff.mp h1).1]
          exact h1
        · rw [if_neg c1] at h
          by_cases c2 : i = Rl.length
          · rw [if_pos c2] at h
            exact absurd (Option.some.inj h).symm cv
          · rw [if_neg c2] at h
            obtain ⟨j, h1, h2⟩ := b3 _ v h (fun z => cv (Option.some.inj z).symm) hhi
            refine ⟨Rl.length + 1 + j, ?_, ?_⟩
            · rw [get_app, if_neg (by omega), if_neg (by omega), show Rl.length + 1 + j - Rl.length - 1 = j by omega]
              exact h1
            · rw [← h2]
              exact congrArg g (by omega)
theorem rep_goal {g : Nat → Int} {t : Tr} {n : Nat} (hn : t.size = n) {r : Nat → Int} (hr : ∀ i, i < n → (repOf g t 0 none none)[i]? = some (r i)) : GoalOk g r n := by
  obtain ⟨a, b, c⟩ := rep_blocks (g := g) t 0 none none straight_none
  have up := (rep_in (g := g) t 0 none none straight_none).1
  have len := repOf_len g t 0 none none
  generalize repOf g t 0 none none = R at *
  refine ⟨fun i h => up_get up (Nat.lt_succ_self i) (hr i (by omega)) (hr (i + 1) h), fun i h st => ?_, fun i h en => ?_, fun i h => ?_⟩
  · have z := a i (r i) (hr i h) (fun z => by cases z) (by
      by_cases c : i = 0
      · exact .inl c
      · refine .inr ?_
        rw [hr (i - 1) (by omega)]
        exact fun z => (st.resolve_left c) (Option.some.inj z))
    rw [Nat.zero_add] at z
    exact z
  · have z := b i (r i) (hr i h) (fun z => by cases z) (by
      by_cases c : i + 1 < n
      · rw [hr (i + 1) c]
        exact fun z => (en.resolve_left (by omega)) (Option.some.inj z)
      · rw [List.getElem?_eq_none (by omega)]
        exact fun z => by cases z)
    rw [Nat.zero_add] at z
    exact z
  · obtain ⟨j, h1, h2⟩ := c i (r i) (hr i h) (fun z => by cases z) (fun z => by cases z)
    have hj := (List.getElem?_eq_some_iff.mp h1).1
    rw [Nat.zero_add] at h2
    rw [hr j (by omega)] at h1
    exact ⟨j, by omega, Option.some.inj h1, h2⟩
end HSP
namespace HSP
open PySem PySem.Spec PyProof.Rows L2
/-! ## defs that may show an object: nothing is being shown around them -/
structure FnG (P : Program) (w : World) (K : PySem.W.Frag) (mg : Str → Option Value) (base : Heap) (CX : CXT) (k : Nat) (f : Addr) (fd : FuncData) (ps : List Str) (sp : Sp) : Prop where
  len : ∀ vs H Q E, sp vs H Q E → vs.length = ps.length
  run : ∀ (A : Around) (outer : List Env) (s : Shared) (H : Hp) (args : Args) (us : List Value) (vs : List V) (Q : VK) (E : XK), A.guards = some [] → Room k A → Env0 P w K mg base A outer s H → BindsTo s fd args (ps.zip us) → Vals vs us → sp vs H Q E →
    codeAny (model P w) A (.call (.ref f) args) (CR CX outer P w H s Q E) s
section
variable {P : Program} {w : World} {K : PySem.W.Frag} {mg : Str → Option Value} {base : Heap}
theorem FnG.of {CX : CXT} {k : Nat} {f : Addr} {fd : FuncData} {ps : List Str} {sp : Sp} (F : FnOk P w K mg base CX k f fd ps sp) : FnG P w K mg base CX k f fd ps sp :=
  ⟨F.len, fun A outer s H args us vs Q E _ hr e hb hv hs => F.run A outer s H args us vs Q E hr e hb hv hs⟩
theorem FnG.mk' {CX : CXT} {x qual : Str} {st : Stmt} {f : Addr} {fd : FuncData} {N ps : List Str} {k : Nat} {sp : Sp} (F : Fun K x qual st f fd) (S : FnScope N ps (defScope st)) (len : ∀ vs H Q E, sp vs H Q E → vs.length = ps.length)
    (body : ∀ (cdv : Value) (A : Around) (outer : List Env) (s : Shared) (H : Hp) (vs : List V) (Q : VK) (E : XK), A.guards = some [] → Room k (A.deeper (envOfC qual (defScope st) s.heap.objs.size f cdv)) → sp vs H Q E →
      ∃ t, PSs (cxOf CX P w K mg base N qual (defScope st) f cdv A outer s H E) (defBody st) t ∧ t { nx := fun _ H' => Q .non H', rt := Q } (start N vs) H) : FnG P w K mg base CX (k + 1) f fd ps sp := by
  obtain ⟨oc, od, kV, doc, pm, an, cdv, ct, osl, e1, lk, hcd⟩ := F.ex
  subst e1
  refine ⟨len, fun A outer s H args us vs Q E hg hr e0 hb rv hs => ?_⟩
  have kin : K.In s.heap := e0.mod.kin.keeps fun b o e => (e0.bs b o e).1
  have nol : s.heap.NoLimit := e0.mod.nolimit.keeps fun b o e => (e0.bs b o e).1
  have kinds : ∀ y ∈ ps.zip us, (defScope st).names.lookup y.1 = some .local ∨ ((defScope st).names.lookup y.1 = some .cell ∧ ((cellsFrom (s.heap.objs.size + 1) (defScope st).names []).lookup y.1).isSome = true) := by
    intro y hy
    refine (S.par y.1 (List.of_mem_zip (a := y.1) (b := y.2) hy).1).imp id fun c => ⟨c, PySem.W.cellsFrom_some _ _ _ (.inl c)⟩
  refine codeAny_call_function hr.depth (kin _ _ lk) rfl S.co S.gen rfl (PySem.W.codeRec_of kin hcd) (hb _ _ _ _ (wpAny_newFunctionEnv_cells S.kind kinds fun env he s1 x => ?_))
  subst he
  obtain ⟨t, ht, hq⟩ := body cdv A outer s H vs Q E hg (hr.deeper _) hs
  have I := inv_start (CX := CX) (E := E) S hr.hd e0 (len _ _ _ _ hs) rv x
  refine ⟨nol.keeps x.toInCall.keep, codeAny_func (wpAny_mono (ht.run [] s1 (start N vs) H _ I hq) (fun fl s' q => ?_) fun _ _ q => q)⟩
  match fl, q with
  | .ret u, ⟨v, σ', H', J, r, q⟩ => exact ⟨v, H', J.os, J.bare, J.base, J.hok, r, q⟩
  | .next, ⟨σ', H', J, q⟩ => exact ⟨.non, H', J.os, J.bare, J.base, J.hok, rfl, q⟩
  | .brk, ⟨_, _, _, q⟩ => exact q.elim
  | .cont, ⟨_, _, _, q⟩ => exact q.elim
end
end HSP
namespace HSP
open PySem PySem.Spec PyProof.Rows L2
theorem deeper_guards (A : Around) (env : Env) : (A.deeper env).guards = A.guards := rfl
/-! ### calls of such defs -/
structure DfG (P : Program) (w : World) (K : PySem.W.Frag) (mg : Str → Option Value) (base : Heap) (x : Str) (n : Nat) (ps : List Str) (sp : Sp) : Prop where
  ex : ∃ (f : Addr) (fd : FuncData), mg x = some (.ref f) ∧ PySem.W.keepIn K (.ref f) = true ∧ Binds K fd ps [] ∧ FnG P w K mg base CX0 n f fd ps sp
section
variable {P : Program} {w : World} {K : PySem.W.Frag} {mg : Str → Option Value} {base : Heap}
theorem DfG.mk' {x : Str} {st : Stmt} {N ps : List Str} {k : Nat} {sp : Sp} (a : At K mg x st) (S : FnScope N ps (defScope st)) (len : ∀ vs H Q E, sp vs H Q E → vs.length = ps.length)
    (hb : ∀ (kV doc pm : Value) (an : Option Addr) (cdv ct : Value) (us : List Value), us.length = ps.length → bindArgs (PySem.W.fnOf x x (defArgs st) (defBody st) (defScope st) .none kV doc pm an cdv ct) ⟨us, []⟩ = pure (ps.zip us))
    (body : ∀ (f : Addr) (cdv : Value) (A : Around) (outer : List Env) (s : Shared) (H : Hp) (vs : List V) (Q : VK) (E : XK), A.guards = some [] → Room k (A.deeper (envOfC x (defScope st) s.heap.objs.size f cdv)) → sp vs H Q E →
      ∃ t, PSs (cxOf CX0 P w K mg base N x (defScope st) f cdv A outer s H E).nox (defBody st) t ∧ t { nx := fun _ H' => Q .non H', rt := Q } (start N vs) H) : DfG P w K mg base x (k + 1) ps sp := by
  obtain ⟨f, fd, hm, F⟩ := a
  refine ⟨f, fd, hm, F.kp, F.binds hb, FnG.mk' F S len fun cdv A outer s H vs Q E hg hr hs => ?_⟩
  obtain ⟨t, h1, h2⟩ := body f cdv A outer s H vs Q E hg hr hs
  exact ⟨t, h1.nox, h2⟩
end
section
variable {X : Cx} {k n : Nat} {ps ks : List Str} {sp : Sp} {x : Str} {p pos : Pos} {e : Expr} {es : List Expr} {kws : List Keyword} {t tk : TA} {f : Addr} {fd : FuncData} {ds : List Value} {dvs : List V} {g : List Value → List Value → List Value} {gV : List V → List V → List V}
theorem pe_dfG (D : DfG X.prog X.w X.K X.mg X.base x k ps sp) (hgd : X.A.guards = some []) (hr : Room k X.A) (ha : PA X (e :: es) t) (hg : Gl X x := by rfl) (hdb : (x == ("__debug__" : Str)) = false := by decide)
    (he : starEach (e :: es) X.env = (false, eval e X.env) :: starEach es X.env := by rfl) (hpl : (backTo pos (starEach es X.env)).any (·.1) = false := by rfl) : PE X (.Call (.Name x p) (e :: es) [] pos) (tCall sp [] E0 t) := by
  obtain ⟨f, fd, hm, hk, hb, F⟩ := D.ex
  refine ⟨fun pins s σ H Q I h => wpAny_Call_Name_kw (ld_glob I hg hm ?_ hdb)⟩
  refine PySem.W.callWith_K (h₀ := X.base) I.ok.mod.kin hk (thn (ha.run pos pins s σ H _ I h) fun us s1 z => ?_) he hpl
  obtain ⟨vs, H1, I1, r, q⟩ := z
  refine ⟨I1.kIn, ?_⟩
  have q' : sp vs H1 Q E0 := by
    have z : sp (vs ++ []) H1 Q E0 := q
    rw [List.append_nil] at z
    exact z
  have l1 : (us ++ []).length = ps.length := by rw [List.append_nil, ← r.length]; exact F.len _ _ _ _ q'
  have hb' := hb s1 us I1.kIn l1
  rw [List.append_nil] at hb'
  refine wpAny_call (codeAny_mono (F.run X.A X.stack s1 H1 ⟨us, []⟩ us vs Q E0 hgd hr I1.env0 hb' r q') fun res s' hq => ?_)
  match res, hq with
  | .error _, hq => exact (show False from hq).elim
  | .ok (.ret u), hq => exact I1.after hq
/-- f(k = v, ..): keywords alone -/
theorem pe_callK0 {CX : CXT} {E : XK} (F : FnOk X.prog X.w X.K X.mg X.base CX k f fd ps sp) (hr : Room k X.A) (hg : Gl X x) (hm : X.mg x = some (.ref f)) (hk : PySem.W.keepIn X.K (.ref f) = true) (hb : KBn X.K fd ps 0 ks g gV) (hx : Passes CX X E) (hkw : PK X kws tk)
    (hall : (backToKw pos (keywordEach kws X.env)).all (·.1.isSome) = true := by rfl) (hks : (backToKw pos (keywordEach kws X.env)).filterMap (·.1) = ks := by rfl) (hdb : (x == ("__debug__" : Str)) = false := by decide)
    (hpl : (backToKw pos (keywordEach kws X.env)).any (·.1.isNone) = false := by rfl) : PE X (.Call (.Name x p) [] kws pos) (tCallN 0 ks.length sp gV E tNil tk) := by
  refine ⟨fun pins s σ H Q I h => wpAny_Call_Name_kw (ld_glob I hg hm ?_ hdb)⟩
  refine PySem.W.callWith_KW0 (h₀ := X.base) I.ok.mod.kin hk hall (thn (hkw.run pos pins s σ H _ I h) fun ws s1 z => ?_) hpl
  obtain ⟨zs, H1, I1, rz, l1, l2, q⟩ := z
  rw [hks]
  exact ⟨I1.kIn, run_fnN (us := []) F hr hb hx I1 .nil rz l1 l2 q⟩
/-! ### repr of data -/
def rReprD (K : PySem.W.Frag) : List V → Hp → VK → Prop := fun vs H Q => ∃ (a : Addr) (d : PyData), vs = [.ref a] ∧ Dp K H (.ref a) d ∧ d.showable = true ∧ d.hasDict = false ∧ d.depth ≤ 60 ∧ d.shown.length ≤ sizeLine ∧ Q (.str d.shown) H
theorem cr_reprD (hgd : X.A.guards = some []) (hu : X.A.units + 64 < cLine) : CallR X (.builtin "repr") (rReprD X.K) := by
  intro pins s σ H vs us Q I r h
  obtain ⟨a, d, rfl, hd, hs, hn, h60, hz, q⟩ := h
  rw [Vals.ref1 r]
  obtain ⟨as, rd⟩ := Dp.reads I d (.ref a) (.ref a) hd rfl
  exact repr_of_reads' rd hs (fun z => by rw [hn] at z; cases z) hgd (by omega) (fun _ _ e => e) (fun h' u tk kp => ⟨.str _, H, I.kept kp, ⟨u, rfl⟩, q⟩) hz
end
end HSP
namespace HSP
open PySem PySem.Spec PyProof.Rows L2
/-! ## the law's call, where nothing is being shown -/
section
variable {P : Program} {w : World} {K : PySem.W.Frag} {mg mb : Str → Option Value} {k : Nat} {fa a : Addr} {fd : FuncData} {x : Str} {sp : Sp} {s1 : Shared} {vs : List Value} {ns : List Int}
/-- from an abstract heap that tracks nothing but, perhaps, the script -/
theorem callG_core (kin : K.In s1.heap) (hns : s1.heap.Ns mainGlobals mg) (hb : s1.heap.Ns builtinsNs mb) (hbb : ∀ x : Str, x ≠ "__name__" → mb x = bootBuiltins x) (hlim : s1.heap.NoLimit) (hg : s1.gens = #[])
    (ha : s1.heap.get? a = some { cls := .type "list", data := .seq vs.toArray }) (hr : Room k callerA) (F : ∀ base : Heap, K.In base → base.Ns mainGlobals mg → FnG P w K mg base CX0 k fa fd [x] sp)
    (hbind : ∀ (s : Shared) (u : Value), BindsTo s fd ⟨[u], []⟩ [(x, u)]) (H : Hp) (hO : Only H) (hsp : sp [.ref a] H (fun v _ => v = .bl true) fun _ _ _ => False) (hok : HOk P w H s1.heap) (hA : ∀ b o, H b = some o → b = a) (hK : ∀ o, H a = some o → K.lookup a = none) :
    codeAny (model P w) callerA (.call (.ref fa) ⟨[.ref a], []⟩) (fun r s' => r = .ok (.ret (.bool true)) ∧ OldK s1.heap s'.heap ∧ s'.os = s1.os ∧ AllBare s'.gens) s1 := by
  -- no dict is tracked
  have free : ∀ {b : Addr} {o : Obj} {es : Array DictEntry} {ep : Nat}, s1.heap.get? b = some o → o.data = .dict es ep → H b = none := by
    intro b o es ep e d
    match q : H b with
    | none => rfl
    | some u =>
      rw [hA b u q, ha] at e
      cases e
      cases d
  have nsB : ∀ {b : Addr} {m : Str → Option Value}, s1.heap.Ns b m → (hidT s1.heap H).Ns b m := by
    intro b m h
    obtain ⟨o, es, ep, e, d, r⟩ := h
    exact ⟨o, es, ep, hidT_get e (free e d), d, r⟩
  have kinB : K.In (hidT s1.heap H) := by
    intro b o e
    refine hidT_get (kin b o e) ?_
    match q : H b with
    | none => rfl
    | some u =>
      have eb := hA b u q
      rw [eb] at e q
      rw [hK u q] at e
      cases e
  have md : Mod K mg (hidT s1.heap H) := by
    obtain ⟨mc, c1, c2⟩ := hlim
    exact ⟨kinB, nsB hns, ⟨mb, nsB hb, hbb⟩, mc, nsB c1, c2⟩
  have env : Env0 P w K mg (hidT s1.heap H) callerA [] s1 H := ⟨rfl, md, fun b o e => of_hidT e, Nat.le_of_eq (hidT_size _ _), trivial, (fun b z => by cases z), hok, .of_eq hg⟩
  refine codeAny_mono ((F _ kinB (nsB hns)).run callerA [] s1 H ⟨[.ref a], []⟩ [.ref a] [.ref a] _ _ rfl hr env (hbind s1 (.ref a)) (.cons rfl .nil) hsp) fun r s' h => ?_
  match r, h with
  | .error _, h => exact (show False from h).elim
  | .ok (.ret u), h =>
    obtain ⟨v, H', os, bare, un, hok', rv, q⟩ := h
    have q' : v = .bl true := q
    rw [q'] at rv
    have eu : u = Value.bool true := rv
    rw [eu]
    refine ⟨rfl, OldK.of_keep fun b o e => ?_, os, bare⟩
    match q : H b with
    | none => exact un.keep b o e q (fun z => by cases z) (fun z => by cases z)
    | some u =>
      rcases hO b with z | ⟨ob, xs, z⟩
      · rw [q] at z
        cases z
      · have b1 := (hok b _ z).1
        have b2 := (hok' b _ (un.frzs b ob _ z)).1
        rw [e] at b1
        cases b1
        exact b2
theorem law_callG (kin : K.In s1.heap) (hns : s1.heap.Ns mainGlobals mg) (hb : s1.heap.Ns builtinsNs mb) (hbb : ∀ x : Str, x ≠ "__name__" → mb x = bootBuiltins x) (hlim : s1.heap.NoLimit) (hg : s1.gens = #[])
    (ha : s1.heap.get? a = some { cls := .type "list", data := .seq vs.toArray }) (hi : IntsAre vs ns) (hl : ns.length ≤ sizeLine) (hr : Room k callerA) (F : ∀ base : Heap, K.In base → base.Ns mainGlobals mg → FnG P w K mg base CX0 k fa fd [x] sp)
    (hbind : ∀ (s : Shared) (u : Value), BindsTo s fd ⟨[u], []⟩ [(x, u)]) (hsp : ∀ H : Hp, Only H → SqL K H a (ns.map V.int) → sp [.ref a] H (fun v _ => v = .bl true) fun _ _ _ => False) :
    codeAny (model P w) callerA (.call (.ref fa) ⟨[.ref a], []⟩) (fun r s' => r = .ok (.ret (.bool true)) ∧ OldK s1.heap s'.heap ∧ s'.os = s1.os ∧ AllBare s'.gens) s1 := by
  have rv := vals_ints hi
  have le : vs.length = ns.length := hi.length
  match hk : K.lookup a with
  | some o =>
    have e := kin a o hk
    rw [ha] at e
    cases e
    refine callG_core kin hns hb hbb hlim hg ha hr F hbind (fun _ => none) (fun _ => .inl rfl) (hsp _ (fun _ => .inl rfl) ?_) (fun b u z => by cases z) (fun b o z => by cases z) (fun o z => by cases z)
    exact .inr ⟨_, vs.toArray, _, hk, rfl, rfl, rfl, by rw [List.size_toArray, le]; exact hl, by rw [List.toList_toArray]; exact rv⟩
  | none =>
    let H : Hp := fun b => if b = a then some (.frz { cls := .type "list", data := .seq vs.toArray } (.lst (ns.map V.int))) else none
    have at_a : H a = some (.frz { cls := .type "list", data := .seq vs.toArray } (.lst (ns.map V.int))) := if_pos rfl
    have off : ∀ b, b ≠ a → H b = none := fun b n => if_neg n
    have only : Only H := fun b => by
      by_cases c : b = a
      · rw [c]; exact .inr ⟨_, _, at_a⟩
      · exact .inl (off b c)
    refine callG_core kin hns hb hbb hlim hg ha hr F hbind H only (hsp H only (.inl (.inr ⟨_, at_a⟩))) (fun b u z => ?_) (fun b o z => ?_) (fun _ _ => hk)
    · by_cases c : b = a
      · rw [c] at z ⊢
        rw [at_a] at z
        cases z
        exact ⟨ha, by rw [List.length_map]; exact hl, vs, _, rv, ha⟩
      · rw [off b c] at z
        cases z
    · by_cases c : b = a
      · exact c
      · rw [off b c] at z
        cases z
end
/-- what the head leaves, from the law's promise -/
theorem walk_ofG {l : PySem.W.OpenLaw} {n k : Nat} {q : Program} {loose : List Str} {XP : (Str → Option Value) → Heap → Prop} {YP : World → Heap → Prop} {d : DefRec} {K : Params → PySem.W.Frag} {sp : World → Sp} {x : Str} (hn : l.most = some n) (hn2 : n ≤ sizeLine) (hdf : d.params.defaults = []) (hr : Room k callerA)
    (hY : ∀ (w : World) (h : Heap), YP w h → (K w.params).In h)
    (F : ∀ (w : World) (mg : Str → Option Value) (fa : Addr) (h : Heap), (K w.params).In h → h.Ns mainGlobals mg → mg d.name = some (.ref fa) → ∃ fd : FuncData, (∀ (s : Shared) (u : Value), BindsTo s fd ⟨[u], []⟩ [(x, u)]) ∧
        ∀ base : Heap, (K w.params).In base → base.Ns mainGlobals mg → FnG l.prog w (K w.params) mg base CX0 k fa fd [x] (sp w))
    (hsp : ∀ (w : World) (H : Hp) (a : Addr) (ns : List Int), ns.length ≤ n → Only H → SqL (K w.params) H a (ns.map V.int) → sp w [.ref a] H (fun v _ => v = .bl true) fun _ _ _ => False) : PySem.W.WalkO q loose XP YP l.row.toRowW d [] (fun f vs => PySem.call f vs) := by
  refine Att.attach_call hn hdf fun w s0 s1 mg mb fa o pm cd doc a vs ns G Y ho hd hcd hmg hobj hints hlen hg => ?_
  obtain ⟨fd, hbd, hF⟩ := F w mg fa _ (hY w _ Y) G.T.g hmg
  exact law_callG (hY w _ Y) G.T.g G.T.b G.T.builtins G.T.nolimit hg hobj hints (Nat.le_trans hlen hn2) hr hF hbd fun H hO hS => hsp w H a ns hlen hO hS
end HSP
namespace HSP
open PySem PySem.Spec PyProof.Rows L2
/-! ## sum(rows, start): lists put behind one another -/
/-- a list object with these items -/
def LO (its : List Value) (n : Nat) : Obj := { cls := .type "list", data := .seq its.toArray n }
section
variable {prog : Program} {w : World} {A : Around}
theorem sumL_loop {I S : Addr} {fp wr : List Addr} {n : Nat} {Pv : Nat → Value → Prop} {St : Nat → Heap → Prop} (W : Walks prog w A.in1 I fp wr n Pv St) (hS : S ∉ fp) (row : Nat → Addr) (part : Nat → List Value) (hv : ∀ i v, Pv i v → v = .ref (row i)) (R : Result → Shared → Prop)
    (most : Nat) (hmost : most ≤ sizeLine) (hfp : ∀ i h, St i h → ∀ b ∈ fp, b < h.objs.size) :
    ∀ (k i : Nat) (s : Shared) (T : Addr) (acc : List Value) (c cT : Nat), n - i = k → i ≤ n → St i s.heap → s.heap.get? S = some (LO [.ref T] c) → s.heap.get? T = some (LO acc cT) → T ≠ S → T ∉ wr →
      (∀ j, j < n → row j ≠ S ∧ row j ∉ wr ∧ ∃ m, s.heap.get? (row j) = some (LO (part j) m)) → acc.length + (((List.range n).drop i).map fun j => (part j).length).sum ≤ most →
      (∀ (s' : Shared) (T' : Addr) (c' : Nat), (∀ b o, b ∉ wr → b ≠ S → s.heap.get? b = some o → s'.heap.get? b = some o) → s'.gens = s.gens → s'.drawn = s.drawn → s'.os = s.os →
        s'.heap.get? T' = some (LO (acc ++ (((List.range n).drop i).map part).flatten) c') → T' ≠ S → T' ∉ wr → (i = n ∧ T' = T ∨ s.heap.get? T' = none) → R (.ok (.ret (.ref T'))) s') →
      codeAny (model prog w) A (.builtin "sum.loop" ⟨[.ref I, .ref S, rawInt 2, rawInt 0], []⟩) R s := by
  have hSw : S ∉ wr := fun h => hS (W.sub _ h)
  intro k
  induction k with
  | zero =>
    intro i s T acc c cT hk hi hst eS eT nTS nTw rows hz hR
    obtain rfl : i = n := by omega
    refine codeAny_builtin F.entry_sum_loop ?_
    rw [Around.under_plainId F.plain_sum_loop _]
    show wpAny _ A.in1 (seqItems? (.ref S) >>= _) _ _ s
    refine wpAny_bind (wpAny_seqItems eS rfl (wpAny_bind (wpAny_tryCatch (W.done s _ _ hst fun h' tk kp => ?_))))
    have e0 : ((List.range i).drop i) = [] := List.drop_eq_nil_of_le (by rw [List.length_range]; exact Nat.le_refl _)
    refine wpAny_pure (hR { s with heap := h', toks := tk } T cT (fun b o n1 _ e => kp b o n1 e) rfl rfl rfl ?_ nTS nTw (.inl ⟨rfl, rfl⟩))
    rw [e0, List.map_nil, List.flatten_nil, List.append_nil]
    exact kp T _ nTw eT
  | succ k ih =>
    intro i s T acc c cT hk hi hst eS eT nTS nTw rows hz hR
    have hlt : i < n := by omega
    have ed : (List.range n).drop i = i :: (List.range n).drop (i + 1) := by
      have q := List.drop_eq_getElem_cons (l := List.range n) (i := i) (by rw [List.length_range]; exact hlt)
      rw [List.getElem_range] at q
      exact q
    rw [ed, List.map_cons, List.sum_cons] at hz
    refine codeAny_builtin F.entry_sum_loop ?_
    rw [Around.under_plainId F.plain_sum_loop _]
    show wpAny _ A.in1 (seqItems? (.ref S) >>= _) _ _ s
    refine wpAny_bind (wpAny_seqItems eS rfl (wpAny_bind (wpAny_tryCatch (W.item i s _ _ hlt hst fun v h1 tk hp hst1 kp => ?_))))
    obtain rfl := hv i v hp
    obtain ⟨nrS, nrw, m, er⟩ := rows i hlt
    have eS1 := kp S _ hSw eS
    have eT1 := kp T _ nTw eT
    have er1 := kp (row i) _ nrw er
    show wpAny _ A.in1 ((holding [Value.ref (row i)] (binaryOp .Add (.ref T) (.ref (row i)))).attempt >>= _) _ _ _
    refine wpAny_bind (wpAny_attempt (wpAny_holding (PySem.P.add_list eT1 er1 ?_ (by rw [List.size_toArray, List.size_toArray]; omega))))
    dsimp only
    have z1 : h1.objs.size ≠ S := fun z => by
      have q : S < h1.objs.size := Heap.lt_size eS1
      rw [z] at q
      exact Nat.lt_irrefl _ q
    have eS2 := Heap.get?_push_of_some ({ cls := .type "list", data := .seq (acc.toArray ++ (part i).toArray) } : Obj) eS1
    refine wpAny_bind (wpAny_updateSeq eS2 rfl ?_)
    have eS3 := Heap.get?_update_self (Obj.mapSeq fun _ => #[Value.ref h1.objs.size]) eS2 rfl
    refine wpAny_bind (wpAny_letGo (wpAny_bind (wpAny_updateSeq eS3 rfl ?_)))
    have eS4 := Heap.get?_update_self (Obj.mapSeq fun _ => #[Value.ref h1.objs.size]) eS3 rfl
    have kk : ∀ b o, b ≠ S → h1.get? b = some o → (((h1.push ({ cls := .type "list", data := .seq (acc.toArray ++ (part i).toArray) } : Obj)).update S (Obj.mapSeq fun _ => #[Value.ref h1.objs.size])).update S (Obj.mapSeq fun _ => #[Value.ref h1.objs.size])).get? b = some o := fun b o nb e =>
      (Heap.get?_update_other _ _ (Ne.symm nb)).trans ((Heap.get?_update_other _ _ (Ne.symm nb)).trans (Heap.get?_push_of_some _ e))
    have eN : (((h1.push ({ cls := .type "list", data := .seq (acc.toArray ++ (part i).toArray) } : Obj)).update S (Obj.mapSeq fun _ => #[Value.ref h1.objs.size])).update S (Obj.mapSeq fun _ => #[Value.ref h1.objs.size])).get? h1.objs.size = some (LO (acc ++ part i) 0) := by
      rw [Heap.get?_update_other _ _ (Ne.symm z1), Heap.get?_update_other _ _ (Ne.symm z1), Heap.get?_push_size _ rfl]
      unfold LO
      rw [List.append_toArray]
    refine wpAny_pure ⟨plainId_quiet F.plain_sum_loop _, ih (i + 1) _ h1.objs.size (acc ++ part i) _ 0 (by omega) hlt (W.frame _ _ _ hst1 fun b hb o e => kk b o (fun z => hS (z ▸ hb)) e) eS4 eN z1 (fun z => Nat.lt_irrefl _ (hfp _ _ hst1 _ (W.sub _ z))) (fun j hj => ?_) ?_ fun s' T' c' kp' g' d' o' e' m1 m2 m3 => ?_⟩
    · obtain ⟨n1, n2, m', e1⟩ := rows j hj
      exact ⟨n1, n2, m', kk _ _ n1 (kp _ _ n2 e1)⟩
    · rw [List.length_append]
      omega
    · refine hR s' T' c' (fun b o n1 n2 e => kp' b o n1 n2 (kk b o n2 (kp b o n1 e))) g' d' o' ?_ m1 m2 (.inr ?_)
      · rw [e', ed, List.map_cons, List.flatten_cons, List.append_assoc]
      · cases eo : s.heap.get? T' with
        | none => rfl
        | some o =>
          have e1 := kp T' o m2 eo
          rcases m3 with ⟨_, z⟩ | z
          · rw [z] at e1
            exact absurd (Heap.lt_size e1) (Nat.lt_irrefl _)
          · rw [kk T' o m1 e1] at z
            cases z
end
section
variable {prog : Program} {w : World} {A : Around} {E : Value → Shared → Prop} {s : Shared}
theorem args_sum2 (a b : Value) : argsOk "sum" ⟨[a, b], []⟩ := by
  unfold argsOk
  kernel_rfl
theorem sumL_call {l s0 : Addr} {rows : List Addr} {lits : List Value} {nl n0 : Nat} {parts : Nat → List Value} {acc : List Value} {Q : Value → Shared → Prop} (hh : A.handled = none)
    (el : s.heap.get? l = some (LO lits nl)) (hl : lits = rows.map Value.ref) (e0 : s.heap.get? s0 = some (LO acc n0)) (hr : ∀ j (h : j < rows.length), ∃ m, s.heap.get? rows[j] = some (LO (parts j) m))
    (hz : acc.length + ((List.range rows.length).map fun j => (parts j).length).sum ≤ sizeLine)
    (h : ∀ (s' : Shared) (T : Addr) (c : Nat), (∀ b o, s.heap.get? b = some o → s'.heap.get? b = some o) → s'.gens = s.gens → s'.os = s.os → s'.heap.get? T = some (LO (acc ++ ((List.range rows.length).map parts).flatten) c) → (rows = [] ∧ T = s0 ∨ s.heap.get? T = none) → Q (.ref T) s') :
    wpAny (model prog w) A (call (.builtin "sum") [.ref l, .ref s0]) Q E s := by
  have hlen : lits.toArray.size = rows.length := by rw [hl, List.size_toArray, List.length_map]
  refine call_function_tree F.kind_sum F.plain_sum F.entry_sum (args_sum2 _ _) ?_
  unfold Builtin.«sum»
  simp only [List.length_cons, List.length_nil]
  rw [if_neg (by decide)]
  refine wpAny_bind (wpAny_of_eq (show Builtin.Builtins.bindParams "sum" ["start"] 0 ⟨[.ref s0], []⟩ = pure [some (.ref s0)] from rfl) ?_)
  have hL : s.heap.IsList l lits.toArray := ⟨_, el, rfl, nl, rfl⟩
  refine wpAny_bind (wpAny_pyIter_list hL ?_)
  have lt1 : l < s.heap.objs.size := Heap.lt_size el
  have lt0 : s0 < s.heap.objs.size := Heap.lt_size e0
  have e1 := Heap.get?_push_of_some ({ cls := .type "list_iterator", data := .fields #[.ref l, .int 0 0] } : Obj) e0
  have tL : Shared.TypeIs { s with heap := s.heap.push { cls := .type "list_iterator", data := .fields #[.ref l, .int 0 0] } } (.ref s0) "list" := ⟨_, e1, rfl⟩
  refine wpAny_bind (wpAny_pure ?_)
  simp only [List.forIn_cons, List.forIn_nil]
  refine wpAny_bind (wpAny_bind (wpAny_bind (wpAny_isInstance (T := "list") (b := false) tL PySem.F.sub_list_str ?_)))
  simp only [Bool.false_eq_true, if_false]
  refine wpAny_pure (wpAny_bind (wpAny_bind (wpAny_isInstance (T := "list") (b := false) tL PySem.F.sub_list_bytes ?_)))
  simp only [Bool.false_eq_true, if_false]
  refine wpAny_pure (wpAny_bind (wpAny_bind (wpAny_isInstance (T := "list") (b := false) tL PySem.F.sub_list_bytearray ?_)))
  simp only [Bool.false_eq_true, if_false]
  refine wpAny_pure (wpAny_pure (wpAny_bind (wpAny_newObj_type ?_)))
  have sz1 : (s.heap.push ({ cls := .type "list_iterator", data := .fields #[.ref l, .int 0 0] } : Obj)).objs.size = s.heap.objs.size + 1 := Heap.size_push ..
  have nlI : l ≠ s.heap.objs.size := Nat.ne_of_lt lt1
  have kp : ∀ b o, s.heap.get? b = some o → ((s.heap.push ({ cls := .type "list_iterator", data := .fields #[.ref l, .int 0 0] } : Obj)).push (LO [.ref s0] 0)).get? b = some o := fun b o e => Heap.get?_push_of_some _ (Heap.get?_push_of_some _ e)
  refine wpAny_pure ⟨plainId_quiet F.plain_sum_loop _, sumL_loop (Walks.list (A := A.in1) (by simp [hh]) s.heap.objs.size l nlI lits.toArray) (S := (s.heap.push ({ cls := .type "list_iterator", data := .fields #[.ref l, .int 0 0] } : Obj)).objs.size) ?_ (fun j => rows.getD j 0) parts ?_ _ sizeLine (Nat.le_refl _) ?_
    (rows.length - 0) 0 _ s0 acc 0 n0 (by rw [hlen]) (Nat.zero_le _) ⟨⟨_, Heap.get?_push_of_some _ (Heap.get?_push_size _ rfl), rfl, rfl⟩, (hL.push _).push _⟩ ?_ (kp _ _ e0) (by rw [sz1]; exact Nat.ne_of_lt (Nat.lt_succ_of_lt lt0)) ?_ ?_ ?_ ?_⟩
  · rw [sz1]
    intro z
    rcases List.mem_cons.mp z with z | z
    · exact absurd z (Nat.ne_of_gt (Nat.lt_succ_self _))
    · exact absurd (List.mem_singleton.mp z) (Nat.ne_of_gt (Nat.lt_succ_of_lt lt1))
  · intro i v hv
    rw [List.getElem?_toArray, hl, List.getElem?_map] at hv
    cases hr2 : rows[i]? with
    | none => rw [hr2] at hv; cases hv
    | some b =>
      rw [hr2] at hv
      cases hv
      rw [List.getD_eq_getElem?_getD, hr2]
      rfl
  · intro i h st b hb
    rcases List.mem_cons.mp hb with z | z
    · obtain ⟨⟨o, ho, _⟩, _⟩ := st
      rw [z]
      exact Heap.lt_size ho
    · obtain ⟨_, ⟨o, ho, _⟩⟩ := st
      rw [List.mem_singleton.mp z]
      exact Heap.lt_size ho
  · exact Heap.get?_push_size _ rfl
  · intro z
    exact absurd (List.mem_singleton.mp z) (Nat.ne_of_lt lt0)
  · intro j hj
    rw [hlen] at hj
    obtain ⟨m, e⟩ := hr j hj
    have eg : rows.getD j 0 = rows[j] := by
      rw [List.getD_eq_getElem?_getD, List.getElem?_eq_getElem hj]
      rfl
    have lt2 : rows[j] < s.heap.objs.size := Heap.lt_size e
    refine ⟨?_, ?_, m, ?_⟩
    · rw [eg, sz1]; exact Nat.ne_of_lt (Nat.lt_succ_of_lt lt2)
    · rw [eg]; exact fun z => absurd (List.mem_singleton.mp z) (Nat.ne_of_lt lt2)
    · rw [eg]; exact kp _ _ e
  · rw [hlen, List.drop_zero]
    exact hz
  · intro s' T' c' k1 g1 d1 o1 e' m1 m2 m3
    rw [hlen, List.drop_zero] at e'
    refine h s' T' c' (fun b o e => ?_) g1 o1 e' (m3.imp (fun z => ⟨List.eq_nil_of_length_eq_zero (by rw [← hlen]; exact z.1.symm), z.2⟩) fun z => ?_)
    rotate_left
    · cases eo : s.heap.get? T' with
      | none => rfl
      | some o =>
        cases (kp _ _ eo).symm.trans z
    have lt3 : b < s.heap.objs.size := Heap.lt_size e
    exact k1 b o (fun z => absurd (List.mem_singleton.mp z) (Nat.ne_of_lt lt3)) (by rw [sz1]; exact Nat.ne_of_lt (Nat.lt_succ_of_lt lt3)) (kp _ _ e)
end
section
variable {X : Cx}
/-- sum(a list of lists of ints, a list of ints) -/
def rSumL (K : PySem.W.Frag) : List V → Hp → VK → Prop := fun vs H Q => ∃ (a b : Addr) (rows : List Addr) (parts : List (List Int)) (ms : List Int), vs = [V.ref a, V.ref b] ∧ H a = some (.lst (rows.map V.ref)) ∧ H b = some (.lst (ms.map V.int)) ∧
  Paired (fun r ns => H r = some (.lst (ns.map V.int))) rows parts ∧ ms.length + parts.flatten.length ≤ sizeLine ∧ ∀ (H' : Hp) (p : Addr), Same H H' → H' p = some (.lst ((ms ++ parts.flatten).map V.int)) → Q (.ref p) H'
theorem refs_of : ∀ {rows : List Addr} {its : List Value}, Vals (rows.map V.ref) its → its = rows.map Value.ref
  | [], _, .nil => rfl
  | a :: r, _, .cons q t => by rw [List.map_cons, ← refs_of t, (show _ = Value.ref a from q)]
theorem Paired.at' {α β : Type} {R : α → β → Prop} : ∀ {l : List α} {m : List β}, Paired R l m → ∀ j (h : j < l.length) (h' : j < m.length), R l[j] m[j]
  | _, _, .cons q _, 0, _, _ => q
  | _, _, .cons _ t, j + 1, h, h' => Paired.at' t j (Nat.lt_of_succ_lt_succ h) (Nat.lt_of_succ_lt_succ h')
theorem range_map {α β : Type} (f : α → β) (d : α) : ∀ l : List α, (List.range l.length).map (fun j => f (l.getD j d)) = l.map f := by
  intro l
  apply List.ext_getElem
  · rw [List.length_map, List.length_map, List.length_range]
  · intro i h1 h2
    rw [List.length_map] at h2
    rw [List.getElem_map, List.getElem_map, List.getElem_range, List.getD_eq_getElem?_getD, List.getElem?_eq_getElem h2]
    rfl
theorem rows_of {P : Program} {w : World} {H : Hp} {h : Heap} (ok : HOk P w H h) : ∀ {rows : List Addr} {parts : List (List Int)}, Paired (fun r ns => H r = some (.lst (ns.map V.int))) rows parts →
    ∃ pits : List (List Value), pits.length = rows.length ∧ (∀ j (hj : j < rows.length), ∃ m, h.get? rows[j] = some (LO (pits.getD j []) m)) ∧ Vals (parts.flatten.map V.int) pits.flatten ∧ (pits.map List.length).sum = parts.flatten.length
  | [], [], .nil => ⟨[], rfl, fun j hj => absurd hj (Nat.not_lt_zero j), .nil, rfl⟩
  | r :: rows, ns :: parts, .cons e t => by
    obtain ⟨pits, h1, h2, h3, h4⟩ := rows_of ok t
    obtain ⟨z, its, n, v, g⟩ : ObjOk P w H h r (.lst (ns.map V.int)) := ok r _ e
    refine ⟨its :: pits, by rw [List.length_cons, h1, List.length_cons], fun j hj => ?_, ?_, ?_⟩
    · cases j with
      | zero => exact ⟨n, g⟩
      | succ j => exact h2 j (Nat.lt_of_succ_lt_succ hj)
    · rw [List.flatten_cons, List.map_append, List.flatten_cons]
      exact v.append h3
    · rw [List.map_cons, List.sum_cons, h4, List.flatten_cons, List.length_append, ← v.length, List.length_map]
theorem cr_sumL (hc : X.calm = true) : CallR X (.builtin "sum") (rSumL X.K) := by
  intro pins s σ H vs us Q I r h
  obtain ⟨a, b, rows, parts, ms, rfl, ha, hb, hp, hz, q⟩ := h
  cases r with
  | cons r1 t1 =>
    cases t1 with
    | cons r2 t2 =>
      cases t2
      cases r1
      cases r2
      obtain ⟨za, its, n, va, ea⟩ : ObjOk X.prog X.w H s.heap a (.lst (rows.map V.ref)) := I.hok a _ ha
      obtain ⟨zb, it0, n0, vb, eb⟩ : ObjOk X.prog X.w H s.heap b (.lst (ms.map V.int)) := I.hok b _ hb
      obtain ⟨pits, hl2, hg2, hv2, hn2⟩ := rows_of I.hok hp
      have e1 : (List.range rows.length).map (fun j => pits.getD j []) = pits := by
        have q := range_map (fun x : List Value => x) [] pits
        rw [List.map_id', hl2] at q
        exact q
      have e2 : ((List.range rows.length).map fun j => (pits.getD j []).length).sum = parts.flatten.length := by
        have q := range_map (fun x : List Value => x.length) [] pits
        rw [hl2] at q
        rw [q, hn2]
      refine sumL_call (I.ok.hd hc) (lits := its) (acc := it0) (parts := fun j => pits.getD j []) ea (refs_of va) eb hg2 (by rw [e2, ← vb.length, List.length_map]; exact hz) fun s' T c kp hg ho hT hw => ?_
      rw [e1] at hT
      have hvals : Vals ((ms ++ parts.flatten).map V.int) (it0 ++ pits.flatten) := by
        rw [List.map_append]
        exact vb.append hv2
      rcases hw with ⟨z1, z2⟩ | hnew
      · subst z1
        cases hp
        refine ⟨.ref T, H, I.call' (ch := []) ho (Un.kept kp) (I.hok.kept kp) (by rw [hg]; exact I.bare) (fun _ z => nomatch z), rfl, q H T (Same.refl H) ?_⟩
        rw [z2, hb, List.flatten_nil, List.append_nil]
      · have hn : H T = none := by
          cases eo : H T with
          | none => rfl
          | some o =>
            obtain ⟨u, hu⟩ := objOk_get (I.hok T o eo)
            rw [hnew] at hu
            cases hu
        refine ⟨.ref T, upd H T (.lst ((ms ++ parts.flatten).map V.int)), I.call' (ch := []) ho (Un.laidN kp hnew hn) (I.hok.laidN kp hn ⟨?_, _, c, hvals, hT⟩) (by rw [hg]; exact I.bare) (fun _ z => nomatch z), rfl, q _ T (Same.new hn) upd_same⟩
        rw [List.length_map, List.length_append]
        exact hz
end
end HSP
namespace HSP
open PySem PySem.Spec PyProof.Rows L2
theorem cut_last (xs : List V) (y : V) : cutV (xs ++ [y]) none (some (-1)) = xs := by
  unfold cutV
  have e : HT.sIx (xs ++ [y]).length (xs ++ [y]).length (some (-1)) = xs.length := by
    show (if (-1 : Int) < 0 then ((-1 : Int) + ((xs ++ [y]).length : Int)).toNat else min (-1 : Int).toNat (xs ++ [y]).length) = xs.length
    rw [if_pos (by decide), List.length_append, List.length_singleton]
    omega
  rw [e, HT.sIx_none, List.drop_zero, Nat.sub_zero, List.take_left]
theorem inV_nat (i : Nat) : ∀ xs : List Nat, inV (natV i) (xs.map natV) = decide (i ∈ xs)
  | [] => rfl
  | x :: r => by
    have ih := inV_nat i r
    have e : inV (natV i) ((x :: r).map natV) = (eqV (natV x) (natV i) || inV (natV i) (r.map natV)) := rfl
    rw [e, ih]
    have e2 : eqV (natV x) (natV i) = decide ((x : Int) = (i : Int)) := rfl
    rw [e2]
    by_cases c : i = x
    · rw [decide_eq_true (show (x : Int) = (i : Int) by omega), Bool.true_or, decide_eq_true (List.mem_cons.mpr (.inl c))]
    · rw [decide_eq_false (show ¬ (x : Int) = (i : Int) by omega), Bool.false_or]
      by_cases d : i ∈ r
      · rw [decide_eq_true d, decide_eq_true (List.mem_cons_of_mem _ d)]
      · rw [decide_eq_false d, decide_eq_false (fun z => (List.mem_cons.mp z).elim c d)]
theorem inV_int (i : Int) : ∀ xs : List Int, inV (.int i) (xs.map V.int) = decide (i ∈ xs)
  | [] => rfl
  | x :: r => by
    have ih := inV_int i r
    have e : inV (.int i) ((x :: r).map V.int) = (eqV (.int x) (.int i) || inV (.int i) (r.map V.int)) := rfl
    rw [e, ih]
    have e2 : eqV (.int x) (.int i) = decide (x = i) := rfl
    rw [e2]
    by_cases c : i = x
    · rw [decide_eq_true c.symm, Bool.true_or, decide_eq_true (List.mem_cons.mpr (.inl c))]
    · rw [decide_eq_false (show ¬ x = i by omega), Bool.false_or]
      by_cases d : i ∈ r
      · rw [decide_eq_true d, decide_eq_true (List.mem_cons_of_mem _ d)]
      · rw [decide_eq_false d, decide_eq_false (fun z => (List.mem_cons.mp z).elim c d)]
theorem flat_nats : ∀ xs : List Nat, (xs.map natV).all flatV = true
  | [] => rfl
  | x :: r => by
    rw [List.map_cons, List.all_cons, flat_nats r]
    rfl
theorem flat_ints : ∀ xs : List Int, (xs.map V.int).all flatV = true
  | [] => rfl
  | x :: r => by
    rw [List.map_cons, List.all_cons, flat_ints r]
    rfl
/-! ### lists of ints as data -/
def intsD (l : List Int) : PyData := .list (l.map PyData.int)
theorem ints_can : ∀ l : List Int, PyData.canLayAll0 (l.map PyData.int) = true
  | [] => by simp [PyData.canLayAll0]
  | z :: r => by
    have ih := ints_can r
    simp only [List.map_cons, PyData.canLayAll0, PyData.canLay0, ih, Bool.and_self]
theorem ints_deep : ∀ l : List Int, PyData.depthAll (l.map PyData.int) ≤ 1
  | [] => by simp [PyData.depthAll]
  | z :: r => by
    have ih := ints_deep r
    simp only [List.map_cons, PyData.depthAll, PyData.depth]
    omega
theorem ints_shaped (l : List Int) : SeqAt.shaped (intsD l) = true := by
  unfold SeqAt.shaped intsD
  have h1 := ints_can l
  have h2 := ints_deep l
  rw [Bool.and_eq_true]
  refine ⟨by simp only [PyData.canLay0]; exact h1, decide_eq_true ?_⟩
  simp only [PyData.depth]
  omega
theorem ints_dpAll {K : PySem.W.Frag} {H : Hp} : ∀ l : List Int, DpAll K H (l.map V.int) (l.map PyData.int)
  | [] => .nil
  | z :: r => .cons (.int z) (ints_dpAll r)
theorem ints_none (l : List Int) : PyData.eqv (intsD l) (intsD []) = decide (l = []) := by
  cases l with
  | nil => rw [decide_eq_true rfl]; exact SeqAt.eqv_refl _ (by unfold intsD; simp only [PyData.canLay0]; exact ints_can [])
  | cons x r =>
    rw [decide_eq_false (List.cons_ne_nil _ _)]
    unfold intsD
    simp [PyData.eqv, PyData.eqvAll]
end HSP
namespace HSP
open PySem PySem.Spec PyProof.Rows L2
/-! ## how data are shown: lengths -/
theorem piled_le (c : Nat) : ∀ ds : List PyData, (∀ d, d ∈ ds → d.shown.length ≤ c) → piled (PyData.shownAll ds) ≤ ds.length * (c + 2)
  | [], _ => by simp [PyData.shownAll, piled_nil]
  | d :: ds, h => by
    have ih := piled_le c ds fun e he => h e (List.mem_cons_of_mem _ he)
    have h1 := h d List.mem_cons_self
    have e : PyData.shownAll (d :: ds) = d.shown :: PyData.shownAll ds := by simp [PyData.shownAll]
    rw [e, piled_cons, List.length_cons, Nat.add_mul]
    omega
theorem listText_le : ∀ ts : List Str, (listText ts).length ≤ piled ts + 2
  | [] => by decide +kernel
  | t :: r => by
    have e : listText (t :: r) = textFrom 1 (("[" : Str) ++ (if 0 > 0 then ", " else "" : String) ++ t) r ++ "]" := rfl
    rw [e, strLen_append, textFrom_length_pos _ _ _ (by decide), strLen_append, strLen_append, piled_cons]
    have e1 : (("[" : String) : Str).length = 1 := rfl
    have e2 : (("]" : String) : Str).length = 1 := rfl
    have e3 : ((if 0 > 0 then ", " else "" : String) : Str).length = 0 := rfl
    omega
theorem tupleText_le (ts : List Str) : (tupleText ts).length ≤ piled ts + 3 := by
  unfold tupleText
  rw [strLen_append, strLen_append]
  have e1 : (("(" : String) : Str).length = 1 := rfl
  have e2 : ((if ts.length == 1 then ",)" else ")" : String) : Str).length ≤ 2 := by
    split <;> decide +kernel
  have e3 : (Str.join ", " ts).length ≤ piled ts := by
    by_cases c : ts = []
    · rw [c]
      decide +kernel
    · have := join_length_add ts c
      omega
  omega
theorem shown_list_le (c : Nat) (ds : List PyData) (h : ∀ d, d ∈ ds → d.shown.length ≤ c) : (PyData.list ds).shown.length ≤ ds.length * (c + 2) + 2 := by
  have e : (PyData.list ds).shown = listText (PyData.shownAll ds) := by simp only [PyData.shown]
  rw [e]
  have h1 := listText_le (PyData.shownAll ds)
  have h2 := piled_le c ds h
  omega
/-! ### trees as data -/
def treeD : Tr → PyData
  | .nil => .none
  | .nod l r => .tuple [treeD l, treeD r]
theorem treeD_len : ∀ t : Tr, (treeD t).shown.length ≤ 11 * t.size + 4
  | .nil => by
    show (PyData.none).shown.length ≤ _
    simp only [PyData.shown]
    decide +kernel
  | .nod l r => by
    have h1 := treeD_len l
    have h2 := treeD_len r
    have e : (treeD (.nod l r)).shown = tupleText [(treeD l).shown, (treeD r).shown] := by
      show (PyData.tuple [treeD l, treeD r]).shown = _
      simp only [PyData.shown, PyData.shownAll]
    have z : (Tr.nod l r).size = l.size + 1 + r.size := rfl
    have h3 := tupleText_le [(treeD l).shown, (treeD r).shown]
    rw [piled_cons, piled_cons, piled_nil] at h3
    rw [e, z]
    omega
theorem treeD_show : ∀ t : Tr, (treeD t).showable = true
  | .nil => by simp only [treeD, PyData.showable]
  | .nod l r => by simp only [treeD, PyData.showable, PyData.showableAll, treeD_show l, treeD_show r, Bool.and_self]
theorem treeD_dict : ∀ t : Tr, (treeD t).hasDict = false
  | .nil => by simp only [treeD, PyData.hasDict]
  | .nod l r => by simp only [treeD, PyData.hasDict, PyData.hasDictAll, treeD_dict l, treeD_dict r, Bool.or_self]
theorem treeD_deep : ∀ t : Tr, (treeD t).depth ≤ t.ht
  | .nil => by simp only [treeD, PyData.depth]; exact Nat.zero_le _
  | .nod l r => by
    have h1 := treeD_deep l
    have h2 := treeD_deep r
    have e : (Tr.nod l r).ht = max l.ht r.ht + 1 := rfl
    simp only [treeD, PyData.depth, PyData.depthAll]
    omega
theorem TrAt.dp {K : PySem.W.Frag} {H : Hp} {v : V} {t : Tr} (h : TrAt H v t) : Dp K H v (treeD t) := by
  induction h with
  | nil => exact .non
  | nod eb _ _ ih1 ih2 => exact .tup (.of eb) (.cons ih1 (.cons ih2 .nil))
/-! ### lists of numbers -/
theorem ints_show : ∀ l : List Int, (∀ v, v ∈ l → v.natAbs.log2 < 1920) → PyData.showableAll (l.map PyData.int) = true
  | [], _ => by simp [PyData.showableAll]
  | z :: r, h => by
    have ih := ints_show r fun v hv => h v (List.mem_cons_of_mem _ hv)
    have h1 := h z List.mem_cons_self
    simp only [List.map_cons, PyData.showableAll, PyData.showable, ih, decide_eq_true h1, Bool.and_self]
theorem ints_dict : ∀ l : List Int, PyData.hasDictAll (l.map PyData.int) = false
  | [] => by simp [PyData.hasDictAll]
  | z :: r => by simp only [List.map_cons, PyData.hasDictAll, PyData.hasDict, ints_dict r, Bool.or_self]
theorem int_len {z : Int} (h : z.natAbs < 10 ^ 30) : (PyData.int z).shown.length ≤ 31 := by
  simp only [PyData.shown]
  rw [show (Str.ofString (toString z)).length = (toString z).length from PySem.ofString_length _]
  exact int_text_length_le10 (k := 30) (by decide) h
theorem int_log {z : Int} (h : z.natAbs < 10 ^ 30) : z.natAbs.log2 < 1920 := by
  by_cases c : z.natAbs = 0
  · rw [c]
    decide
  · exact (Nat.log2_lt c).mpr (Nat.lt_of_lt_of_le h (by decide +kernel))
/-- what repr and == ask of data -/
structure Fine (d : PyData) : Prop where
  show_ : d.showable = true
  dict : d.hasDict = false
  deep : d.depth ≤ 60
  len : d.shown.length ≤ sizeLine
/-- numbers that are not too great -/
def Tame (l : List Int) : Prop := ∀ v, v ∈ l → v.natAbs < 10 ^ 30
theorem intsD_len {l : List Int} (h : Tame l) : (intsD l).shown.length ≤ l.length * 33 + 2 := by
  have := shown_list_le 31 (l.map PyData.int) fun d hd => by
    obtain ⟨v, hv, rfl⟩ := List.mem_map.mp hd
    exact int_len (h v hv)
  rw [List.length_map] at this
  exact this
theorem ints_fine {l : List Int} (h : Tame l) (n : l.length ≤ 1000) : Fine (intsD l) := by
  have h1 := intsD_len h
  have h2 := ints_deep l
  refine ⟨?_, ?_, ?_, ?_⟩
  · unfold intsD
    simp only [PyData.showable]
    exact ints_show l fun v hv => int_log (h v hv)
  · unfold intsD
    simp only [PyData.hasDict]
    exact ints_dict l
  · unfold intsD
    simp only [PyData.depth]
    omega
  · have : sizeLine = 16777216 := rfl
    omega
/-- [d, e] -/
theorem pair_fine {d e : PyData} (hd : Fine d) (he : Fine e) (h1 : d.depth ≤ 59) (h2 : e.depth ≤ 59) (c : Nat) (l1 : d.shown.length ≤ c) (l2 : e.shown.length ≤ c) (hc : c ≤ 100000) : Fine (.list [d, e]) := by
  refine ⟨?_, ?_, ?_, ?_⟩
  · simp only [PyData.showable, PyData.showableAll, hd.show_, he.show_, Bool.and_self]
  · simp only [PyData.hasDict, PyData.hasDictAll, hd.dict, he.dict, Bool.or_self]
  · simp only [PyData.depth, PyData.depthAll]
    omega
  · have := shown_list_le c [d, e] fun x hx => by
      rcases List.mem_cons.mp hx with z | z
      · rw [z]; exact l1
      · rw [List.mem_singleton.mp z]; exact l2
    have e1 : [d, e].length = 2 := rfl
    rw [e1] at this
    have : sizeLine = 16777216 := rfl
    omega
theorem tree_fine {t : Tr} (h : t.size ≤ 100) (d : t.ht ≤ 40) : Fine (treeD t) := by
  have h1 := treeD_len t
  have h2 := treeD_deep t
  have : sizeLine = 16777216 := rfl
  exact ⟨treeD_show t, treeD_dict t, by omega, by omega⟩
/-- [tree, values] -/
def argsD (t : Tr) (ns : List Int) : PyData := .list [treeD t, intsD ns]
theorem args_fine {t : Tr} {ns : List Int} (h : t.size ≤ 20) (n : ns.length ≤ 20) (hn : Tame ns) : Fine (argsD t ns) := by
  have h1 := treeD_len t
  have h2 := treeD_deep t
  have h3 := t.ht_le
  have h4 := intsD_len hn
  have h5 : (intsD ns).depth ≤ 2 := by
    have := ints_deep ns
    unfold intsD
    simp only [PyData.depth]
    omega
  exact pair_fine (tree_fine (by omega) (by omega)) (ints_fine hn (by omega)) (by omega) (by omega) 1000 (by omega) (by omega) (by decide)
/-- numbers that the law may make of those drawn -/
def Mid (ns : List Int) : Prop := ∀ v, v ∈ ns → -10000000000000000000000 < v ∧ v < 10000000000000000000000
theorem Mid.tame {ns : List Int} (h : Mid ns) : Tame ns := fun v hv => by
  have := h v hv
  have e : (10 : Nat) ^ 30 = 1000000000000000000000000000000 := by decide +kernel
  rw [e]
  omega
theorem Mid.nil : Mid [] := fun _ h => by cases h
theorem Mid.snoc {ns : List Int} {v : Int} (h : Mid ns) (h1 : -10000000000000000000000 < v ∧ v < 10000000000000000000000) : Mid (ns ++ [v]) := fun x hx => by
  rcases List.mem_append.mp hx with z | z
  · exact h x z
  · rw [List.mem_singleton.mp z]
    exact h1
theorem Mid.set {ns : List Int} {v : Int} {i : Nat} (h : Mid ns) (h1 : -10000000000000000000000 < v ∧ v < 10000000000000000000000) : Mid (ns.set i v) := fun x hx => by
  rcases List.mem_or_eq_of_mem_set hx with z | z
  · exact h x z
  · rw [z]
    exact h1
theorem ints_can0 (l : List Int) : PyData.canLay0 (intsD l) = true := by
  unfold intsD
  simp only [PyData.canLay0]
  exact ints_can l
theorem args_dp {K : PySem.W.Frag} {H : Hp} {a b : Addr} {v : V} {t : Tr} {ns : List Int} (ha : H a = some (.lst [v, .ref b])) (hv : TrAt H v t) (hb : H b = some (.lst (ns.map V.int))) : Dp K H (.ref a) (argsD t ns) :=
  .lst (.of ha) (.cons hv.dp (.cons (.lst (.of hb) (ints_dpAll ns)) .nil))
end HSP
namespace HSP
open PySem PySem.Spec PyProof.Rows L2
/-! ### tuples of None, numbers and short texts as data -/
def vD : V → PyData
  | .bl b => .bool b
  | .int i => .int i
  | .str x => .str x
  | _ => .none
/-- what may stand in such a tuple -/
def Plain : V → Prop
  | .non => True
  | .int i => i.natAbs < 10 ^ 30
  | .str x => PyData.strOk x = true ∧ (reprText x).length ≤ 31
  | _ => False
theorem Plain.dp {K : PySem.W.Frag} {H : Hp} {v : V} (h : Plain v) : Dp K H v (vD v) := by
  cases v with
  | non => exact .non
  | int i => exact .int i
  | str x => exact .str x
  | _ => exact h.elim
theorem Plain.len {v : V} (h : Plain v) : (vD v).shown.length ≤ 31 := by
  cases v with
  | non => simp only [vD, PyData.shown]; decide +kernel
  | int i => exact int_len h
  | str x => simp only [vD, PyData.shown]; exact h.2
  | _ => exact h.elim
theorem Plain.can {v : V} (h : Plain v) : PyData.canLay0 (vD v) = true := by
  cases v with
  | non => simp only [vD, PyData.canLay0]
  | int i => simp only [vD, PyData.canLay0]
  | str x => simp only [vD, PyData.canLay0]; exact h.1
  | _ => exact h.elim
theorem Plain.show_ {v : V} (h : Plain v) : (vD v).showable = true := by
  cases v with
  | non => simp only [vD, PyData.showable]
  | int i => simp only [vD, PyData.showable]; exact decide_eq_true (int_log h)
  | str x => simp only [vD, PyData.showable]
  | _ => exact h.elim
theorem vD_dict (v : V) : (vD v).hasDict = false := by
  cases v <;> simp only [vD, PyData.hasDict]
theorem vD_deep (v : V) : (vD v).depth = 0 := by
  cases v <;> simp only [vD, PyData.depth]
def Plains (xs : List V) : Prop := ∀ v, v ∈ xs → Plain v
theorem plains_dp {K : PySem.W.Frag} {H : Hp} : ∀ xs : List V, Plains xs → DpAll K H xs (xs.map vD)
  | [], _ => .nil
  | x :: r, h => .cons (h x List.mem_cons_self).dp (plains_dp r fun v hv => h v (List.mem_cons_of_mem _ hv))
theorem plains_can : ∀ xs : List V, Plains xs → PyData.canLayAll0 (xs.map vD) = true
  | [], _ => by simp [PyData.canLayAll0]
  | x :: r, h => by
    have ih := plains_can r fun v hv => h v (List.mem_cons_of_mem _ hv)
    have h1 := (h x List.mem_cons_self).can
    simp only [List.map_cons, PyData.canLayAll0, h1, ih, Bool.and_self]
theorem plains_show : ∀ xs : List V, Plains xs → PyData.showableAll (xs.map vD) = true
  | [], _ => by simp [PyData.showableAll]
  | x :: r, h => by
    have ih := plains_show r fun v hv => h v (List.mem_cons_of_mem _ hv)
    have h1 := (h x List.mem_cons_self).show_
    simp only [List.map_cons, PyData.showableAll, h1, ih, Bool.and_self]
theorem plains_dict : ∀ xs : List V, PyData.hasDictAll (xs.map vD) = false
  | [] => by simp [PyData.hasDictAll]
  | x :: r => by simp only [List.map_cons, PyData.hasDictAll, vD_dict, plains_dict r, Bool.or_self]
theorem plains_deep : ∀ xs : List V, PyData.depthAll (xs.map vD) ≤ 1
  | [] => by simp [PyData.depthAll]
  | x :: r => by
    have ih := plains_deep r
    have h1 := vD_deep x
    simp only [List.map_cons, PyData.depthAll]
    omega
/-- a tuple of such -/
def rowD (xs : List V) : PyData := .tuple (xs.map vD)
theorem shown_tuple_le (c : Nat) (ds : List PyData) (h : ∀ d, d ∈ ds → d.shown.length ≤ c) : (PyData.tuple ds).shown.length ≤ ds.length * (c + 2) + 3 := by
  have e : (PyData.tuple ds).shown = tupleText (PyData.shownAll ds) := by simp only [PyData.shown]
  rw [e]
  have h1 := tupleText_le (PyData.shownAll ds)
  have h2 := piled_le c ds h
  omega
theorem row_len {xs : List V} (h : Plains xs) (n : xs.length ≤ 5) : (rowD xs).shown.length ≤ 168 := by
  have := shown_tuple_le 31 (xs.map vD) fun d hd => by
    obtain ⟨v, hv, rfl⟩ := List.mem_map.mp hd
    exact (h v hv).len
  rw [List.length_map] at this
  show (PyData.tuple (xs.map vD)).shown.length ≤ 168
  omega
theorem row_can {xs : List V} (h : Plains xs) : PyData.canLay0 (rowD xs) = true := by
  unfold rowD
  simp only [PyData.canLay0]
  exact plains_can xs h
theorem row_show {xs : List V} (h : Plains xs) : (rowD xs).showable = true := by
  unfold rowD
  simp only [PyData.showable]
  exact plains_show xs h
theorem row_dict (xs : List V) : (rowD xs).hasDict = false := by
  unfold rowD
  simp only [PyData.hasDict]
  exact plains_dict xs
theorem row_deep (xs : List V) : (rowD xs).depth ≤ 2 := by
  have := plains_deep xs
  unfold rowD
  simp only [PyData.depth]
  omega
theorem row_dp {K : PySem.W.Frag} {H : Hp} {a : Addr} {xs : List V} (e : H a = some (.tup xs)) (h : Plains xs) : Dp K H (.ref a) (rowD xs) := .tup (.of e) (plains_dp xs h)
theorem row_fine {xs : List V} (h : Plains xs) (n : xs.length ≤ 5) : Fine (rowD xs) := by
  have h1 := row_len h n
  have h2 := row_deep xs
  have : sizeLine = 16777216 := rfl
  exact ⟨row_show h, row_dict xs, by omega, by omega⟩
theorem row_shaped {xs : List V} (h : Plains xs) : SeqAt.shaped (rowD xs) = true := by
  unfold SeqAt.shaped
  rw [Bool.and_eq_true]
  have := row_deep xs
  exact ⟨row_can h, decide_eq_true (by omega)⟩
theorem row_same {xs : List V} (h : Plains xs) : PyData.eqv (rowD xs) (rowD xs) = true := SeqAt.eqv_refl _ (row_can h)
/-- a list of such tuples -/
def rowsD (l : List (List V)) : PyData := .list (l.map rowD)
theorem rows_can : ∀ l : List (List V), (∀ xs, xs ∈ l → Plains xs) → PyData.canLayAll0 (l.map rowD) = true
  | [], _ => by simp [PyData.canLayAll0]
  | x :: r, h => by
    have ih := rows_can r fun v hv => h v (List.mem_cons_of_mem _ hv)
    have h1 := row_can (h x List.mem_cons_self)
    simp only [List.map_cons, PyData.canLayAll0, h1, ih, Bool.and_self]
theorem rows_show : ∀ l : List (List V), (∀ xs, xs ∈ l → Plains xs) → PyData.showableAll (l.map rowD) = true
  | [], _ => by simp [PyData.showableAll]
  | x :: r, h => by
    have ih := rows_show r fun v hv => h v (List.mem_cons_of_mem _ hv)
    have h1 := row_show (h x List.mem_cons_self)
    simp only [List.map_cons, PyData.showableAll, h1, ih, Bool.and_self]
theorem rows_dict : ∀ l : List (List V), PyData.hasDictAll (l.map rowD) = false
  | [] => by simp [PyData.hasDictAll]
  | x :: r => by simp only [List.map_cons, PyData.hasDictAll, row_dict, rows_dict r, Bool.or_self]
theorem rows_deep : ∀ l : List (List V), PyData.depthAll (l.map rowD) ≤ 3
  | [] => by simp [PyData.depthAll]
  | x :: r => by
    have ih := rows_deep r
    have h1 := row_deep x
    simp only [List.map_cons, PyData.depthAll]
    omega
theorem rows_dp {K : PySem.W.Frag} {H : Hp} {rs : List Addr} {l : List (List V)} (p : Paired (fun r xs => H r = some (.tup xs)) rs l) (h : ∀ xs, xs ∈ l → Plains xs) : DpAll K H (rs.map V.ref) (l.map rowD) := by
  induction p with
  | nil => exact .nil
  | cons e _ ih => exact .cons (row_dp e (h _ List.mem_cons_self)) (ih fun v hv => h v (List.mem_cons_of_mem _ hv))
theorem rowsD_dp {K : PySem.W.Frag} {H : Hp} {a : Addr} {rs : List Addr} {l : List (List V)} (e : H a = some (.lst (rs.map V.ref))) (p : Paired (fun r xs => H r = some (.tup xs)) rs l) (h : ∀ xs, xs ∈ l → Plains xs) : Dp K H (.ref a) (rowsD l) := .lst (.of e) (rows_dp p h)
theorem rows_fine {l : List (List V)} (h : ∀ xs, xs ∈ l → Plains xs) (n : ∀ xs, xs ∈ l → xs.length ≤ 5) (m : l.length ≤ 1000) : Fine (rowsD l) := by
  have h1 := shown_list_le 168 (l.map rowD) fun d hd => by
    obtain ⟨x, hx, rfl⟩ := List.mem_map.mp hd
    exact row_len (h x hx) (n x hx)
  rw [List.length_map] at h1
  have h2 := rows_deep l
  have : sizeLine = 16777216 := rfl
  refine ⟨?_, ?_, ?_, ?_⟩
  · unfold rowsD
    simp only [PyData.showable]
    exact rows_show l h
  · unfold rowsD
    simp only [PyData.hasDict]
    exact rows_dict l
  · unfold rowsD
    simp only [PyData.depth]
    omega
  · show (PyData.list (l.map rowD)).shown.length ≤ sizeLine
    omega
theorem rowsD_can {l : List (List V)} (h : ∀ xs, xs ∈ l → Plains xs) : PyData.canLay0 (rowsD l) = true := by
  unfold rowsD
  simp only [PyData.canLay0]
  exact rows_can l h
theorem rowsD_shaped {l : List (List V)} (h : ∀ xs, xs ∈ l → Plains xs) : SeqAt.shaped (rowsD l) = true := by
  unfold SeqAt.shaped
  rw [Bool.and_eq_true]
  refine ⟨rowsD_can h, decide_eq_true ?_⟩
  have := rows_deep l
  unfold rowsD
  simp only [PyData.depth]
  omega
theorem rowsD_same {l : List (List V)} (h : ∀ xs, xs ∈ l → Plains xs) : PyData.eqv (rowsD l) (rowsD l) = true := SeqAt.eqv_refl _ (rowsD_can h)
theorem plain_nat {i : Nat} (h : i < 1000000) : Plain (natV i) := by
  show ((i : Int)).natAbs < 10 ^ 30
  have e : (10 : Nat) ^ 30 = 1000000000000000000000000000000 := by decide +kernel
  rw [e]
  omega
theorem nats_ints (l : List Nat) : l.map natV = (l.map Int.ofNat).map V.int := by
  rw [List.map_map]
  rfl
theorem nats_tame {l : List Nat} (h : ∀ i, i ∈ l → i < 1000000) : Tame (l.map Int.ofNat) := fun z hz => by
  obtain ⟨i, hi, rfl⟩ := List.mem_map.mp hz
  have := h i hi
  have e : (10 : Nat) ^ 30 = 1000000000000000000000000000000 := by decide +kernel
  rw [e]
  show i < _
  omega
end HSP
namespace HSP
open PySem PySem.Spec PyProof.Rows L2
/-! ## how a search ended, as data -/
def endRow (r : Bool × Nat) : List V := [kindV r.1, natV r.2]
theorem endRow_plain {r : Bool × Nat} (h : r.2 < 1000000) : Plains (endRow r) := fun v hv => by
  have hv : v ∈ [kindV r.1, natV r.2] := hv
  simp only [List.mem_cons, List.not_mem_nil, or_false] at hv
  rcases hv with rfl | rfl
  · cases r.1
    · exact ⟨by decide +kernel, by decide +kernel⟩
    · exact ⟨by decide +kernel, by decide +kernel⟩
  · exact plain_nat h
theorem sEnd_le (g : Nat → Int) (tw : Int) (m : Md) : ∀ (t : Tr) (f : Nat), (sEnd g tw m t f).2 ≤ f + t.size
  | .nil, f => Nat.le_refl _
  | .nod l r, f => by
    have e : sEnd g tw m (.nod l r) f = match wayOf tw (g (f + l.size)) m with | .fin => (true, f + l.size) | .lft => sEnd g tw m l f | .rgt => sEnd g tw m r (f + l.size + 1) := rfl
    have z : (Tr.nod l r).size = l.size + 1 + r.size := rfl
    rw [e, z]
    cases wayOf tw (g (f + l.size)) m with
    | fin => show f + l.size ≤ _; omega
    | lft => have := sEnd_le g tw m l f; show (sEnd g tw m l f).2 ≤ _; omega
    | rgt => have := sEnd_le g tw m r (f + l.size + 1); show (sEnd g tw m r (f + l.size + 1)).2 ≤ _; omega
theorem end_eqv (r : Bool × Nat) (i : Nat) : PyData.eqv (rowD (endRow r)) (rowD [.str "found", natV i]) = decide (r = (true, i)) := by
  obtain ⟨b, n⟩ := r
  unfold rowD endRow
  simp only [List.map_cons, List.map_nil, PyData.eqv, PyData.eqvAll, Bool.and_true]
  cases b
  · have e1 : vD (kindV false) = .str "gap" := rfl
    have e2 : vD (V.str "found") = .str "found" := rfl
    rw [e1, e2, decide_eq_false (fun z => by cases z)]
    simp only [PyData.eqv]
    have e3 : (("gap" : Str) == ("found" : Str)) = false := by decide +kernel
    rw [e3, Bool.false_and]
  · have e1 : vD (kindV true) = .str "found" := rfl
    have e2 : vD (V.str "found") = .str "found" := rfl
    have e4 : vD (natV n) = .int (n : Int) := rfl
    have e5 : vD (natV i) = .int (i : Int) := rfl
    rw [e1, e2, e4, e5]
    simp only [PyData.eqv]
    have e3 : (("found" : Str) == ("found" : Str)) = true := by decide +kernel
    rw [e3, Bool.true_and]
    by_cases c : n = i
    · rw [c, decide_eq_true rfl]
      exact beq_self_eq_true _
    · rw [decide_eq_false (fun z => c (Prod.mk.inj z).2)]
      exact beq_eq_false_iff_ne.mpr (fun z => c (by omega))
end HSP
namespace HSP
open PySem PySem.Spec PyProof.Rows L2
/-! ## sorted values and their representative -/
theorem sizeN (l r : Tr) : (Tr.nod l r).size = l.size + 1 + r.size := rfl
theorem rep_id {g : Nat → Int} (n : Nat) (up : ∀ i j, i < j → j < n → g i ≤ g j) : ∀ (t : Tr) (f : Nat) (lo hi : Option Int), f + t.size ≤ n → (∀ i, f ≤ i → i < f + t.size → downTo lo (g i) ∧ upTo hi (g i)) → repOf g t f lo hi = (List.range t.size).map fun i => g (f + i)
  | .nil, _, _, _, _, _ => rfl
  | .nod l r, f, lo, hi, hn, hb => by
    rw [sizeN] at hn hb ⊢
    obtain ⟨b1, b2⟩ := hb (f + l.size) (by omega) (by omega)
    rw [repOf_nod, clamp_id b1 b2, rep_id n up l f lo (some (g (f + l.size))) (by omega) (fun i h1 h2 => ⟨(hb i h1 (by omega)).1, fun h e => by cases e; exact up i _ h2 (by omega)⟩),
      rep_id n up r (f + l.size + 1) (some (g (f + l.size))) hi (by omega) (fun i h1 h2 => ⟨fun h e => by cases e; exact up _ i (by omega) (by omega), (hb i (by omega) (by omega)).2⟩)]
    rw [show l.size + 1 + r.size = l.size + (1 + r.size) by omega, List.range_add, List.map_append]
    congr 1
    rw [Nat.add_comm 1 r.size, List.range_succ_eq_map, List.map_cons, List.map_cons, List.map_map, List.map_map]
    congr 1
    exact List.map_congr_left fun i _ => congrArg g (by show f + l.size + 1 + i = f + (l.size + (i + 1)); omega)
theorem rep_sorted {ns : List Int} {t : Tr} (hn : ns.length = t.size) (up : ns.Pairwise (· ≤ ·)) : repOf (valAt ns) t 0 none none = ns := by
  have get : ∀ i (h : i < ns.length), valAt ns i = ns[i] := fun i h => by
    unfold valAt
    rw [List.getD_eq_getElem?_getD, List.getElem?_eq_getElem h]
    rfl
  rw [rep_id t.size (fun i j h1 h2 => by rw [get i (by omega), get j (by omega)]; exact List.pairwise_iff_getElem.mp up i j (by omega) (by omega) h1) t 0 none none (by omega) (fun i _ _ => ⟨fun l e => (by cases e), fun l e => (by cases e)⟩)]
  refine List.ext_getElem (by rw [List.length_map, List.length_range, hn]) fun i h1 h2 => ?_
  rw [List.getElem_map, List.getElem_range, Nat.zero_add, get i h2]
theorem rep_up (g : Nat → Int) (t : Tr) : (repOf g t 0 none none).Pairwise (· ≤ ·) := (rep_in t 0 none none straight_none).1
end HSP
namespace HSP
open PySem PySem.Spec PyProof.Rows L2
/-! ## insertion indices, counted on the representative -/
def below (R : List Int) (tw : Int) : Nat := (R.filter fun v => decide (2 * v < tw)).length
def upto (R : List Int) (tw : Int) : Nat := (R.filter fun v => decide (2 * v ≤ tw)).length
theorem count_app {p : Int → Bool} (A B : List Int) (c : Int) : ((A ++ c :: B).filter p).length = (A.filter p).length + ((if p c = true then 1 else 0) + (B.filter p).length) := by
  rw [List.filter_append, List.length_append, List.filter_cons]
  congr 1
  by_cases h : p c = true
  · rw [if_pos h, if_pos h, List.length_cons, Nat.add_comm]
  · rw [if_neg h, if_neg h, Nat.zero_add]
theorem count_all {p : Int → Bool} {A : List Int} (h : ∀ x, x ∈ A → p x = true) : (A.filter p).length = A.length := by
  rw [List.filter_eq_self.mpr h]
theorem count_none {p : Int → Bool} {A : List Int} (h : ∀ x, x ∈ A → p x = false) : (A.filter p).length = 0 := by
  rw [List.filter_eq_nil_iff.mpr fun x hx => by rw [h x hx]; exact Bool.false_ne_true]
  rfl
theorem clamp_low {lo hi : Option Int} {v tw : Int} (s : Straight lo hi) (h1 : ∀ l, lo = some l → 2 * l < tw) (h2 : ∀ h, hi = some h → tw ≤ 2 * h) : tw ≤ 2 * clamp lo hi v ↔ tw ≤ 2 * v := by
  cases lo with
  | none => cases hi with
    | none => exact Iff.rfl
    | some b =>
      have := h2 b rfl
      show tw ≤ 2 * (if v ≥ b then b else v) ↔ _
      split <;> omega
  | some a => cases hi with
    | none =>
      have := h1 a rfl
      show tw ≤ 2 * (if v ≤ a then a else v) ↔ _
      split <;> omega
    | some b =>
      have := h1 a rfl
      have := h2 b rfl
      show tw ≤ 2 * (if v ≤ a then a else if v ≥ b then b else v) ↔ _
      split <;> (try split) <;> omega
theorem clamp_up {lo hi : Option Int} {v tw : Int} (s : Straight lo hi) (h1 : ∀ l, lo = some l → 2 * l ≤ tw) (h2 : ∀ h, hi = some h → tw < 2 * h) : tw < 2 * clamp lo hi v ↔ tw < 2 * v := by
  cases lo with
  | none => cases hi with
    | none => exact Iff.rfl
    | some b =>
      have := h2 b rfl
      show tw < 2 * (if v ≥ b then b else v) ↔ _
      split <;> omega
  | some a => cases hi with
    | none =>
      have := h1 a rfl
      show tw < 2 * (if v ≤ a then a else v) ↔ _
      split <;> omega
    | some b =>
      have := h1 a rfl
      have := h2 b rfl
      show tw < 2 * (if v ≤ a then a else if v ≥ b then b else v) ↔ _
      split <;> (try split) <;> omega
theorem end_left {g : Nat → Int} {tw : Int} : ∀ (t : Tr) (f : Nat) (lo hi : Option Int), Straight lo hi → (∀ l, lo = some l → 2 * l < tw) → (∀ h, hi = some h → tw ≤ 2 * h) → (sEnd g tw .lft t f).2 = f + below (repOf g t f lo hi) tw
  | .nil, _, _, _, _, _, _ => rfl
  | .nod l r, f, lo, hi, s, h1, h2 => by
    obtain ⟨s1, s2⟩ := clamp_in s (g (f + l.size))
    have m1 := (rep_in (g := g) l f lo (some (clamp lo hi (g (f + l.size)))) s1).2
    have m2 := (rep_in (g := g) r (f + l.size + 1) (some (clamp lo hi (g (f + l.size)))) hi s2).2
    have key := clamp_low (v := g (f + l.size)) s h1 h2
    have i1 := end_left (g := g) (tw := tw) l f lo (some (clamp lo hi (g (f + l.size)))) s1 h1
    have i2 := end_left (g := g) (tw := tw) r (f + l.size + 1) (some (clamp lo hi (g (f + l.size)))) hi s2
    have len := repOf_len g l f lo (some (clamp lo hi (g (f + l.size))))
    rw [sEnd_nod, repOf_nod]
    unfold below at i1 i2 ⊢
    rw [count_app]
    generalize clamp lo hi (g (f + l.size)) = c at *
    by_cases q : tw ≤ 2 * g (f + l.size)
    · have qc := key.mpr q
      have w : wayOf tw (g (f + l.size)) .lft = .lft := by
        unfold wayOf
        split
        · rfl
        · rw [if_pos (by omega)]
      rw [w]
      show (sEnd g tw .lft l f).2 = _
      rw [i1 fun h e => by cases e; exact qc, if_neg (by rw [decide_eq_true_iff]; omega), count_none (A := repOf g r (f + l.size + 1) (some c) hi) fun x hx => by
        have := (m2 x hx).1 c rfl
        exact decide_eq_false (by omega)]
      omega
    · have qc : ¬ tw ≤ 2 * c := fun z => q (key.mp z)
      have w : wayOf tw (g (f + l.size)) .lft = .rgt := by
        unfold wayOf
        rw [if_neg (by omega), if_neg (by omega)]
      rw [w]
      show (sEnd g tw .lft r (f + l.size + 1)).2 = _
      rw [i2 (fun a e => by cases e; omega) h2, if_pos (decide_eq_true (by omega)), count_all (A := repOf g l f lo (some c)) fun x hx => by
        have := (m1 x hx).2 c rfl
        exact decide_eq_true (by omega), len]
      omega
theorem end_right {g : Nat → Int} {tw : Int} : ∀ (t : Tr) (f : Nat) (lo hi : Option Int), Straight lo hi → (∀ l, lo = some l → 2 * l ≤ tw) → (∀ h, hi = some h → tw < 2 * h) → (sEnd g tw .rgt t f).2 = f + upto (repOf g t f lo hi) tw
  | .nil, _, _, _, _, _, _ => rfl
  | .nod l r, f, lo, hi, s, h1, h2 => by
    obtain ⟨s1, s2⟩ := clamp_in s (g (f + l.size))
    have m1 := (rep_in (g := g) l f lo (some (clamp lo hi (g (f + l.size)))) s1).2
    have m2 := (rep_in (g := g) r (f + l.size + 1) (some (clamp lo hi (g (f + l.size)))) hi s2).2
    have key := clamp_up (v := g (f + l.size)) s h1 h2
    have i1 := end_right (g := g) (tw := tw) l f lo (some (clamp lo hi (g (f + l.size)))) s1 h1
    have i2 := end_right (g := g) (tw := tw) r (f + l.size + 1) (some (clamp lo hi (g (f + l.size)))) hi s2
    have len := repOf_len g l f lo (some (clamp lo hi (g (f + l.size))))
    rw [sEnd_nod, repOf_nod]
    unfold upto at i1 i2 ⊢
    rw [count_app]
    generalize clamp lo hi (g (f + l.size)) = c at *
    by_cases q : tw < 2 * g (f + l.size)
    · have qc := key.mpr q
      have w : wayOf tw (g (f + l.size)) .rgt = .lft := by
        unfold wayOf
        rw [if_neg (by omega), if_pos q]
      rw [w]
      show (sEnd g tw .rgt l f).2 = _
      rw [i1 fun h e => by cases e; exact qc, if_neg (by rw [decide_eq_true_iff]; omega), count_none (A := repOf g r (f + l.size + 1) (some c) hi) fun x hx => by
        have := (m2 x hx).1 c rfl
        exact decide_eq_false (by omega)]
      omega
    · have qc : ¬ tw < 2 * c := fun z => q (key.mp z)
      have w : wayOf tw (g (f + l.size)) .rgt = .rgt := by
        unfold wayOf
        split
        · rfl
        · first | rfl | rw [if_neg q]
      rw [w]
      show (sEnd g tw .rgt r (f + l.size + 1)).2 = _
      rw [i2 (fun a e => by cases e; omega) h2, if_pos (decide_eq_true (by omega)), count_all (A := repOf g l f lo (some c)) fun x hx => by
        have := (m1 x hx).2 c rfl
        exact decide_eq_true (by omega), len]
      omega
theorem sEnd_ge (g : Nat → Int) (tw : Int) (m : Md) : ∀ (t : Tr) (f : Nat), f ≤ (sEnd g tw m t f).2
  | .nil, f => Nat.le_refl f
  | .nod l r, f => by
    rw [sEnd_nod]
    cases wayOf tw (g (f + l.size)) m with
    | fin => exact Nat.le_add_right _ _
    | lft => exact sEnd_ge g tw m l f
    | rgt =>
      have := sEnd_ge g tw m r (f + l.size + 1)
      show f ≤ (sEnd g tw m r (f + l.size + 1)).2
      omega
theorem fin_false {g : Nat → Int} {tw : Int} : ∀ (t : Tr) (f j : Nat), sEnd g tw .fin t f = (false, j) → (sEnd g tw .lft t f).2 = j ∧ (sEnd g tw .rgt t f).2 = j
  | .nil, f, j, h => by cases h; exact ⟨rfl, rfl⟩
  | .nod l r, f, j, h => by
    rw [sEnd_nod] at h ⊢
    rw [sEnd_nod]
    unfold wayOf at h ⊢
    by_cases c : tw = 2 * g (f + l.size)
    · rw [if_pos c] at h
      cases h
    · rw [if_neg c] at h ⊢
      rw [if_neg c]
      by_cases d : tw < 2 * g (f + l.size)
      · rw [if_pos d] at h ⊢
        exact fin_false l f j h
      · rw [if_neg d] at h ⊢
        exact fin_false r (f + l.size + 1) j h
theorem fin_true {g : Nat → Int} {tw : Int} : ∀ (t : Tr) (f j : Nat), sEnd g tw .fin t f = (true, j) → (sEnd g tw .lft t f).2 ≤ j ∧ j < (sEnd g tw .rgt t f).2
  | .nil, f, j, h => by cases h
  | .nod l r, f, j, h => by
    rw [sEnd_nod] at h ⊢
    rw [sEnd_nod]
    unfold wayOf at h ⊢
    by_cases c : tw = 2 * g (f + l.size)
    · rw [if_pos c] at h ⊢
      rw [if_pos c]
      have e := (Prod.mk.inj h).2
      have h1 := sEnd_le g tw .lft l f
      have h2 := sEnd_ge g tw .rgt r (f + l.size + 1)
      constructor
      · show (sEnd g tw .lft l f).2 ≤ j
        omega
      · show j < (sEnd g tw .rgt r (f + l.size + 1)).2
        omega
    · rw [if_neg c] at h ⊢
      rw [if_neg c]
      by_cases d : tw < 2 * g (f + l.size)
      · rw [if_pos d] at h ⊢
        exact fin_true l f j h
      · rw [if_neg d] at h ⊢
        exact fin_true r (f + l.size + 1) j h
/-- what is asked of each number -/
theorem ends_rep {g : Nat → Int} {t : Tr} {tw : Int} : (sEnd g tw .lft t 0).2 = below (repOf g t 0 none none) tw ∧ (sEnd g tw .rgt t 0).2 = upto (repOf g t 0 none none) tw ∧
    (below (repOf g t 0 none none) tw = upto (repOf g t 0 none none) tw → sEnd g tw .fin t 0 = (false, below (repOf g t 0 none none) tw)) ∧
    (below (repOf g t 0 none none) tw < upto (repOf g t 0 none none) tw → (sEnd g tw .fin t 0).1 = true ∧ below (repOf g t 0 none none) tw ≤ (sEnd g tw .fin t 0).2 ∧ (sEnd g tw .fin t 0).2 < upto (repOf g t 0 none none) tw) := by
  have h1 := end_left (g := g) (tw := tw) t 0 none none straight_none (fun l e => by cases e) (fun l e => by cases e)
  have h2 := end_right (g := g) (tw := tw) t 0 none none straight_none (fun l e => by cases e) (fun l e => by cases e)
  rw [Nat.zero_add] at h1 h2
  refine ⟨h1, h2, ?_⟩
  cases e : sEnd g tw .fin t 0 with
  | mk b j => cases b with
    | false =>
      obtain ⟨q1, q2⟩ := fin_false t 0 j e
      refine ⟨fun _ => ?_, fun h => ?_⟩
      · rw [← h1, q1]
      · omega
    | true =>
      obtain ⟨q1, q2⟩ := fin_true t 0 j e
      refine ⟨fun h => ?_, fun _ => ⟨rfl, ?_, ?_⟩⟩
      · omega
      · show below _ tw ≤ j
        omega
      · show j < upto _ tw
        omega
end HSP
namespace HSP
open PySem PySem.Spec PyProof.Rows L2
/-! ## a list acts like its representative -/
theorem end_rep {g r : Nat → Int} {tw : Int} : ∀ (t : Tr) (f : Nat) (lo hi : Option Int), Straight lo hi → (∀ i, i < t.size → (repOf g t f lo hi)[i]? = some (r (f + i))) → (∀ l, lo = some l → 2 * l < tw) → (∀ h, hi = some h → tw < 2 * h) → sEnd g tw .fin t f = sEnd r tw .fin t f
  | .nil, _, _, _, _, _, _, _ => rfl
  | .nod l u, f, lo, hi, s, hr, h1, h2 => by
    have z : (Tr.nod l u).size = l.size + 1 + u.size := rfl
    rw [z] at hr
    obtain ⟨s1, s2⟩ := clamp_in s (g (f + l.size))
    have k1 := clamp_low (v := g (f + l.size)) (tw := tw) s h1 fun h e => by have := h2 h e; omega
    have k2 := clamp_up (v := g (f + l.size)) (tw := tw) s (fun a e => by have := h1 a e; omega) h2
    have len := repOf_len g l f lo (some (clamp lo hi (g (f + l.size))))
    have i1 := end_rep (g := g) (r := r) (tw := tw) l f lo (some (clamp lo hi (g (f + l.size)))) s1
    have i2 := end_rep (g := g) (r := r) (tw := tw) u (f + l.size + 1) (some (clamp lo hi (g (f + l.size)))) hi s2
    rw [repOf_nod] at hr
    rw [sEnd_nod, sEnd_nod]
    generalize clamp lo hi (g (f + l.size)) = c at *
    have rc : r (f + l.size) = c := by
      have q := hr l.size (by omega)
      rw [get_app, len, if_neg (Nat.lt_irrefl _), if_pos rfl] at q
      exact (Option.some.inj q).symm
    rw [rc]
    unfold wayOf
    by_cases a : tw = 2 * g (f + l.size)
    · rw [if_pos a, if_pos (show tw = 2 * c by omega)]
    · rw [if_neg a, if_neg (show ¬ tw = 2 * c by omega)]
      by_cases b : tw < 2 * g (f + l.size)
      · rw [if_pos b, if_pos (k2.mpr b)]
        refine i1 (fun i hi => ?_) h1 fun h e => ?_
        · have q := hr i (by omega)
          rw [get_app, len, if_pos hi] at q
          exact q
        · cases e
          exact k2.mpr b
      · rw [if_neg b, if_neg (fun q => b (k2.mp q))]
        refine i2 (fun i hi => ?_) (fun a e => ?_) h2
        · have q := hr (l.size + 1 + i) (by omega)
          rw [get_app, len, if_neg (by omega), if_neg (by omega), show l.size + 1 + i - l.size - 1 = i by omega] at q
          rw [q]
          exact congrArg (fun n => some (r n)) (by omega)
        · cases e
          have := k1
          omega
/-- the two lists of counts tell sorted lists apart -/
theorem below_same : ∀ {R S : List Int}, R.Pairwise (· ≤ ·) → S.Pairwise (· ≤ ·) → R.length = S.length → (∀ tw : Int, tw % 2 = 1 → below R tw = below S tw) → R = S
  | [], S, _, _, l, _ => (List.length_eq_zero_iff.mp l.symm).symm
  | a :: R, [], _, _, l, _ => by cases l
  | a :: R, b :: S, hR, hS, l, h => by
    obtain ⟨r1, r2⟩ := List.pairwise_cons.mp hR
    obtain ⟨s1, s2⟩ := List.pairwise_cons.mp hS
    have cons : ∀ (x : Int) (l : List Int) (tw : Int), below (x :: l) tw = (if 2 * x < tw then 1 else 0) + below l tw := fun x l tw => by
      unfold below
      rw [List.filter_cons]
      by_cases c : 2 * x < tw
      · rw [if_pos (decide_eq_true c), if_pos c, List.length_cons, Nat.add_comm]
      · rw [if_neg (by rw [decide_eq_true_iff]; exact c), if_neg c, Nat.zero_add]
    have none : ∀ (x : Int) (l : List Int), (∀ y, y ∈ l → x ≤ y) → below l (2 * x + 1 - 2) = 0 := fun x l hl => count_none fun y hy => by
      have := hl y hy
      exact decide_eq_false (by omega)
    have e : a = b := by
      by_cases c : a < b
      · have q := h (2 * a + 1) (by omega)
        rw [cons, cons, if_pos (by omega), if_neg (by omega)] at q
        have z : below S (2 * a + 1) = 0 := count_none fun y hy => by
          have := s1 y hy
          exact decide_eq_false (by omega)
        omega
      · by_cases d : b < a
        · have q := h (2 * b + 1) (by omega)
          rw [cons, cons, if_neg (by omega), if_pos (by omega)] at q
          have z : below R (2 * b + 1) = 0 := count_none fun y hy => by
            have := r1 y hy
            exact decide_eq_false (by omega)
          omega
        · omega
    subst e
    rw [below_same r2 s2 (Nat.succ.inj l) fun tw ht => by
      have q := h tw ht
      rw [cons, cons] at q
      omega]
theorem valAt_get' {l : List Int} {i : Nat} (h : i < l.length) : l[i]? = some (valAt l i) := by
  unfold valAt
  rw [List.getD_eq_getElem?_getD, List.getElem?_eq_getElem h]
  rfl
/-- every search ends in the representative as in the list -/
theorem ends_of_rep (g : Nat → Int) (t : Tr) (tw : Int) : sEnd g tw .fin t 0 = sEnd (valAt (repOf g t 0 none none)) tw .fin t 0 :=
  end_rep t 0 none none straight_none (fun i hi => by rw [Nat.zero_add]; exact valAt_get' (by rw [repOf_len]; exact hi)) (fun l e => by cases e) (fun l e => by cases e)
theorem odd_below {g : Nat → Int} {t : Tr} {tw : Int} (h : tw % 2 = 1) : sEnd g tw .fin t 0 = (false, below (repOf g t 0 none none) tw) := by
  refine (ends_rep (g := g) (t := t) (tw := tw)).2.2.1 ?_
  unfold below upto
  refine congrArg List.length (List.filter_congr fun v _ => ?_)
  exact decide_eq_decide.mpr ⟨fun z => by omega, fun z => by omega⟩
/-- two lists act alike just if their representatives are equal -/
theorem alike_rep {g g' : Nat → Int} {t : Tr} : (∀ tw, sEnd g tw .fin t 0 = sEnd g' tw .fin t 0) ↔ repOf g t 0 none none = repOf g' t 0 none none := by
  constructor
  · intro h
    refine below_same (rep_up g t) (rep_up g' t) (by rw [repOf_len, repOf_len]) fun tw ht => ?_
    have z := h tw
    rw [odd_below ht, odd_below ht] at z
    exact (Prod.mk.inj z).2
  · intro h tw
    rw [ends_of_rep g, ends_of_rep g', h]
theorem alike_own {ns : List Int} {t : Tr} : ∀ tw, sEnd (valAt ns) tw .fin t 0 = sEnd (valAt (repOf (valAt ns) t 0 none none)) tw .fin t 0 := fun tw => ends_of_rep _ t tw
theorem alike_sorted {ns ms : List Int} {t : Tr} (hn : ns.length = t.size) (hm : ms.length = t.size) (un : ns.Pairwise (· ≤ ·)) (um : ms.Pairwise (· ≤ ·)) : (∀ tw, sEnd (valAt ns) tw .fin t 0 = sEnd (valAt ms) tw .fin t 0) ↔ ns = ms := by
  rw [alike_rep, rep_sorted hn un, rep_sorted hm um]
end HSP
namespace HSP
open PySem PySem.Spec PyProof.Rows L2
/-! ## the cuts between the blocks of a list that never falls -/
def cutsL (L : List Int) (vs : List Int) : List Nat := vs.map (fun v => L.countP fun x => decide (x < v)) ++ [L.length]
def diffsN : List Nat → List Int
  | a :: b :: r => (((b : Nat) : Int) - ((a : Nat) : Int)) :: diffsN (b :: r)
  | _ => []
theorem diffs_len : ∀ G : List Nat, (diffsN G).length = G.length - 1
  | [] => rfl
  | [_] => rfl
  | a :: b :: r => by
    show (diffsN (b :: r)).length + 1 = _
    rw [diffs_len (b :: r)]
    rfl
theorem diffs_at : ∀ {G : List Nat} {i a b : Nat}, G[i]? = some a → G[i + 1]? = some b → (diffsN G)[i]? = some (((b : Nat) : Int) - ((a : Nat) : Int))
  | [], _, _, _, h, _ => by cases h
  | [_], _, _, _, _, h => by cases h
  | x :: y :: r, 0, a, b, h1, h2 => by
    cases h1
    cases h2
    rfl
  | x :: y :: r, i + 1, a, b, h1, h2 => by
    have := diffs_at (G := y :: r) (i := i) (a := a) (b := b) h1 h2
    exact this
theorem count_step {L : List Int} {v : Int} {p : Int → Bool} (h : ∀ x, x ∈ L → (p x = true ↔ x < v ∨ x = v)) : L.countP p = (L.countP fun x => decide (x < v)) + L.countP fun x => decide (x = v) := by
  induction L with
  | nil => rfl
  | cons a r ih =>
    have ih := ih fun x hx => h x (List.mem_cons_of_mem _ hx)
    have ha := h a List.mem_cons_self
    rw [List.countP_cons, List.countP_cons, List.countP_cons, ih]
    by_cases c1 : a < v
    · have c2 : ¬ a = v := by omega
      rw [if_pos (ha.mpr (.inl c1)), if_pos (decide_eq_true c1), if_neg (fun z => c2 (of_decide_eq_true z))]
      omega
    · by_cases c2 : a = v
      · rw [if_pos (ha.mpr (.inr c2)), if_neg (fun z => c1 (of_decide_eq_true z)), if_pos (decide_eq_true c2)]
        omega
      · rw [if_neg (fun z => (ha.mp z).elim c1 c2), if_neg (fun z => c1 (of_decide_eq_true z)), if_neg (fun z => c2 (of_decide_eq_true z))]
        omega
theorem cuts_diffs {L : List Int} : ∀ {vs : List Int}, vs.Pairwise (· < ·) → (∀ x, x ∈ L → x ∈ vs ∨ ∀ v, v ∈ vs → x < v) → diffsN (cutsL L vs) = vs.map fun v => ((L.countP fun x => decide (x = v) : Nat) : Int)
  | [], _, _ => rfl
  | [v], _, h => by
    show [((L.length : Nat) : Int) - (((L.countP fun x => decide (x < v)) : Nat) : Int)] = [_]
    have e := count_step (L := L) (v := v) (p := fun _ => true) fun x hx => ⟨fun _ => by
      rcases h x hx with z | z
      · exact .inr (List.mem_singleton.mp z)
      · exact .inl (z v List.mem_cons_self), fun _ => rfl⟩
    rw [List.countP_true] at e
    rw [e]
    refine congrArg (fun z => [z]) ?_
    show _ = (((L.countP fun x => decide (x = v)) : Nat) : Int)
    omega
  | v :: u :: r, up, h => by
    have up' := (List.pairwise_cons.mp up).2
    have lt := (List.pairwise_cons.mp up).1
    have vu := lt u List.mem_cons_self
    have ih := cuts_diffs (L := L) (vs := u :: r) up' fun x hx => by
      rcases h x hx with z | z
      · rcases List.mem_cons.mp z with z | z
        · exact .inr fun w hw => z ▸ lt w hw
        · exact .inl z
      · exact .inr fun w hw => z w (List.mem_cons_of_mem _ hw)
    have e := count_step (L := L) (v := v) (p := fun x => decide (x < u)) fun x hx => ⟨fun z => by
      have z := of_decide_eq_true z
      rcases h x hx with y | y
      · rcases List.mem_cons.mp y with y | y
        · exact .inr y
        · rcases List.mem_cons.mp y with y | y
          · omega
          · have := (List.pairwise_cons.mp up').1 x y
            omega
      · exact .inl (y v List.mem_cons_self), fun z => decide_eq_true (by omega)⟩
    show ((((L.countP fun x => decide (x < u)) : Nat) : Int) - (((L.countP fun x => decide (x < v)) : Nat) : Int)) :: diffsN (cutsL L (u :: r)) = _
    rw [ih, e, List.map_cons]
    refine congrArg (fun z => z :: _) ?_
    show _ = (((L.countP fun x => decide (x = v)) : Nat) : Int)
    omega
theorem cuts_up {L : List Int} : ∀ {vs : List Int}, vs.Pairwise (· < ·) → (∀ v, v ∈ vs → v ∈ L) → (cutsL L vs).Pairwise (· < ·)
  | [], _, _ => List.pairwise_singleton _ _
  | v :: r, up, h => by
    have ih := cuts_up (L := L) (vs := r) (List.pairwise_cons.mp up).2 fun w hw => h w (List.mem_cons_of_mem _ hw)
    have hv := h v List.mem_cons_self
    have strict : ∀ p : Int → Bool, (∀ x, x < v → p x = true) → p v = true → (L.countP fun x => decide (x < v)) < L.countP p := fun p h1 h2 => by
      clear ih h up
      have le : ∀ M : List Int, (M.countP fun x => decide (x < v)) ≤ M.countP p := fun M => List.countP_mono_left fun x _ z => h1 x (of_decide_eq_true z)
      induction L with
      | nil => cases hv
      | cons a s ih =>
        rw [List.countP_cons, List.countP_cons]
        by_cases c : a = v
        · rw [if_neg (fun z => by have := of_decide_eq_true z; omega), if_pos (by rw [c]; exact h2)]
          have := le s
          omega
        · have ih := ih ((List.mem_cons.mp hv).resolve_left fun z => c z.symm)
          by_cases d : a < v
          · rw [if_pos (decide_eq_true d), if_pos (h1 a d)]
            omega
          · rw [if_neg (fun z => d (of_decide_eq_true z))]
            omega
    refine List.pairwise_cons.mpr ⟨fun y hy => ?_, ih⟩
    rcases List.mem_append.mp hy with hy | hy
    · obtain ⟨w, hw, rfl⟩ := List.mem_map.mp hy
      have := (List.pairwise_cons.mp up).1 w hw
      exact strict _ (fun x hx => decide_eq_true (by omega)) (decide_eq_true this)
    · rw [List.mem_singleton.mp hy, show L.length = L.countP fun _ => true from (by rw [List.countP_true])]
      exact strict _ (fun _ _ => rfl) rfl
theorem below_count (L : List Int) (tw : Int) : below L tw = L.countP fun x => decide (2 * x < tw) := (List.countP_eq_length_filter).symm
theorem below_cut {L : List Int} {tw : Int} (ne : ∀ x, x ∈ L → 2 * x ≠ tw) : ∀ {vs : List Int}, vs.Pairwise (· < ·) → (∀ v, v ∈ vs → v ∈ L) → (∀ x, x ∈ L → x ∉ vs → 2 * x < tw) → below L tw ∈ cutsL L vs
  | [], _, _, h => by
    rw [below_count, List.countP_eq_length.mpr fun x hx => decide_eq_true (h x hx List.not_mem_nil)]
    exact List.mem_singleton.mpr rfl
  | v :: r, up, hv, h => by
    by_cases c : tw < 2 * v
    · have e : below L tw = L.countP fun x => decide (x < v) := by
        rw [below_count]
        refine List.countP_congr fun x hx => ?_
        rw [decide_eq_true_iff, decide_eq_true_iff]
        refine ⟨fun z => by omega, fun z => h x hx fun m => ?_⟩
        rcases List.mem_cons.mp m with m | m
        · omega
        · have := (List.pairwise_cons.mp up).1 x m
          omega
      rw [e]
      exact List.mem_cons_self
    · have := ne v (hv v List.mem_cons_self)
      refine List.mem_cons_of_mem _ (below_cut ne (List.pairwise_cons.mp up).2 (fun w hw => hv w (List.mem_cons_of_mem _ hw)) fun x hx nr => ?_)
      by_cases d : x = v
      · omega
      · exact h x hx fun m => (List.mem_cons.mp m).elim d nr
theorem rise_few : ∀ {G : List Nat} {lo M : Nat}, G.Pairwise (· < ·) → (∀ x, x ∈ G → lo ≤ x ∧ x < M) → G.length ≤ M - lo
  | [], _, _, _, _ => Nat.zero_le _
  | x :: r, lo, M, up, h => by
    have h1 := h x List.mem_cons_self
    have := rise_few (G := r) (lo := x + 1) (M := M) (List.pairwise_cons.mp up).2 fun y hy => ⟨(List.pairwise_cons.mp up).1 y hy, (h y (List.mem_cons_of_mem _ hy)).2⟩
    rw [List.length_cons]
    omega
/-- lists that rise and hold the same are the same -/
theorem rise_uniq : ∀ {a b : List Nat}, a.Pairwise (· < ·) → b.Pairwise (· < ·) → (∀ x, x ∈ a ↔ x ∈ b) → a = b
  | [], [], _, _, _ => rfl
  | [], y :: b, _, _, h => nomatch (h y).mpr List.mem_cons_self
  | x :: a, [], _, _, h => nomatch (h x).mp List.mem_cons_self
  | x :: a, y :: b, ua, ub, h => by
    obtain ⟨ha, ua'⟩ := List.pairwise_cons.mp ua
    obtain ⟨hb, ub'⟩ := List.pairwise_cons.mp ub
    have e : x = y := by
      rcases List.mem_cons.mp ((h x).mp List.mem_cons_self) with e | m
      · exact e
      · rcases List.mem_cons.mp ((h y).mpr List.mem_cons_self) with e | m'
        · exact e.symm
        · have h1 := hb x m
          have h2 := ha y m'
          omega
    subst e
    refine congrArg (x :: ·) (rise_uniq ua' ub' fun z => ⟨fun m => ?_, fun m => ?_⟩)
    · rcases List.mem_cons.mp ((h z).mp (List.mem_cons_of_mem _ m)) with e | m'
      · have := ha z m
        omega
      · exact m'
    · rcases List.mem_cons.mp ((h z).mpr (List.mem_cons_of_mem _ m)) with e | m'
      · have := hb z m
        omega
      · exact m'
end HSP
namespace HSP
open PySem PySem.Spec PyProof.Rows L2
def topS (i : Nat) : Stmt := PySem.Challenge.pw_halfsearch_k14_whole_patterns_are_cuttin.main.body.getD i (.Pass ⟨0, 0, 0, 0⟩)
abbrev s_is_whole : Stmt := topS 7
abbrev p_is_whole : List Str := ["thing"]
abbrev n_is_whole : List Str := ["thing"]
abbrev s_is_tree : Stmt := topS 8
abbrev p_is_tree : List Str := ["thing"]
abbrev n_is_tree : List Str := ["thing", "waiting", "part"]
abbrev s_count_nodes : Stmt := topS 9
abbrev p_count_nodes : List Str := ["tree"]
abbrev n_count_nodes : List Str := ["tree", "many", "waiting", "part"]
abbrev s_walk : Stmt := topS 10
abbrev p_walk : List Str := ["tree"]
abbrev n_walk : List Str := ["tree", "rows", "waiting", "part", "first", "above", "left", "right", "node"]
abbrev s_paths_of : Stmt := topS 11
abbrev p_paths_of : List Str := ["tree"]
abbrev n_paths_of : List Str := ["tree", "paths", "node", "above", "_"]
abbrev s_check_tree : Stmt := topS 12
abbrev p_check_tree : List Str := ["tree"]
abbrev n_check_tree : List Str := ["tree"]
abbrev s_check_row : Stmt := topS 13
abbrev p_check_row : List Str := ["row"]
abbrev n_check_row : List Str := ["row", "node", "value"]
abbrev s_check_values : Stmt := topS 14
abbrev p_check_values : List Str := ["tree", "values"]
abbrev n_check_values : List Str := ["tree", "values"]
abbrev s_bounds_below : Stmt := topS 16
abbrev p_bounds_below : List Str := ["values", "above"]
abbrev n_bounds_below : List Str := ["values", "above", "low", "high", "node", "side"]
abbrev s_label_of : Stmt := topS 17
abbrev p_label_of : List Str := ["bounds", "value"]
abbrev n_label_of : List Str := ["bounds", "value", "low", "high"]
abbrev s_labels_of : Stmt := topS 18
abbrev p_labels_of : List Str := ["tree", "values"]
abbrev n_labels_of : List Str := ["tree", "values", "ways", "way", "value"]
abbrev s_labels : Stmt := topS 19
abbrev p_labels : List Str := ["tree", "values"]
abbrev n_labels : List Str := ["tree", "values"]
abbrev s_killer_of : Stmt := topS 22
abbrev p_killer_of : List Str := ["pattern", "above"]
abbrev n_killer_of : List Str := ["pattern", "above", "ancestor", "side"]
abbrev s_bound_of : Stmt := topS 23
abbrev p_bound_of : List Str := ["pattern", "above", "side"]
abbrev n_bound_of : List Str := ["pattern", "above", "side", "nearest", "ancestor", "turned"]
abbrev s_is_possible : Stmt := topS 24
abbrev p_is_possible : List Str := ["pattern", "node", "above"]
abbrev n_is_possible : List Str := ["pattern", "node", "above", "label"]
abbrev s_impossible_node : Stmt := topS 25
abbrev p_impossible_node : List Str := ["tree", "pattern"]
abbrev n_impossible_node : List Str := ["tree", "pattern", "node", "above"]
abbrev s_owners_of : Stmt := topS 26
abbrev p_owners_of : List Str := ["tree", "pattern"]
abbrev n_owners_of : List Str := ["tree", "pattern", "owners", "node", "above", "label"]
abbrev s_all_patterns : Stmt := topS 27
abbrev p_all_patterns : List Str := ["tree"]
abbrev n_all_patterns : List Str := ["tree", "many", "rows", "_", "row", "step"]
abbrev s_check_strings : Stmt := topS 28
abbrev p_check_strings : List Str := ["tree", "pattern"]
abbrev n_check_strings : List Str := ["tree", "pattern", "label"]
abbrev s_check_lengths : Stmt := topS 29
abbrev p_check_lengths : List Str := ["tree", "lengths"]
abbrev n_check_lengths : List Str := ["tree", "lengths", "length"]
abbrev s_check_pattern : Stmt := topS 30
abbrev p_check_pattern : List Str := ["tree", "pattern"]
abbrev n_check_pattern : List Str := ["tree", "pattern", "node"]
abbrev s_count_patterns : Stmt := topS 31
abbrev p_count_patterns : List Str := ["tree"]
abbrev n_count_patterns : List Str := ["tree"]
abbrev s_blocks : Stmt := topS 32
abbrev p_blocks : List Str := ["tree", "pattern"]
abbrev n_blocks : List Str := ["tree", "pattern", "owners", "node", "label"]
abbrev s_pattern_of : Stmt := topS 33
abbrev p_pattern_of : List Str := ["tree", "lengths"]
abbrev n_pattern_of : List Str := ["tree", "lengths", "at", "length", "_"]
abbrev s_each_pattern : Stmt := topS 34
abbrev p_each_pattern : List Str := ["tree"]
abbrev n_each_pattern : List Str := ["tree", "many", "pattern"]
abbrev s_law_draws : Stmt := topS 36
abbrev p_law_draws : List Str := ["cell"]
abbrev n_law_draws : List Str := ["cell"]
abbrev s_law_next : Stmt := topS 37
abbrev p_law_next : List Str := ["draws"]
abbrev n_law_next : List Str := ["draws", "k", "number"]
abbrev s_law_size : Stmt := topS 38
abbrev p_law_size : List Str := ["tree"]
abbrev n_law_size : List Str := ["tree"]
abbrev s_law_tree : Stmt := topS 39
abbrev p_law_tree : List Str := ["draws", "room"]
abbrev n_law_tree : List Str := ["draws", "room", "at"]
abbrev s_law_values : Stmt := topS 40
abbrev p_law_values : List Str := ["draws", "many"]
abbrev n_law_values : List Str := ["draws", "many", "pick", "spread", "k", "told", "at"]
abbrev s_law_cuttings : Stmt := topS 41
abbrev p_law_cuttings : List Str := ["many"]
abbrev n_law_cuttings : List Str := ["many", "told", "first", "rest"]
abbrev s_law_right : Stmt := topS 42
abbrev p_law_right : List Str := ["draws"]
abbrev n_law_right : List Str := ["draws", "tree", "many", "every", "pattern", "turn"]
abbrev s_law : Stmt := topS 43
abbrev p_law : List Str := ["script"]
abbrev n_law : List Str := ["script", "cell", "draws"]
end HSP
namespace HSP
open PySem PySem.Spec PyProof.Rows L2
section
variable {P : Program} {w : World} {K : PySem.W.Frag} {mg : Str → Option Value} {base : Heap}
/-! ### count_nodes -/
/-- what waits: trees of together n nodes -/
inductive Waits (H : Hp) : List V → List Tr → Prop
  | nil : Waits H [] []
  | cons {v : V} {t : Tr} {vs : List V} {ts : List Tr} : TrAt H v t → Waits H vs ts → Waits H (v :: vs) (t :: ts)
theorem Waits.len {H : Hp} {vs : List V} {ts : List Tr} (h : Waits H vs ts) : vs.length = ts.length := by
  induction h with
  | nil => rfl
  | cons _ _ ih => rw [List.length_cons, List.length_cons, ih]
def sizes : List Tr → Nat
  | [] => 0
  | t :: r => t.size + sizes r
def turns : List Tr → Nat
  | [] => 0
  | t :: r => 2 * t.size + 1 + turns r
/-- the list on which they wait, the last one first -/
theorem last_rev {v : V} {vs : List V} : (v :: vs).reverse[(v :: vs).reverse.length - 1]? = some v := by
  rw [List.reverse_cons, List.length_append, List.length_singleton, Nat.add_sub_cancel, List.getElem?_append_right (Nat.le_refl _), Nat.sub_self]
  all_goals rfl
theorem drop_rev {v : V} {vs : List V} : (v :: vs).reverse.dropLast = vs.reverse := by
  rw [List.reverse_cons, List.dropLast_concat]
theorem rev_push {v : V} {vs : List V} : vs.reverse ++ [v] = (v :: vs).reverse := by rw [List.reverse_cons]
theorem rev_empty {vs : List V} : (!vs.reverse.isEmpty) = !vs.isEmpty := by
  cases vs with
  | nil => rfl
  | cons v r =>
    rw [List.reverse_cons]
    cases r.reverse <;> rfl
def spCount : Sp := fun vs H Q _ => ∃ (v : V) (t : Tr), vs = [v] ∧ TrAt H v t ∧ t.size ≤ 1000 ∧ ∀ H', Same H H' → Q (.int t.size) H'
theorem sc_count : FnScope n_count_nodes ["tree"] (defScope s_count_nodes) := ⟨rfl, rfl, rfl, by decide +kernel, rfl, by decide +kernel, by decide +kernel⟩
theorem ok_count (a : At K mg "count_nodes" s_count_nodes) : Df P w K mg base "count_nodes" 1 ["tree"] spCount := by
  refine Df.mk' a sc_count (fun vs H Q E h => ?_) (fun _ _ _ _ _ _ us hl => match us, hl with | [_], _ => rfl) (fun f cdv A outer s H vs Q E hr h => ?_)
  · obtain ⟨v, t, rfl, _⟩ := h
    rfl
  obtain ⟨v, t, rfl, ht, hz, q⟩ := h
  refine ⟨_, pss_cons (ps_set (i := 1) sc_count.nd rfl (.inl rfl) pe_int)
    (pss_cons (ps_set (i := 2) sc_count.nd rfl (.inl rfl) (pe_lst (pa_cons (pv 0) pa_nil)))
    (pss_cons (ps_while PassesOwn.never (pt_truth (pv 2) (by intro _; rfl))
      (pss_cons (ps_set (i := 3) sc_count.nd rfl (.inl rfl) (pe_bm0 PySem.F.plainAttrs_list PySem.F.slot_list_pop PySem.F.type_list_pop mt_pop (pv 2)))
      (pss_one (ps_if (pt_cmpR op_notN (pv 3) pe_non (nomark _))
        (pss_cons (ps_aug (i := 1) sc_count.nd rfl (.inl rfl) pe_int ip_add)
        (pss_cons (ps_expr (pe_bm PySem.F.plainAttrs_list PySem.F.slot_list_append PySem.F.type_list_append mt_append (pv 2) (pa_cons (pe_ix ix_tup (pv 3) pe_int (fun _ _ => rfl)) pa_nil)))
        (pss_one (ps_expr (pe_bm PySem.F.plainAttrs_list PySem.F.slot_list_append PySem.F.type_list_append mt_append (pv 2) (pa_cons (pe_ix ix_tup (pv 3) pe_int (fun _ _ => rfl)) pa_nil)))))) pss_nil))))
    (pss_one (ps_ret (pv 1))))), ?_⟩
  refine ⟨v, rfl, (by show 1 ≤ sizeLine; decide), fun l hl => ?_⟩
  have s0 : Same H (upd H l (.lst [v])) := Same.new hl
  refine ⟨fun m σ H1 => ∃ (vs : List V) (ts : List Tr) (n : Nat) (y : Option V), σ = [some v, some (.int n), some (.ref l), y] ∧ Same H H1 ∧ H1 l = some (.lst vs.reverse) ∧ Waits H vs ts ∧ n + sizes ts = t.size ∧ vs.length ≤ n + 1 ∧ m = turns ts,
    ⟨_, [v], [t], 0, none, rfl, s0, upd_same, .cons ht .nil, by show 0 + (t.size + 0) = t.size; omega, by show 1 ≤ 0 + 1; omega, rfl⟩, fun m σ H1 hW => ?_⟩
  obtain ⟨vs, ts, n, y, rfl, sm, el, hw, hn, hlen, rfl⟩ := hW
  refine ⟨.ref l, rfl, !vs.reverse.isEmpty, .inl ⟨_, .of el, rfl⟩, ?_⟩
  rw [rev_empty]
  cases hw with
  | nil =>
    refine iteF ?_
    exact ⟨_, rfl, by rw [show ((n : Nat) : Int) = ((t.size : Nat) : Int) from congrArg _ hn]; exact q _ sm⟩
  | @cons x u xs us hx hxs =>
    refine iteT ⟨fun σ' H' => ∃ m', m' < turns (u :: us) ∧ ∃ (vs : List V) (ts : List Tr) (n : Nat) (y : Option V), σ' = [some v, some (.int n), some (.ref l), y] ∧ Same H H' ∧ H' l = some (.lst vs.reverse) ∧ Waits H vs ts ∧ n + sizes ts = t.size ∧ vs.length ≤ n + 1 ∧ m' = turns ts,
      fun σ' H' hN => hN, ?_⟩
    refine ⟨.ref l, rfl, .inl ⟨rfl, _, .of el⟩, l, _, x, rfl, rfl, el, last_rev, ?_⟩
    rw [drop_rev]
    have sm2 : Same H (upd H1 l (.lst xs.reverse)) := fun b o e => by rw [upd_ne (ne_of_none e hl)]; exact sm b o e
    refine ⟨x, rfl, rfl, _, rfl, ?_⟩
    cases hx with
    | nil =>
      refine iteF ?_
      refine ⟨_, ?_, xs, us, n, _, rfl, sm2, upd_same, hxs, ?_, ?_, rfl⟩
      · show turns us < 2 * 0 + 1 + turns us; omega
      · have : 0 + sizes us = sizes (Tr.nil :: us) := rfl
        omega
      · rw [List.length_cons] at hlen; omega
    | @nod a x1 y1 l1 r1 ea hl1 hr1 =>
      refine iteT ?_
      refine ⟨_, rfl, _, _, rfl, rfl, ?_⟩
      have e2 : (upd H1 l (.lst xs.reverse)) a = some (.tup [x1, y1]) := sm2 _ _ ea
      refine ⟨_, rfl, .inl ⟨rfl, _, .of upd_same⟩, _, rfl, a, _, _, y1, rfl, rfl, .of e2, atI_nat (j := 1) rfl, l, _, _, rfl, rfl, upd_same, ?_, ?_⟩
      · rw [List.length_reverse]
        rw [List.length_cons] at hlen
        exact small1000 (by omega)
      refine ⟨_, rfl, .inl ⟨rfl, _, .of upd_same⟩, _, rfl, a, _, _, x1, rfl, rfl, .of (by rw [upd_ne (ne_of_none ea hl)]; exact e2), atI_nat (xs := [x1, y1]) (j := 0) rfl, l, _, _, rfl, rfl, upd_same, ?_, ?_⟩
      · rw [List.length_append, List.length_reverse, List.length_singleton]
        rw [List.length_cons] at hlen
        have e1 : sizes (Tr.nod l1 r1 :: us) = (l1.size + 1 + r1.size) + sizes us := rfl
        exact small1000 (by omega)
      rw [rev_push, rev_push]
      refine ⟨_, ?_, x1 :: y1 :: xs, l1 :: r1 :: us, n + 1, _, rfl, fun b o e => ?_, upd_same, .cons hl1 (.cons hr1 hxs), ?_, ?_, rfl⟩
      · show 2 * l1.size + 1 + (2 * r1.size + 1 + turns us) < 2 * (l1.size + 1 + r1.size) + 1 + turns us
        omega
      · rw [upd_ne (ne_of_none e hl), upd_ne (ne_of_none e hl)]
        exact sm2 b o e
      · have e1 : sizes (Tr.nod l1 r1 :: us) = (l1.size + 1 + r1.size) + sizes us := rfl
        show n + 1 + (l1.size + (r1.size + sizes us)) = t.size
        omega
      · rw [List.length_cons] at hlen
        show xs.length + 1 + 1 ≤ n + 1 + 1
        omega
end
end HSP
namespace HSP
open PySem PySem.Spec PyProof.Rows L2
section
variable {P : Program} {w : World} {K : PySem.W.Frag} {mg : Str → Option Value} {base : Heap}
/-! ### is_whole -/
def spWhole : Sp := fun vs H Q _ => ∃ i : Int, vs = [.int i] ∧ Q (.bl true) H
theorem sc_whole : FnScope n_is_whole ["thing"] (defScope s_is_whole) := ⟨rfl, rfl, rfl, by decide +kernel, rfl, by decide +kernel, by decide +kernel⟩
theorem ok_whole (B : Bl mg) (a : At K mg "is_whole" s_is_whole) : Df P w K mg base "is_whole" 1 ["thing"] spWhole := by
  refine Df.mk' a sc_whole (fun vs H Q E h => ?_) (fun _ _ _ _ _ _ us hl => match us, hl with | [_], _ => rfl) (fun f cdv A outer s H vs Q E hr h => ?_)
  · obtain ⟨v, rfl, _⟩ := h
    rfl
  obtain ⟨i, rfl, q⟩ := h
  refine ⟨_, pss_one (ps_ret (pe_and (pe_callB call_isi (by rfl) B.isinstance (by decide +kernel) (pa_cons (pv 0) (pa_cons (pe_bltn (v := .ty "int") (by rfl) B.int (by decide +kernel) rfl) pa_nil)))
    (pe_one (pe_not (pe_callB call_isi (by rfl) B.isinstance (by decide +kernel) (pa_cons (pv 0) (pa_cons (pe_bltn (v := .ty "bool") (by rfl) B.bool (by decide +kernel) rfl) pa_nil))))))), ?_⟩
  refine ⟨_, rfl, _, _, _, _, true, rfl, .ty "int", .base (.int i), rfl, true, rfl, iteT ?_⟩
  exact ⟨_, rfl, _, _, _, _, false, rfl, .ty "bool", .base (.int i), rfl, false, rfl, q⟩
end
end HSP
namespace HSP
open PySem PySem.Spec PyProof.Rows L2
section
variable {P : Program} {w : World} {K : PySem.W.Frag} {mg : Str → Option Value} {base : Heap}
/-! ### is_tree -/
def spTree : Sp := fun vs H Q _ => ∃ (v : V) (t : Tr), vs = [v] ∧ TrAt H v t ∧ t.size ≤ 1000 ∧ ∀ H', Same H H' → Q (.bl true) H'
theorem sc_tree : FnScope n_is_tree ["thing"] (defScope s_is_tree) := ⟨rfl, rfl, rfl, by decide +kernel, rfl, by decide +kernel, by decide +kernel⟩
theorem ok_tree (B : Bl mg) (a : At K mg "is_tree" s_is_tree) : Df P w K mg base "is_tree" 1 ["thing"] spTree := by
  refine Df.mk' a sc_tree (fun vs H Q E h => ?_) (fun _ _ _ _ _ _ us hl => match us, hl with | [_], _ => rfl) (fun f cdv A outer s H vs Q E hr h => ?_)
  · obtain ⟨v, t, rfl, _⟩ := h
    rfl
  obtain ⟨v, t, rfl, ht, hz, q⟩ := h
  refine ⟨_, pss_cons (ps_set (i := 1) sc_tree.nd rfl (.inl rfl) (pe_lst (pa_cons (pv 0) pa_nil)))
    (pss_cons (ps_while PassesOwn.never (pt_truth (pv 1) (by intro _; rfl))
      (pss_cons (ps_set (i := 2) sc_tree.nd rfl (.inl rfl) (pe_bm0 PySem.F.plainAttrs_list PySem.F.slot_list_pop PySem.F.type_list_pop mt_pop (pv 1)))
      (pss_one (ps_if (pt_cmpR op_notN (pv 2) pe_non (nomark _))
        (pss_cons (ps_if (PW.pt (pw_or (pt_not (pt_val (pe_callB call_isi (by rfl) B.isinstance (by decide +kernel) (pa_cons (pv 2) (pa_cons (pe_bltn (v := .ty "tuple") (by rfl) B.tuple (by decide +kernel) rfl) pa_nil)))))
            (pw_or1 (pt_cmpR op_ne (pe_callB call_len_seq (by rfl) B.len PySem.boot_len (pa_cons (pv 2) pa_nil)) pe_int (nomark _)))))
          (pss_one (ps_ret pe_bl)) pss_nil)
        (pss_cons (ps_expr (pe_bm PySem.F.plainAttrs_list PySem.F.slot_list_append PySem.F.type_list_append mt_append (pv 1) (pa_cons (pe_ix ix_tup (pv 2) pe_int (fun _ _ => rfl)) pa_nil)))
        (pss_one (ps_expr (pe_bm PySem.F.plainAttrs_list PySem.F.slot_list_append PySem.F.type_list_append mt_append (pv 1) (pa_cons (pe_ix ix_tup (pv 2) pe_int (fun _ _ => rfl)) pa_nil)))))) pss_nil))))
    (pss_one (ps_ret pe_bl))), ?_⟩
  refine ⟨v, rfl, (by show 1 ≤ sizeLine; decide), fun l hl => ?_⟩
  have s0 : Same H (upd H l (.lst [v])) := Same.new hl
  refine ⟨fun m σ H1 => ∃ (vs : List V) (ts : List Tr) (n : Nat) (y : Option V), σ = [some v, some (.ref l), y] ∧ Same H H1 ∧ H1 l = some (.lst vs.reverse) ∧ Waits H vs ts ∧ n + sizes ts = t.size ∧ vs.length ≤ n + 1 ∧ m = turns ts,
    ⟨_, [v], [t], 0, none, rfl, s0, upd_same, .cons ht .nil, by show 0 + (t.size + 0) = t.size; omega, by show 1 ≤ 0 + 1; omega, rfl⟩, fun m σ H1 hW => ?_⟩
  obtain ⟨vs, ts, n, y, rfl, sm, el, hw, hn, hlen, rfl⟩ := hW
  refine ⟨.ref l, rfl, !vs.reverse.isEmpty, .inl ⟨_, .of el, rfl⟩, ?_⟩
  rw [rev_empty]
  cases hw with
  | nil => exact iteF (q _ sm)
  | @cons x u xs us hx hxs =>
    refine iteT ⟨fun σ' H' => ∃ m', m' < turns (u :: us) ∧ ∃ (vs : List V) (ts : List Tr) (n : Nat) (y : Option V), σ' = [some v, some (.ref l), y] ∧ Same H H' ∧ H' l = some (.lst vs.reverse) ∧ Waits H vs ts ∧ n + sizes ts = t.size ∧ vs.length ≤ n + 1 ∧ m' = turns ts,
      fun σ' H' hN => hN, ?_⟩
    refine ⟨.ref l, rfl, .inl ⟨rfl, _, .of el⟩, l, _, x, rfl, rfl, el, last_rev, ?_⟩
    rw [drop_rev]
    have sm2 : Same H (upd H1 l (.lst xs.reverse)) := fun b o e => by rw [upd_ne (ne_of_none e hl)]; exact sm b o e
    refine ⟨x, rfl, rfl, _, rfl, ?_⟩
    cases hx with
    | nil =>
      refine iteF ?_
      refine ⟨_, ?_, xs, us, n, _, rfl, sm2, upd_same, hxs, ?_, ?_, rfl⟩
      · show turns us < 2 * 0 + 1 + turns us; omega
      · have : 0 + sizes us = sizes (Tr.nil :: us) := rfl
        omega
      · rw [List.length_cons] at hlen; omega
    | @nod a x1 y1 l1 r1 ea hl1 hr1 =>
      refine iteT ?_
      have e2 : (upd H1 l (.lst xs.reverse)) a = some (.tup [x1, y1]) := sm2 _ _ ea
      refine ⟨_, rfl, _, _, _, _, true, rfl, .ty "tuple", .base (.tup e2), rfl, true, rfl, iteF ?_⟩
      refine ⟨_, rfl, a, _, rfl, .inr (.of e2), rfl, _, rfl, iteF ?_⟩
      refine ⟨_, rfl, .inl ⟨rfl, _, .of upd_same⟩, _, rfl, a, _, _, y1, rfl, rfl, .of e2, atI_nat (j := 1) rfl, l, _, _, rfl, rfl, upd_same, ?_, ?_⟩
      · rw [List.length_reverse]
        rw [List.length_cons] at hlen
        exact small1000 (by omega)
      refine ⟨_, rfl, .inl ⟨rfl, _, .of upd_same⟩, _, rfl, a, _, _, x1, rfl, rfl, .of (by rw [upd_ne (ne_of_none ea hl)]; exact e2), atI_nat (xs := [x1, y1]) (j := 0) rfl, l, _, _, rfl, rfl, upd_same, ?_, ?_⟩
      · rw [List.length_append, List.length_reverse, List.length_singleton]
        rw [List.length_cons] at hlen
        have e1 : sizes (Tr.nod l1 r1 :: us) = (l1.size + 1 + r1.size) + sizes us := rfl
        exact small1000 (by omega)
      rw [rev_push, rev_push]
      refine ⟨_, ?_, x1 :: y1 :: xs, l1 :: r1 :: us, n + 1, _, rfl, fun b o e => ?_, upd_same, .cons hl1 (.cons hr1 hxs), ?_, ?_, rfl⟩
      · show 2 * l1.size + 1 + (2 * r1.size + 1 + turns us) < 2 * (l1.size + 1 + r1.size) + 1 + turns us
        omega
      · rw [upd_ne (ne_of_none e hl), upd_ne (ne_of_none e hl)]
        exact sm2 b o e
      · have e1 : sizes (Tr.nod l1 r1 :: us) = (l1.size + 1 + r1.size) + sizes us := rfl
        show n + 1 + (l1.size + (r1.size + sizes us)) = t.size
        omega
      · rw [List.length_cons] at hlen
        show xs.length + 1 + 1 ≤ n + 1 + 1
        omega
/-! ### check_tree -/
theorem sc_chkT : FnScope n_check_tree ["tree"] (defScope s_check_tree) := ⟨rfl, rfl, rfl, by decide +kernel, rfl, by decide +kernel, by decide +kernel⟩
def spChkT : Sp := fun vs H Q _ => ∃ (v : V) (t : Tr), vs = [v] ∧ TrAt H v t ∧ t.size ≤ 1000 ∧ ∀ H', Same H H' → Q .non H'
theorem ok_chkT (T : Df P w K mg base "is_tree" 1 ["thing"] spTree) (a : At K mg "check_tree" s_check_tree) : Df P w K mg base "check_tree" 2 ["tree"] spChkT := by
  refine Df.mk' a sc_chkT (fun vs H Q E h => ?_) (fun _ _ _ _ _ _ us hl => match us, hl with | [_], _ => rfl) (fun f cdv A outer s H vs Q E hr h => ?_)
  · obtain ⟨v, t, rfl, _⟩ := h
    rfl
  obtain ⟨v, t, rfl, ht, hz, q⟩ := h
  refine ⟨_, pss_one (ps_if (pt_not (pt_val (pe_df T hr (pa_cons (pv 0) pa_nil)))) (pss_one ps_never) pss_nil), ?_⟩
  refine ⟨v, rfl, v, t, rfl, ht, hz, fun H' sm => ⟨true, rfl, iteF ?_⟩⟩
  exact q H' sm
end
end HSP
namespace HSP
open PySem PySem.Spec PyProof.Rows L2
/-! ## max(.., default=None), min(.., default=None) of ints -/
theorem maxOf_spec : ∀ (ys : List Int) (y : Int), (PySem.W.maxOf y ys) ∈ y :: ys ∧ ∀ z, z ∈ y :: ys → z ≤ PySem.W.maxOf y ys
  | [], y => ⟨List.mem_cons_self, fun z hz => by rw [List.mem_singleton.mp hz]; exact Int.le_refl y⟩
  | x :: r, y => by
    have e : PySem.W.maxOf y (x :: r) = PySem.W.maxOf (if y < x then x else y) r := by
      unfold PySem.W.maxOf
      rw [List.foldl_cons]
      show List.foldl _ (if decide (y < x) = true then x else y) r = _
      by_cases c : y < x
      · rw [if_pos c, if_pos (decide_eq_true c)]
      · rw [if_neg c, if_neg (fun z => c (of_decide_eq_true z))]
    rw [e]
    obtain ⟨h1, h2⟩ := maxOf_spec r (if y < x then x else y)
    generalize PySem.W.maxOf (if y < x then x else y) r = M at h1 h2 ⊢
    constructor
    · rcases List.mem_cons.mp h1 with z | z
      · rw [z]
        split
        · exact List.mem_cons_of_mem _ List.mem_cons_self
        · exact List.mem_cons_self
      · exact List.mem_cons_of_mem _ (List.mem_cons_of_mem _ z)
    · intro z hz
      have h3 := h2 (if y < x then x else y) List.mem_cons_self
      rcases List.mem_cons.mp hz with q | q
      · rw [q]
        split at h3 <;> omega
      · rcases List.mem_cons.mp q with q | q
        · rw [q]
          split at h3 <;> omega
        · exact h2 z (List.mem_cons_of_mem _ q)
theorem minOf_spec : ∀ (ys : List Int) (y : Int), (PySem.W.minOf y ys) ∈ y :: ys ∧ ∀ z, z ∈ y :: ys → PySem.W.minOf y ys ≤ z
  | [], y => ⟨List.mem_cons_self, fun z hz => by rw [List.mem_singleton.mp hz]; exact Int.le_refl y⟩
  | x :: r, y => by
    have e : PySem.W.minOf y (x :: r) = PySem.W.minOf (if x < y then x else y) r := by
      unfold PySem.W.minOf
      rw [List.foldl_cons]
      show List.foldl _ (if decide (x < y) = true then x else y) r = _
      by_cases c : x < y
      · rw [if_pos c, if_pos (decide_eq_true c)]
      · rw [if_neg c, if_neg (fun z => c (of_decide_eq_true z))]
    rw [e]
    obtain ⟨h1, h2⟩ := minOf_spec r (if x < y then x else y)
    generalize PySem.W.minOf (if x < y then x else y) r = M at h1 h2 ⊢
    constructor
    · rcases List.mem_cons.mp h1 with z | z
      · rw [z]
        split
        · exact List.mem_cons_of_mem _ List.mem_cons_self
        · exact List.mem_cons_self
      · exact List.mem_cons_of_mem _ (List.mem_cons_of_mem _ z)
    · intro z hz
      have h3 := h2 (if x < y then x else y) List.mem_cons_self
      rcases List.mem_cons.mp hz with q | q
      · rw [q]
        split at h3 <;> omega
      · rcases List.mem_cons.mp q with q | q
        · rw [q]
          split at h3 <;> omega
        · exact h2 z (List.mem_cons_of_mem _ q)
theorem holds_is {h : Heap} {v : Value} {i : Int} (q : PySem.W.Holds h v i) : ∃ t, v = .int i t := by
  obtain ⟨as, r⟩ := q
  cases r with
  | int _ t => exact ⟨t, rfl⟩
section
variable {X : Cx}
def rMaxN : List V → List V → Hp → VK → Prop := fun vs zs H Q => ∃ (a : Addr) (ns : List Int), vs = [V.ref a] ∧ zs = [V.non] ∧ H a = some (.lst (ns.map V.int)) ∧ (ns = [] → Q .non H) ∧ ∀ m, m ∈ ns → (∀ y, y ∈ ns → y ≤ m) → Q (.int m) H
def rMinN : List V → List V → Hp → VK → Prop := fun vs zs H Q => ∃ (a : Addr) (ns : List Int), vs = [V.ref a] ∧ zs = [V.non] ∧ H a = some (.lst (ns.map V.int)) ∧ (ns = [] → Q .non H) ∧ ∀ m, m ∈ ns → (∀ y, y ∈ ns → m ≤ y) → Q (.int m) H
theorem crk_maxN (hc : X.calm = true) (hu : X.A.units + 64 < cLine) : CallRK X (.builtin "max") ["default"] rMaxN := by
  intro pins s σ H xs zs us ws Q I r rz h
  obtain ⟨a, ns, rfl, rfl, ha, q0, q1⟩ := h
  rw [Vals.ref1 r]
  obtain ⟨z, its, n, rv, e⟩ : ObjOk X.prog X.w H s.heap a (.lst (ns.map V.int)) := I.hok a _ ha
  cases rz with
  | cons r1 t1 =>
    cases t1
    cases (show _ = Value.none from r1)
    refine PySem.W.max_list_datum_default (I.ok.hd hc) (show s.heap.IsList a its.toArray from ⟨_, e, rfl, n, rfl⟩) (PySem.W.HoldAll.of_ints (ints_of_vals rv)) (by show X.A.units + 1 + 0 < cLine; omega) (fun e0 h' tk kp => ?_) (fun y ys i v h' tk ey _ hv kp => ?_)
    · exact ⟨.non, H, I.kept kp, rfl, q0 e0⟩
    · obtain ⟨t, rfl⟩ := holds_is hv
      obtain ⟨m1, m2⟩ := maxOf_spec ys y
      exact ⟨.int _, H, I.kept kp, ⟨t, rfl⟩, q1 _ (by rw [ey]; exact m1) (by rw [ey]; exact m2)⟩
theorem crk_minN (hc : X.calm = true) (hu : X.A.units + 64 < cLine) : CallRK X (.builtin "min") ["default"] rMinN := by
  intro pins s σ H xs zs us ws Q I r rz h
  obtain ⟨a, ns, rfl, rfl, ha, q0, q1⟩ := h
  rw [Vals.ref1 r]
  obtain ⟨z, its, n, rv, e⟩ : ObjOk X.prog X.w H s.heap a (.lst (ns.map V.int)) := I.hok a _ ha
  cases rz with
  | cons r1 t1 =>
    cases t1
    cases (show _ = Value.none from r1)
    refine PySem.W.min_list_datum_default (I.ok.hd hc) (show s.heap.IsList a its.toArray from ⟨_, e, rfl, n, rfl⟩) (PySem.W.HoldAll.of_ints (ints_of_vals rv)) (by show X.A.units + 1 + 0 < cLine; omega) (fun e0 h' tk kp => ?_) (fun y ys i v h' tk ey _ hv kp => ?_)
    · exact ⟨.non, H, I.kept kp, rfl, q0 e0⟩
    · obtain ⟨t, rfl⟩ := holds_is hv
      obtain ⟨m1, m2⟩ := minOf_spec ys y
      exact ⟨.int _, H, I.kept kp, ⟨t, rfl⟩, q1 _ (by rw [ey]; exact m1) (by rw [ey]; exact m2)⟩
end
end HSP
namespace HSP
open PySem PySem.Spec PyProof.Rows L2
/-! ## heaps: all but some places stay -/
def Stay (X : List Addr) (H H' : Hp) : Prop := ∀ b o, b ∉ X → H b = some o → H' b = some o
theorem Stay.refl (X : List Addr) (H : Hp) : Stay X H H := fun _ _ _ e => e
theorem Stay.trans {X : List Addr} {H H1 H2 : Hp} (a : Stay X H H1) (b : Stay X H1 H2) : Stay X H H2 := fun c o n e => b c o n (a c o n e)
theorem Stay.of {X : List Addr} {H H' : Hp} (s : Same H H') : Stay X H H' := fun b o _ e => s b o e
theorem Stay.new {X : List Addr} {H : Hp} {p : Addr} {o : HO} (h : H p = none) : Stay X H (upd H p o) := fun b u _ e => by
  rw [upd_ne (ne_of_none e h)]; exact e
theorem Stay.at {X : List Addr} {H : Hp} {p : Addr} {o : HO} (h : p ∈ X) : Stay X H (upd H p o) := fun b u n e => by
  rw [upd_ne (fun z : b = p => n (by rw [z]; exact h))]; exact e
theorem Stay.mono {X Y : List Addr} {H H' : Hp} (a : Stay X H H') (h : ∀ x, x ∈ X → x ∈ Y) : Stay Y H H' := fun b o n e => a b o (fun z => n (h b z)) e
theorem Stay.then {X : List Addr} {H H1 H2 : Hp} (a : Stay X H H1) (b : Same H1 H2) : Stay X H H2 := a.trans (.of b)
theorem Stay.anew {X : List Addr} {H H1 : Hp} {p : Addr} {o : HO} (a : Stay X H H1) (h : H1 p = none) : Stay X H (upd H1 p o) := a.trans (.new h)
theorem Stay.put {X : List Addr} {H H1 : Hp} {p : Addr} {o : HO} (a : Stay X H H1) (h : p ∈ X) : Stay X H (upd H1 p o) := a.trans (.at h)
theorem Stay.free {X : List Addr} {H H' : Hp} {b : Addr} (a : Stay X H H') (n : b ∉ X) (h : H' b = none) : H b = none := by
  cases e : H b with
  | none => rfl
  | some o => cases h.symm.trans (a b o n e)
/-- what was not tracked at first may be written -/
theorem Stay.same {X : List Addr} {H H1 H' : Hp} (s : Same H H1) (n : ∀ x, x ∈ X → H x = none) (k : Stay X H1 H') : Same H H' := fun b o e => k b o (fun z => by rw [n b z] at e; cases e) (s b o e)
theorem no2 {a b c : Addr} (h1 : a ≠ b) (h2 : a ≠ c) : a ∉ [b, c] := fun z => by
  rcases List.mem_cons.mp z with q | q
  · exact h1 q
  · exact h2 (List.mem_singleton.mp q)
theorem no1 {a b : Addr} (h1 : a ≠ b) : a ∉ [b] := fun z => h1 (List.mem_singleton.mp z)
theorem in2l {a b : Addr} : a ∈ [a, b] := List.mem_cons_self
theorem in2r {a b : Addr} : b ∈ [a, b] := List.mem_cons_of_mem _ List.mem_cons_self
theorem in1 {a : Addr} : a ∈ [a] := List.mem_cons_self
theorem tup_ne {H : Hp} {a b : Addr} {xs ys : List V} (h : H a = some (.tup xs)) (h2 : H b = some (.lst ys)) : a ≠ b := fun z => by
  rw [z, h2] at h; cases h
theorem TrAt.stay {X : List Addr} {H H' : Hp} {v : V} {t : Tr} (h : TrAt H v t) (k : Stay X H H') (n : ∀ x, x ∈ X → ∃ ys, H x = some (.lst ys)) : TrAt H' v t :=
  h.keep fun a x y e => k a _ (fun z => by
    obtain ⟨ys, q⟩ := n a z
    rw [q] at e
    cases e) e
theorem valAt_mem {ns : List Int} {i : Nat} (h : i < ns.length) : valAt ns i ∈ ns := by
  have e : valAt ns i = ns[i] := by
    unfold valAt
    rw [List.getD_eq_getElem?_getD, List.getElem?_eq_getElem h]
    rfl
  rw [e]
  exact List.getElem_mem h
theorem TrAt.put {H : Hp} {v : V} {t : Tr} {a : Addr} {xs : List V} {o : HO} (h : TrAt H v t) (e : H a = some (.lst xs)) : TrAt (upd H a o) v t := by
  refine h.keep fun b x y eb => ?_
  rw [upd_ne]
  · exact eb
  · intro z
    rw [z, e] at eb
    cases eb
theorem Keep.free {p q : Addr} {H H' : Hp} (k : Keep p H H') (n : q ≠ p) (h : H' q = none) : H q = none := by
  cases e : H q with
  | none => rfl
  | some o => cases h.symm.trans (k q o n e)
theorem Paired.getL {α β : Type} {R : α → β → Prop} : ∀ {l : List α} {m : List β} {i : Nat} {x : α}, Paired R l m → l[i]? = some x → ∃ y, m[i]? = some y ∧ R x y
  | _, _, i, _, .nil, e => by simp at e
  | _, _, 0, _, .cons h _, e => by
    cases Option.some.inj (show some _ = some _ from e)
    exact ⟨_, rfl, h⟩
  | _, _, i + 1, _, .cons _ t, e => Paired.getL (i := i) t e
end HSP
namespace HSP
open PySem PySem.Spec PyProof.Rows L2
/-! ### the paths of the nodes -/
/-- the ancestors of the node i, from the root down, and whether it lies right of them -/
def pOf : Tr → Nat → Nat → List (Nat × Bool)
  | .nil, _, _ => []
  | .nod l r, f, i => if i = f + l.size then [] else if i < f + l.size then (f + l.size, false) :: pOf l f i else (f + l.size, true) :: pOf r (f + l.size + 1) i
def sideV (b : Bool) : V := if b = true then .str "right" else .str "left"
/-- a path stands at r -/
def PathAt (H : Hp) (r : Addr) (p : List (Nat × Bool)) : Prop := ∃ tups : List Addr, H r = some (.lst (tups.map V.ref)) ∧ Paired (fun a (z : Nat × Bool) => H a = some (.tup [natV z.1, sideV z.2])) tups p
theorem PathAt.same {H H' : Hp} {r : Addr} {p : List (Nat × Bool)} (h : PathAt H r p) (s : Same H H') : PathAt H' r p := by
  obtain ⟨t, e, q⟩ := h
  exact ⟨t, s _ _ e, Paired.mapP q fun a z h => s _ _ h⟩
theorem PathAt.put {H : Hp} {r x : Addr} {p : List (Nat × Bool)} {xs ys : List V} (h : PathAt H r p) (n : r ≠ x) (hx : H x = some (.lst xs)) : PathAt (upd H x (.lst ys)) r p := by
  obtain ⟨t, e, q⟩ := h
  refine ⟨t, by rw [upd_ne n]; exact e, Paired.mapP q fun a z h => ?_⟩
  rw [upd_ne (fun e2 => by rw [e2, hx] at h; cases h)]
  exact h
theorem PathAt.stay {X : List Addr} {H H' : Hp} {r : Addr} {p : List (Nat × Bool)} (h : PathAt H r p) (k : Stay X H H') (n : r ∉ X) (hX : ∀ x, x ∈ X → ∃ ys, H x = some (.lst ys)) : PathAt H' r p := by
  obtain ⟨t, e, q⟩ := h
  refine ⟨t, k _ _ n e, Paired.mapP q fun a z h => k _ _ (fun m => ?_) h⟩
  obtain ⟨ys, e2⟩ := hX a m
  rw [e2] at h
  cases h
theorem PathAt.len {H : Hp} {r : Addr} {p : List (Nat × Bool)} {ts : List Addr} (h : Paired (fun a (z : Nat × Bool) => H a = some (.tup [natV z.1, sideV z.2])) ts p) : ts.length = p.length := Paired.length h
/-- all paths stand in the list at q, each one in a list of its own -/
def WaysAt (H : Hp) (q : Addr) (t : Tr) : Prop := ∃ rows : List Addr, H q = some (.lst (rows.map V.ref)) ∧ rows.length = t.size ∧ ∀ i r, rows[i]? = some r → PathAt H r (pOf t 0 i)
theorem pOf_len : ∀ (t : Tr) (f i : Nat), (pOf t f i).length ≤ t.size
  | .nil, _, _ => Nat.le_refl _
  | .nod l r, f, i => by
    have h1 := pOf_len l f i
    have h2 := pOf_len r (f + l.size + 1) i
    unfold pOf
    show _ ≤ l.size + 1 + r.size
    split
    · exact Nat.zero_le _
    · split <;> (rw [List.length_cons]; omega)
theorem pOf_in : ∀ (t : Tr) (f i : Nat) (z : Nat × Bool), z ∈ pOf t f i → f ≤ z.1 ∧ z.1 < f + t.size
  | .nil, _, _, _, h => by cases h
  | .nod l r, f, i, z, h => by
    have e : pOf (.nod l r) f i = if i = f + l.size then [] else if i < f + l.size then (f + l.size, false) :: pOf l f i else (f + l.size, true) :: pOf r (f + l.size + 1) i := rfl
    have sz : (Tr.nod l r).size = l.size + 1 + r.size := rfl
    rw [e] at h
    rw [sz]
    split at h
    · cases h
    · split at h
      · rcases List.mem_cons.mp h with q | q
        · rw [q]
          exact ⟨(by show f ≤ f + l.size; omega), (by show f + l.size < f + (l.size + 1 + r.size); omega)⟩
        · have := pOf_in l f i z q
          omega
      · rcases List.mem_cons.mp h with q | q
        · rw [q]
          exact ⟨(by show f ≤ f + l.size; omega), (by show f + l.size < f + (l.size + 1 + r.size); omega)⟩
        · have := pOf_in r (f + l.size + 1) i z q
          omega
theorem pOf_in0 (t : Tr) (i : Nat) (z : Nat × Bool) (h : z ∈ pOf t 0 i) : z.1 < t.size := by
  have := pOf_in t 0 i z h
  omega
/-- the nodes, the root first, then those of the left part, then those of the right part, each with its path -/
def pre : Tr → Nat → List (Nat × Bool) → List (Nat × List (Nat × Bool))
  | .nil, _, _ => []
  | .nod l r, f, p => (f + l.size, p) :: (pre l f (p ++ [(f + l.size, false)]) ++ pre r (f + l.size + 1) (p ++ [(f + l.size, true)]))
theorem pre_len : ∀ (t : Tr) (f : Nat) (p : List (Nat × Bool)), (pre t f p).length = t.size
  | .nil, _, _ => rfl
  | .nod l r, f, p => by
    show ((f + l.size, p) :: (pre l f (p ++ [(f + l.size, false)]) ++ pre r (f + l.size + 1) (p ++ [(f + l.size, true)]))).length = l.size + 1 + r.size
    rw [List.length_cons, List.length_append, pre_len l, pre_len r]
    omega
theorem pOf_nod (l r : Tr) (f i : Nat) : pOf (.nod l r) f i = if i = f + l.size then [] else if i < f + l.size then (f + l.size, false) :: pOf l f i else (f + l.size, true) :: pOf r (f + l.size + 1) i := rfl
theorem pre_nod (l r : Tr) (f : Nat) (p : List (Nat × Bool)) : pre (.nod l r) f p = (f + l.size, p) :: (pre l f (p ++ [(f + l.size, false)]) ++ pre r (f + l.size + 1) (p ++ [(f + l.size, true)])) := rfl
theorem size_nod (l r : Tr) : (Tr.nod l r).size = l.size + 1 + r.size := rfl
theorem pre_in : ∀ (t : Tr) (f : Nat) (p : List (Nat × Bool)) (n : Nat) (s : List (Nat × Bool)), (n, s) ∈ pre t f p → f ≤ n ∧ n < f + t.size ∧ s = p ++ pOf t f n
  | .nil, _, _, _, _, h => by cases h
  | .nod l r, f, p, n, s, h => by
    rw [pre_nod] at h
    rw [size_nod, pOf_nod]
    rcases List.mem_cons.mp h with z | z
    · obtain ⟨rfl, rfl⟩ := Prod.mk.inj z
      refine ⟨by omega, by omega, ?_⟩
      rw [if_pos rfl, List.append_nil]
    · rcases List.mem_append.mp z with z | z
      · obtain ⟨h1, h2, h3⟩ := pre_in l f _ n s z
        refine ⟨h1, by omega, ?_⟩
        rw [if_neg (by omega), if_pos (by omega), h3, List.append_assoc]
        rfl
      · obtain ⟨h1, h2, h3⟩ := pre_in r (f + l.size + 1) _ n s z
        refine ⟨by omega, by omega, ?_⟩
        rw [if_neg (by omega), if_neg (by omega), h3, List.append_assoc]
        rfl
theorem pre_mem : ∀ (t : Tr) (f : Nat) (p : List (Nat × Bool)) (n : Nat), f ≤ n → n < f + t.size → (n, p ++ pOf t f n) ∈ pre t f p
  | .nil, f, _, n, h1, h2 => by
    have : n < f + 0 := h2
    omega
  | .nod l r, f, p, n, h1, h2 => by
    rw [size_nod] at h2
    rw [pre_nod, pOf_nod]
    by_cases c : n = f + l.size
    · rw [if_pos c, List.append_nil, c]
      exact List.mem_cons_self
    · rw [if_neg c]
      refine List.mem_cons_of_mem _ ?_
      by_cases d : n < f + l.size
      · rw [if_pos d]
        have h := pre_mem l f (p ++ [(f + l.size, false)]) n h1 d
        rw [List.append_assoc] at h
        exact List.mem_append.mpr (.inl h)
      · rw [if_neg d]
        have h := pre_mem r (f + l.size + 1) (p ++ [(f + l.size, true)]) n (by omega) (by omega)
        rw [List.append_assoc] at h
        exact List.mem_append.mpr (.inr h)
/-- a row: a node with its path -/
def RowAt (H : Hp) (R : Addr) (z : Nat × List (Nat × Bool)) : Prop := ∃ b, H R = some (.tup [natV z.1, .ref b]) ∧ PathAt H b z.2
theorem RowAt.same {H H' : Hp} {R : Addr} {z : Nat × List (Nat × Bool)} (h : RowAt H R z) (s : Same H H') : RowAt H' R z := by
  obtain ⟨b, e, q⟩ := h
  exact ⟨b, s _ _ e, q.same s⟩
/-- what waits: a tree, its first node, the path to it -/
structure Wt where
  v : V
  u : Tr
  f : Nat
  b : Addr
  p : List (Nat × Bool)
def WtOk (H0 H : Hp) (X : List Addr) (T : Addr) (x : Wt) : Prop := H T = some (.tup [x.v, natV x.f, .ref x.b]) ∧ TrAt H0 x.v x.u ∧ PathAt H x.b x.p ∧ x.b ∉ X ∧ H0 x.b = none
theorem WtOk.stay {H0 H H' : Hp} {X : List Addr} {T : Addr} {x : Wt} (h : WtOk H0 H X T x) (s : Stay X H H') (hX : ∀ x, x ∈ X → ∃ ys, H x = some (.lst ys)) : WtOk H0 H' X T x := by
  obtain ⟨h1, h2, h3, h4, h5⟩ := h
  refine ⟨s _ _ (fun m => ?_) h1, h2, h3.stay s h4 hX, h4, h5⟩
  obtain ⟨ys, e⟩ := hX T m
  rw [e] at h1
  cases h1
def RowOk (H0 H : Hp) (X : List Addr) (R : Addr) (z : Nat × List (Nat × Bool)) : Prop := ∃ b, H R = some (.tup [natV z.1, .ref b]) ∧ PathAt H b z.2 ∧ b ∉ X ∧ H0 b = none
theorem RowOk.stay {H0 H H' : Hp} {X : List Addr} {R : Addr} {z : Nat × List (Nat × Bool)} (h : RowOk H0 H X R z) (s : Stay X H H') (hX : ∀ x, x ∈ X → ∃ ys, H x = some (.lst ys)) : RowOk H0 H' X R z := by
  obtain ⟨b, h1, h2, h3, h4⟩ := h
  refine ⟨b, s _ _ (fun m => ?_) h1, h2.stay s h3 hX, h3, h4⟩
  obtain ⟨ys, e⟩ := hX R m
  rw [e] at h1
  cases h1
def wtTurns : List Wt → Nat
  | [] => 0
  | x :: r => 2 * x.u.size + 1 + wtTurns r
def wtSizes : List Wt → Nat
  | [] => 0
  | x :: r => x.u.size + wtSizes r
def wtPre : List Wt → List (Nat × List (Nat × Bool))
  | [] => []
  | x :: r => pre x.u x.f x.p ++ wtPre r
/-- a path with one step more, laid anew -/
theorem path_more {H : Hp} {t1 l1 a1 : Addr} {p : List (Nat × Bool)} {z : Nat × Bool} {tups : List Addr} {x y : V} (hx : x = natV z.1) (hy : y = sideV z.2) (hp : Paired (fun a (z : Nat × Bool) => H a = some (.tup [natV z.1, sideV z.2])) tups p) (h1 : H t1 = none) (h2 : upd H t1 (.tup [x, y]) l1 = none)
    (h3 : upd (upd H t1 (.tup [x, y])) l1 (.lst [V.ref t1]) a1 = none) : PathAt (upd (upd (upd H t1 (.tup [x, y])) l1 (.lst [V.ref t1])) a1 (.lst (tups.map V.ref ++ [V.ref t1]))) a1 (p ++ [z]) := by
  subst hx hy
  have s1 := Same.new (o := .tup [natV z.1, sideV z.2]) h1
  have s2 := Same.new (o := .lst [V.ref t1]) h2
  have s3 := Same.new (o := .lst (tups.map V.ref ++ [V.ref t1])) h3
  refine ⟨tups ++ [t1], ?_, Paired.app (Paired.mapP hp fun a z h => s3 _ _ (s2 _ _ (s1 _ _ h))) (.cons (s3 _ _ (s2 _ _ upd_same)) .nil)⟩
  rw [upd_same, List.map_append]
  rfl
section
variable {P : Program} {w : World} {K : PySem.W.Frag} {mg : Str → Option Value} {base : Heap}
theorem sc_walk : FnScope n_walk ["tree"] (defScope s_walk) := ⟨rfl, rfl, rfl, by decide +kernel, rfl, by decide +kernel, by decide +kernel⟩
def spWalk : Sp := fun vs H Q _ => ∃ (v : V) (t : Tr), vs = [v] ∧ TrAt H v t ∧ t.size ≤ 300 ∧ ∀ (H' : Hp) (q : Addr) (rows : List Addr), Same H H' → H q = none → H' q = some (.lst (rows.map V.ref)) → Paired (fun R z => ∃ b, H' R = some (.tup [natV z.1, .ref b]) ∧ PathAt H' b z.2 ∧ b ≠ q ∧ H b = none) rows (pre t 0 []) → Q (.ref q) H'
theorem ok_walk (C : Df P w K mg base "count_nodes" 1 ["tree"] spCount) (a : At K mg "walk" s_walk) : Df P w K mg base "walk" 2 ["tree"] spWalk := by
  refine Df.mk' a sc_walk (fun vs H Q E h => ?_) (fun _ _ _ _ _ _ us hl => match us, hl with | [_], _ => rfl) (fun f cdv A outer s H vs Q E hr h => ?_)
  · obtain ⟨v, t, rfl, _⟩ := h
    rfl
  obtain ⟨v, t, rfl, ht, hz, q⟩ := h
  refine ⟨_, (pss_cons (ps_set (i := 1) sc_walk.nd rfl (.inl rfl) (pe_lst pa_nil))
 (pss_cons (ps_set (i := 2) sc_walk.nd rfl (.inl rfl) (pe_lst (pa_cons (pe_tup (pa_cons (pv 0) (pa_cons pe_int (pa_cons (pe_lst pa_nil) pa_nil)))) pa_nil)))
 (pss_cons (ps_while PassesOwn.never (pt_truth (pv 2) (by intro _; rfl)) (pss_cons (ps_asg (pe_bm0 PySem.F.plainAttrs_list PySem.F.slot_list_pop PySem.F.type_list_pop mt_pop (pv 2)) (pg_tup rfl (pgs_cons (pg_name (i := 3) sc_walk.nd rfl (.inl rfl)) (pgs_cons (pg_name (i := 4) sc_walk.nd rfl (.inl rfl)) (pgs_cons (pg_name (i := 5) sc_walk.nd rfl (.inl rfl)) pgs_nil)))))
 (pss_one (ps_if (pt_cmpR op_notN (pv 3) pe_non (nomark _)) (pss_cons (ps_asg (pv 3) (pg_tup rfl (pgs_cons (pg_name (i := 6) sc_walk.nd rfl (.inl rfl)) (pgs_cons (pg_name (i := 7) sc_walk.nd rfl (.inl rfl)) pgs_nil))))
 (pss_cons (ps_set (i := 8) sc_walk.nd rfl (.inl rfl) (pe_op op_add (pv 4) (pe_df C hr (pa_cons (pv 6) pa_nil))))
 (pss_cons (ps_expr (pe_bm PySem.F.plainAttrs_list PySem.F.slot_list_append PySem.F.type_list_append mt_append (pv 1) (pa_cons (pe_tup (pa_cons (pv 8) (pa_cons (pv 5) pa_nil))) pa_nil)))
 (pss_cons (ps_expr (pe_bm PySem.F.plainAttrs_list PySem.F.slot_list_append PySem.F.type_list_append mt_append (pv 2) (pa_cons (pe_tup (pa_cons (pv 7) (pa_cons (pe_op op_add (pv 8) pe_int) (pa_cons (pe_op op_cat (pv 5) (pe_lst (pa_cons (pe_tup (pa_cons (pv 8) (pa_cons pe_str pa_nil))) pa_nil))) pa_nil)))) pa_nil)))
 (pss_one (ps_expr (pe_bm PySem.F.plainAttrs_list PySem.F.slot_list_append PySem.F.type_list_append mt_append (pv 2) (pa_cons (pe_tup (pa_cons (pv 6) (pa_cons (pv 4) (pa_cons (pe_op op_cat (pv 5) (pe_lst (pa_cons (pe_tup (pa_cons (pv 8) (pa_cons pe_str pa_nil))) pa_nil))) pa_nil)))) pa_nil)))))))) pss_nil))))
 (pss_one (ps_ret (pv 1)))))), ?_⟩
  refine ⟨Nat.zero_le _, fun q0 hq => ?_⟩
  refine ⟨v, rfl, Nat.zero_le _, fun ab hab => ⟨(by show 3 ≤ sizeLine; decide), fun T0 hT0 => ⟨(by show 1 ≤ sizeLine; decide), fun wl hwl => ?_⟩⟩⟩
  have t0 : Same H (upd H q0 (.lst [])) := Same.new hq
  have t1 := Same.new (o := .lst []) hab
  have t2 := Same.new (o := .tup [v, V.int 0, .ref ab]) hT0
  have t3 := Same.new (o := .lst [V.ref T0]) hwl
  have s3 := t0.trans (t1.trans (t2.trans t3))
  have hw : H wl = none := t0.free (t1.free (t2.free hwl))
  have eq3 := t3 _ _ (t2 _ _ (t1 _ _ (upd_same (H := H) (a := q0) (o := .lst []))))
  have nqw : q0 ≠ wl := ne_of_none (t2 _ _ (t1 _ _ upd_same)) hwl
  have nabw : ab ≠ wl := ne_of_none (t2 _ _ upd_same) hwl
  have nabq : ab ≠ q0 := (ne_of_none upd_same hab).symm
  have w0 : WtOk H (upd (upd (upd (upd H q0 (.lst [])) ab (.lst [])) T0 (.tup [v, V.int 0, .ref ab])) wl (.lst [V.ref T0])) [wl, q0] T0 ⟨v, t, 0, ab, []⟩ := ⟨t3 _ _ upd_same, ht, ⟨[], t3 _ _ (t2 _ _ upd_same), .nil⟩, no2 nabw nabq, t0.free hab⟩
  refine ⟨fun m σ H' => ∃ (ts : List Addr) (ws : List Wt) (rows : List Addr) (dn : List (Nat × List (Nat × Bool))) (y3 y4 y5 y6 y7 y8 : Option V), σ = [some v, some (.ref q0), some (.ref wl), y3, y4, y5, y6, y7, y8] ∧ Same H H' ∧ H' wl = some (.lst (ts.map V.ref).reverse) ∧ Paired (WtOk H H' [wl, q0]) ts ws ∧ H' q0 = some (.lst (rows.map V.ref)) ∧ Paired (RowOk H H' [wl, q0]) rows dn ∧
      pre t 0 [] = dn ++ wtPre ws ∧ (∀ x, x ∈ ws → x.p.length + x.u.size ≤ t.size) ∧ dn.length + wtSizes ws ≤ t.size ∧ ts.length + wtSizes ws ≤ t.size + 1 ∧ m = wtTurns ws,
    ⟨_, [T0], [⟨v, t, 0, ab, []⟩], [], [], _, _, _, _, _, _, rfl, s3, upd_same, .cons w0 .nil, eq3, .nil, ?_, fun x hx => ?_, ?_, ?_, rfl⟩, fun m σ H3 hW => ?_⟩
  · show pre t 0 [] = [] ++ (pre t 0 [] ++ [])
    rw [List.nil_append, List.append_nil]
  · rw [List.mem_singleton.mp hx]
    show 0 + t.size ≤ t.size
    omega
  · show 0 + (t.size + 0) ≤ t.size; omega
  · show 1 + (t.size + 0) ≤ t.size + 1; omega
  obtain ⟨ts, ws, rows, dn, y3, y4, y5, y6, y7, y8, rfl, s4, ew, pw, eq, pd, hpre, hin, hsz, hcnt, rfl⟩ := hW
  have hX : ∀ x, x ∈ [wl, q0] → ∃ ys, H3 x = some (.lst ys) := fun x hx => by
    rcases List.mem_cons.mp hx with z | z
    · exact ⟨_, z ▸ ew⟩
    · exact ⟨_, (List.mem_singleton.mp z) ▸ eq⟩
  refine ⟨.ref wl, rfl, !(ts.map V.ref).reverse.isEmpty, .inl ⟨_, .of ew, rfl⟩, ?_⟩
  rw [rev_empty]
  cases pw with
  | nil =>
    refine iteF ?_
    refine ⟨_, rfl, q H3 q0 rows s4 hq eq ?_⟩
    rw [hpre]
    show Paired _ rows (dn ++ [])
    rw [List.append_nil]
    exact Paired.mapP pd fun R z ⟨b, h1, h2, h3, h4⟩ => ⟨b, h1, h2, fun e => h3 (e ▸ in2r), h4⟩
  | @cons T x ts2 ws2 hx hxs =>
    obtain ⟨xv, xu, xf, xb, xp⟩ := x
    refine iteT ⟨fun σ' H' => ∃ m', m' < wtTurns (⟨xv, xu, xf, xb, xp⟩ :: ws2) ∧ ∃ (ts : List Addr) (ws : List Wt) (rows : List Addr) (dn : List (Nat × List (Nat × Bool))) (y3 y4 y5 y6 y7 y8 : Option V), σ' = [some v, some (.ref q0), some (.ref wl), y3, y4, y5, y6, y7, y8] ∧ Same H H' ∧ H' wl = some (.lst (ts.map V.ref).reverse) ∧ Paired (WtOk H H' [wl, q0]) ts ws ∧ H' q0 = some (.lst (rows.map V.ref)) ∧ Paired (RowOk H H' [wl, q0]) rows dn ∧
      pre t 0 [] = dn ++ wtPre ws ∧ (∀ x, x ∈ ws → x.p.length + x.u.size ≤ t.size) ∧ dn.length + wtSizes ws ≤ t.size ∧ ts.length + wtSizes ws ≤ t.size + 1 ∧ m' = wtTurns ws, fun σ' H' hN => hN, ?_⟩
    obtain ⟨eT, hxt, hpa', nb', fb'⟩ := hx
    have hpa : PathAt H3 xb xp := hpa'
    have nb : xb ∉ [wl, q0] := nb'
    have fb : H xb = none := fb'
    clear hpa' nb' fb'
    have nTw : T ≠ wl := tup_ne eT ew
    refine ⟨.ref wl, rfl, .inl ⟨rfl, _, .of ew⟩, wl, _, .ref T, rfl, rfl, ew, last_rev, ?_⟩
    rw [List.map_cons, drop_rev]
    have k5 : Stay [wl, q0] H3 (upd H3 wl (.lst (ts2.map V.ref).reverse)) := .at in2l
    have eT4 : (upd H3 wl (.lst (ts2.map V.ref).reverse)) T = some (.tup [xv, natV xf, .ref xb]) := by rw [upd_ne nTw]; exact eT
    refine ⟨T, _, rfl, .of eT4, rfl, _, _, rfl, _, _, rfl, _, [], rfl, rfl, ?_⟩
    have ew5 : (upd H3 wl (.lst (ts2.map V.ref).reverse)) wl = some (.lst (ts2.map V.ref).reverse) := upd_same
    have eq5 : (upd H3 wl (.lst (ts2.map V.ref).reverse)) q0 = some (.lst (rows.map V.ref)) := by rw [upd_ne nqw]; exact eq
    generalize upd H3 wl (.lst (ts2.map V.ref).reverse) = H5 at eT4 k5 ew5 eq5 ⊢
    have fr : ∀ x, x ∈ [wl, q0] → H x = none := fun x hx => by
      rcases List.mem_cons.mp hx with z | z
      · exact z ▸ hw
      · exact (List.mem_singleton.mp z) ▸ hq
    refine ⟨_, rfl, rfl, _, rfl, ?_⟩
    rw [List.length_cons] at hcnt
    have hin2 := fun x hx => hin x (List.mem_cons_of_mem _ hx)
    have hin1 : xp.length + xu.size ≤ t.size := hin ⟨xv, xu, xf, xb, xp⟩ List.mem_cons_self
    cases hxt with
    | nil =>
      refine iteF ?_
      have z1 : wtSizes (⟨.non, .nil, xf, xb, xp⟩ :: ws2) = 0 + wtSizes ws2 := rfl
      refine ⟨wtTurns ws2, by show wtTurns ws2 < 2 * 0 + 1 + wtTurns ws2; omega, ts2, ws2, rows, dn, _, _, _, _, _, _, rfl, k5.same s4 fr, ew5, Paired.mapP hxs fun a z h => h.stay k5 hX, eq5, Paired.mapP pd fun a z h => h.stay k5 hX, hpre, hin2, by omega, by omega, rfl⟩
    | @nod b x1 x2 l r eb hl hr2 =>
      refine iteT ?_
      have s5 := k5.same s4 fr
      rw [size_nod] at hin1
      have zz : wtSizes (⟨.ref b, .nod l r, xf, xb, xp⟩ :: ws2) = (l.size + 1 + r.size) + wtSizes ws2 := rfl
      rw [zz] at hsz hcnt
      have lrows : rows.length = dn.length := Paired.length pd
      refine ⟨_, rfl, b, [x1, x2], rfl, .of (s5 _ _ eb), rfl, x1, _, rfl, x2, [], rfl, rfl, ?_⟩
      refine ⟨_, rfl, x1, rfl, x1, l, rfl, hl.same s5, by omega, fun H6 s6 => ⟨_, _, rfl, rfl, ?_⟩⟩
      have en : V.int ((xf : Int) + (l.size : Int)) = natV (xf + l.size) := congrArg V.int (by omega)
      have k6 := k5.trans (.of s6)
      -- the row
      refine ⟨_, rfl, .inl ⟨rfl, _, .of (s6 _ _ eq5)⟩, _, rfl, _, rfl, (by show 2 ≤ sizeLine; decide), fun R hR => ?_⟩
      have a0 := Same.new (o := .tup [V.int ((xf : Int) + (l.size : Int)), .ref xb]) hR
      refine ⟨q0, _, _, rfl, rfl, a0 _ _ (s6 _ _ eq5), ?_, ?_⟩
      · rw [List.length_map]
        exact small1000 (by omega)
      have k7 := (k6.anew (p := R) (o := .tup [V.int ((xf : Int) + (l.size : Int)), .ref xb]) hR).put (p := q0) (o := .lst (rows.map V.ref ++ [V.ref R])) in2r
      have nRq : R ≠ q0 := (ne_of_none (s6 _ _ eq5) hR).symm
      have nRw : R ≠ wl := (ne_of_none (s6 _ _ ew5) hR).symm
      have eR7 : (upd (upd H6 R (.tup [V.int ((xf : Int) + (l.size : Int)), .ref xb])) q0 (.lst (rows.map V.ref ++ [V.ref R]))) R = some (.tup [natV (xf + l.size), .ref xb]) := by
        rw [upd_ne nRq, upd_same, en]
      have ew7 : (upd (upd H6 R (.tup [V.int ((xf : Int) + (l.size : Int)), .ref xb])) q0 (.lst (rows.map V.ref ++ [V.ref R]))) wl = some (.lst (ts2.map V.ref).reverse) := by
        rw [upd_ne nqw.symm]
        exact a0 _ _ (s6 _ _ ew5)
      have eq7 : (upd (upd H6 R (.tup [V.int ((xf : Int) + (l.size : Int)), .ref xb])) q0 (.lst (rows.map V.ref ++ [V.ref R]))) q0 = some (.lst ((rows ++ [R]).map V.ref)) := by
        rw [upd_same, List.map_append]
        rfl
      generalize upd (upd H6 R (.tup [V.int ((xf : Int) + (l.size : Int)), .ref xb])) q0 (.lst (rows.map V.ref ++ [V.ref R])) = H7 at k7 eR7 ew7 eq7 ⊢
      have en2 : V.int ((xf : Int) + (l.size : Int) + 1) = natV (xf + l.size + 1) := congrArg V.int (by omega)
      -- the right part waits
      obtain ⟨tups, exb, pt⟩ := hpa.stay k7 nb hX
      have ltp := Paired.length pt
      refine ⟨_, rfl, .inl ⟨rfl, _, .of ew7⟩, x2, rfl, _, rfl, _, _, rfl, rfl, _, rfl, _, rfl, (by show 2 ≤ sizeLine; decide), fun t2 ht2 => ⟨(by show 1 ≤ sizeLine; decide), fun l2 hl2 => ?_⟩⟩
      have a1 := Same.new (o := .tup [V.int ((xf : Int) + (l.size : Int)), .str "right"]) ht2
      have a2 := Same.new (o := .lst [V.ref t2]) hl2
      refine ⟨xb, l2, _, _, rfl, rfl, a2 _ _ (a1 _ _ exb), upd_same, ?_, fun c2 hc2 => ⟨(by show 3 ≤ sizeLine; decide), fun T2 hT2 => ?_⟩⟩
      · rw [List.length_map]
        show tups.length + 1 ≤ sizeLine
        exact Nat.le_of_lt (small1000 (by omega))
      have a3 := Same.new (o := .lst (tups.map V.ref ++ [V.ref t2])) hc2
      have a4 := Same.new (o := .tup [x2, V.int ((xf : Int) + (l.size : Int) + 1), .ref c2]) hT2
      have aS := a1.trans (a2.trans (a3.trans a4))
      have pm2 := (path_more (z := (xf + l.size, true)) en rfl pt ht2 hl2 hc2).same a4
      have nc2w : c2 ≠ wl := (ne_of_none (a2 _ _ (a1 _ _ ew7)) hc2).symm
      have nc2q : c2 ≠ q0 := (ne_of_none (a2 _ _ (a1 _ _ eq7)) hc2).symm
      refine ⟨wl, _, _, rfl, rfl, aS _ _ ew7, ?_, ?_⟩
      · rw [List.length_reverse, List.length_map]
        exact small1000 (by omega)
      have k8 := (k7.then aS).put (p := wl) (o := .lst ((ts2.map V.ref).reverse ++ [V.ref T2])) in2l
      have eq8 : (upd (upd (upd (upd (upd H7 t2 (.tup [V.int ((xf : Int) + (l.size : Int)), .str "right"])) l2 (.lst [V.ref t2])) c2 (.lst (tups.map V.ref ++ [V.ref t2]))) T2 (.tup [x2, V.int ((xf : Int) + (l.size : Int) + 1), .ref c2])) wl (.lst ((ts2.map V.ref).reverse ++ [V.ref T2]))) q0 = some (.lst ((rows ++ [R]).map V.ref)) := by
        rw [upd_ne nqw]
        exact aS _ _ eq7
      have kB : Stay [wl, q0] H7 (upd (upd (upd (upd (upd H7 t2 (.tup [V.int ((xf : Int) + (l.size : Int)), .str "right"])) l2 (.lst [V.ref t2])) c2 (.lst (tups.map V.ref ++ [V.ref t2]))) T2 (.tup [x2, V.int ((xf : Int) + (l.size : Int) + 1), .ref c2])) wl (.lst ((ts2.map V.ref).reverse ++ [V.ref T2]))) := ((Stay.of aS).put in2l)
      have w2 : WtOk H (upd (upd (upd (upd H7 t2 (.tup [V.int ((xf : Int) + (l.size : Int)), .str "right"])) l2 (.lst [V.ref t2])) c2 (.lst (tups.map V.ref ++ [V.ref t2]))) T2 (.tup [x2, V.int ((xf : Int) + (l.size : Int) + 1), .ref c2])) [wl, q0] T2 ⟨x2, r, xf + l.size + 1, c2, xp ++ [(xf + l.size, true)]⟩ := ⟨by rw [upd_same, en2], hr2, pm2, no2 nc2w nc2q, ((k7.same s4 fr).trans (a1.trans a2)).free hc2⟩
      have hX8 : ∀ x, x ∈ [wl, q0] → ∃ ys, (upd (upd (upd (upd H7 t2 (.tup [V.int ((xf : Int) + (l.size : Int)), .str "right"])) l2 (.lst [V.ref t2])) c2 (.lst (tups.map V.ref ++ [V.ref t2]))) T2 (.tup [x2, V.int ((xf : Int) + (l.size : Int) + 1), .ref c2])) x = some (.lst ys) := fun x hx => by
        rcases List.mem_cons.mp hx with z | z
        · exact ⟨_, z ▸ aS _ _ ew7⟩
        · exact ⟨_, (List.mem_singleton.mp z) ▸ aS _ _ eq7⟩
      have w28 := w2.stay (.at (p := wl) (o := .lst ((ts2.map V.ref).reverse ++ [V.ref T2])) in2l) hX8
      have ew8 : (upd (upd (upd (upd (upd H7 t2 (.tup [V.int ((xf : Int) + (l.size : Int)), .str "right"])) l2 (.lst [V.ref t2])) c2 (.lst (tups.map V.ref ++ [V.ref t2]))) T2 (.tup [x2, V.int ((xf : Int) + (l.size : Int) + 1), .ref c2])) wl (.lst ((ts2.map V.ref).reverse ++ [V.ref T2]))) wl = some (.lst ((ts2.map V.ref).reverse ++ [V.ref T2])) := upd_same
      clear w2 hX8 pm2 a1 a2 a3 a4 aS exb pt ew7
      generalize upd (upd (upd (upd (upd H7 t2 (.tup [V.int ((xf : Int) + (l.size : Int)), .str "right"])) l2 (.lst [V.ref t2])) c2 (.lst (tups.map V.ref ++ [V.ref t2]))) T2 (.tup [x2, V.int ((xf : Int) + (l.size : Int) + 1), .ref c2])) wl (.lst ((ts2.map V.ref).reverse ++ [V.ref T2])) = H8 at k8 eq8 kB w28 ew8 ⊢
      have hX9 : ∀ x, x ∈ [wl, q0] → ∃ ys, H8 x = some (.lst ys) := fun x hx => by
        rcases List.mem_cons.mp hx with z | z
        · exact ⟨_, z ▸ ew8⟩
        · exact ⟨_, (List.mem_singleton.mp z) ▸ eq8⟩
      -- the left part waits
      obtain ⟨tups, exb, pt⟩ := hpa.stay k8 nb hX
      have ltp := Paired.length pt
      refine ⟨_, rfl, .inl ⟨rfl, _, .of ew8⟩, x1, rfl, _, rfl, _, rfl, _, rfl, (by show 2 ≤ sizeLine; decide), fun t1 ht1 => ⟨(by show 1 ≤ sizeLine; decide), fun l1 hl1 => ?_⟩⟩
      have a1 := Same.new (o := .tup [V.int ((xf : Int) + (l.size : Int)), .str "left"]) ht1
      have a2 := Same.new (o := .lst [V.ref t1]) hl1
      refine ⟨xb, l1, _, _, rfl, rfl, a2 _ _ (a1 _ _ exb), upd_same, ?_, fun c1 hc1 => ⟨(by show 3 ≤ sizeLine; decide), fun T1 hT1 => ?_⟩⟩
      · rw [List.length_map]
        show tups.length + 1 ≤ sizeLine
        exact Nat.le_of_lt (small1000 (by omega))
      have a3 := Same.new (o := .lst (tups.map V.ref ++ [V.ref t1])) hc1
      have a4 := Same.new (o := .tup [x1, natV xf, .ref c1]) hT1
      have aS := a1.trans (a2.trans (a3.trans a4))
      have pm1 := (path_more (z := (xf + l.size, false)) en rfl pt ht1 hl1 hc1).same a4
      have nc1w : c1 ≠ wl := (ne_of_none (a2 _ _ (a1 _ _ ew8)) hc1).symm
      have nc1q : c1 ≠ q0 := (ne_of_none (a2 _ _ (a1 _ _ eq8)) hc1).symm
      refine ⟨wl, _, _, rfl, rfl, aS _ _ ew8, ?_, ?_⟩
      · rw [List.length_append, List.length_reverse, List.length_map, List.length_singleton]
        exact small1000 (by omega)
      have kC : Stay [wl, q0] H8 (upd (upd (upd (upd (upd H8 t1 (.tup [V.int ((xf : Int) + (l.size : Int)), .str "left"])) l1 (.lst [V.ref t1])) c1 (.lst (tups.map V.ref ++ [V.ref t1]))) T1 (.tup [x1, natV xf, .ref c1])) wl (.lst ((ts2.map V.ref).reverse ++ [V.ref T2] ++ [V.ref T1]))) := ((Stay.of aS).put in2l)
      have k9 := k8.trans kC
      have kD := kB.trans kC
      have w29 := w28.stay kC hX9
      have hXA : ∀ x, x ∈ [wl, q0] → ∃ ys, (upd (upd (upd (upd H8 t1 (.tup [V.int ((xf : Int) + (l.size : Int)), .str "left"])) l1 (.lst [V.ref t1])) c1 (.lst (tups.map V.ref ++ [V.ref t1]))) T1 (.tup [x1, natV xf, .ref c1])) x = some (.lst ys) := fun x hx => by
        rcases List.mem_cons.mp hx with z | z
        · exact ⟨_, z ▸ aS _ _ ew8⟩
        · exact ⟨_, (List.mem_singleton.mp z) ▸ aS _ _ eq8⟩
      have w1 : WtOk H (upd (upd (upd (upd H8 t1 (.tup [V.int ((xf : Int) + (l.size : Int)), .str "left"])) l1 (.lst [V.ref t1])) c1 (.lst (tups.map V.ref ++ [V.ref t1]))) T1 (.tup [x1, natV xf, .ref c1])) [wl, q0] T1 ⟨x1, l, xf, c1, xp ++ [(xf + l.size, false)]⟩ := ⟨upd_same, hl, pm1, no2 nc1w nc1q, ((k8.same s4 fr).trans (a1.trans a2)).free hc1⟩
      have w19 := w1.stay (.at (p := wl) (o := .lst ((ts2.map V.ref).reverse ++ [V.ref T2] ++ [V.ref T1])) in2l) hXA
      have eq9 : (upd (upd (upd (upd (upd H8 t1 (.tup [V.int ((xf : Int) + (l.size : Int)), .str "left"])) l1 (.lst [V.ref t1])) c1 (.lst (tups.map V.ref ++ [V.ref t1]))) T1 (.tup [x1, natV xf, .ref c1])) wl (.lst ((ts2.map V.ref).reverse ++ [V.ref T2] ++ [V.ref T1]))) q0 = some (.lst ((rows ++ [R]).map V.ref)) := by
        rw [upd_ne nqw]
        exact aS _ _ eq8
      have ew9 : (upd (upd (upd (upd (upd H8 t1 (.tup [V.int ((xf : Int) + (l.size : Int)), .str "left"])) l1 (.lst [V.ref t1])) c1 (.lst (tups.map V.ref ++ [V.ref t1]))) T1 (.tup [x1, natV xf, .ref c1])) wl (.lst ((ts2.map V.ref).reverse ++ [V.ref T2] ++ [V.ref T1]))) wl = some (.lst ((T1 :: T2 :: ts2).map V.ref).reverse) := by
        rw [upd_same, List.map_cons, List.map_cons, List.reverse_cons, List.reverse_cons]
      generalize upd (upd (upd (upd (upd H8 t1 (.tup [V.int ((xf : Int) + (l.size : Int)), .str "left"])) l1 (.lst [V.ref t1])) c1 (.lst (tups.map V.ref ++ [V.ref t1]))) T1 (.tup [x1, natV xf, .ref c1])) wl (.lst ((ts2.map V.ref).reverse ++ [V.ref T2] ++ [V.ref T1])) = H9 at kC k9 kD w29 w19 eq9 ew9 ⊢
      have eR9 := kD _ _ (no2 nRw nRq) eR7
      refine ⟨wtTurns (⟨x1, l, xf, c1, xp ++ [(xf + l.size, false)]⟩ :: ⟨x2, r, xf + l.size + 1, c2, xp ++ [(xf + l.size, true)]⟩ :: ws2), ?_, T1 :: T2 :: ts2, ⟨x1, l, xf, c1, xp ++ [(xf + l.size, false)]⟩ :: ⟨x2, r, xf + l.size + 1, c2, xp ++ [(xf + l.size, true)]⟩ :: ws2, rows ++ [R], dn ++ [(xf + l.size, xp)], _, _, _, _, _, _, rfl, k9.same s4 fr, ew9, .cons w19 (.cons w29 (Paired.mapP hxs fun a z h => h.stay k9 hX)), eq9, Paired.app (Paired.mapP pd fun a z h => h.stay k9 hX) (.cons ⟨xb, eR9, hpa.stay k9 nb hX, nb, fb⟩ .nil), ?_, fun x hx => ?_, ?_, ?_, rfl⟩
      · show 2 * l.size + 1 + (2 * r.size + 1 + wtTurns ws2) < 2 * (l.size + 1 + r.size) + 1 + wtTurns ws2
        omega
      · rw [hpre]
        show dn ++ (((xf + l.size, xp) :: (pre l xf (xp ++ [(xf + l.size, false)]) ++ pre r (xf + l.size + 1) (xp ++ [(xf + l.size, true)]))) ++ wtPre ws2) = dn ++ [(xf + l.size, xp)] ++ (pre l xf (xp ++ [(xf + l.size, false)]) ++ (pre r (xf + l.size + 1) (xp ++ [(xf + l.size, true)]) ++ wtPre ws2))
        simp only [List.append_assoc, List.cons_append, List.nil_append]
      · rcases List.mem_cons.mp hx with z | z
        · rw [z]
          show (xp ++ [(xf + l.size, false)]).length + l.size ≤ t.size
          rw [List.length_append, List.length_singleton]
          omega
        · rcases List.mem_cons.mp z with z | z
          · rw [z]
            show (xp ++ [(xf + l.size, true)]).length + r.size ≤ t.size
            rw [List.length_append, List.length_singleton]
            omega
          · exact hin2 x z
      · rw [List.length_append, List.length_singleton]
        show dn.length + 1 + (l.size + (r.size + wtSizes ws2)) ≤ t.size
        omega
      · show ts2.length + 1 + 1 + (l.size + (r.size + wtSizes ws2)) ≤ t.size + 1
        omega
/-! ### paths_of -/
theorem sc_paths : FnScope n_paths_of ["tree"] (defScope s_paths_of) := ⟨rfl, rfl, rfl, by decide +kernel, rfl, by decide +kernel, by decide +kernel⟩
def spPaths : Sp := fun vs H Q _ => ∃ (v : V) (t : Tr), vs = [v] ∧ TrAt H v t ∧ t.size ≤ 300 ∧ ∀ (H' : Hp) (q : Addr), Same H H' → H q = none → WaysAt H' q t → Q (.ref q) H'
theorem ok_paths (B : Bl mg) (C : Df P w K mg base "count_nodes" 1 ["tree"] spCount) (W : Df P w K mg base "walk" 2 ["tree"] spWalk) (a : At K mg "paths_of" s_paths_of) : Df P w K mg base "paths_of" 3 ["tree"] spPaths := by
  refine Df.mk' a sc_paths (fun vs H Q E h => ?_) (fun _ _ _ _ _ _ us hl => match us, hl with | [_], _ => rfl) (fun f cdv A outer s H vs Q E hr h => ?_)
  · obtain ⟨v, t, rfl, _⟩ := h
    rfl
  obtain ⟨v, t, rfl, ht, hz, q⟩ := h
  refine ⟨_, (pss_cons (ps_setLc (i := 1) (own := [("_", 4)]) (g := (gName 4)) (tt := tYes) (by rfl) sc_paths.nd rfl rfl (sw_true rfl rfl rfl (by decide +kernel)) (pi_range1 (by rfl) B.range (pa_cons (pe_df C (hr.mono (by decide)) (pa_cons (pv 0) pa_nil)) pa_nil)) (blkOk_by (N := n_paths_of) (sc := defScope s_paths_of) (by decide +kernel)) (fun _ _ _ _ _ => (pg_name (i := 4) sc_paths.nd rfl (.inl rfl))) (fun _ _ _ _ _ => pts_nil) (fun _ _ _ _ _ => (pe_lst pa_nil)))
 (pss_cons (ps_for PassesOwn.never rfl (pi_list (pe_df W hr (pa_cons (pv 0) pa_nil))) (pg_tup rfl (pgs_cons (pg_name (i := 2) sc_paths.nd rfl (.inl rfl)) (pgs_cons (pg_name (i := 3) sc_paths.nd rfl (.inl rfl)) pgs_nil))) (pss_one (ps_asg (pv 3) (pg_sub (pv 1) (pv 2) set_list))))
 (pss_one (ps_ret (pv 1))))), ?_⟩
  -- an empty list for each node
  refine ⟨v, rfl, v, t, rfl, ht, by omega, fun H1 s1 => ⟨_, rfl, by omega, by omega, fun q0 hq0 => ?_⟩⟩
  refine lc_range (lo := 0) (n := t.size) (fun i H' => ∃ rows : List Addr, Same H H' ∧ H' q0 = some (.lst (rows.map V.ref)) ∧ rows.length = i ∧ (∀ r, r ∈ rows → r ≠ q0)) ⟨[], s1.trans (Same.new hq0), upd_same, rfl, fun r hr => by cases hr⟩ (fun i H2 hi h2 => ?_) (fun H2 h2 => ?_)
  · obtain ⟨rows, s2, e2, l2, n2⟩ := h2
    refine ⟨rfl, ?_⟩
    refine ⟨Nat.zero_le _, fun r hr2 => ⟨_, (Same.new hr2) _ _ e2, ?_, ?_⟩⟩
    · rw [List.length_map]
      exact small1000 (by omega)
    · have nr : q0 ≠ r := ne_of_none e2 hr2
      have hq : H q0 = none := s1.free hq0
      refine ⟨rows ++ [r], fun b o e => ?_, ?_, ?_, fun x hx => ?_⟩
      · rw [upd_ne (ne_of_none e hq)]
        exact (Same.new hr2) _ _ (s2 _ _ e)
      · rw [upd_same, List.map_append]
        rfl
      · rw [List.length_append, List.length_singleton, l2]
      · rcases List.mem_append.mp hx with z | z
        · exact n2 x z
        · rw [List.mem_singleton.mp z]
          exact nr.symm
  · obtain ⟨rows, s2, e2, l2, n2⟩ := h2
    have hq : H q0 = none := s1.free hq0
    refine ⟨v, rfl, v, t, rfl, ht.same s2, hz, fun H3 u rs s3 nu eu pr => ?_⟩
    have nuq : u ≠ q0 := (ne_of_none e2 nu).symm
    have lrs : rs.length = t.size := by rw [Paired.length pr, pre_len]
    refine ⟨u, rfl, ⟨_, .of eu⟩, for_list (xs := rs.map V.ref) (fun k σ H' => ∃ (y2 y3 : Option V) (rows : List Addr), σ = [some v, some (.ref q0), y2, y3, none] ∧ Stay [q0] H3 H' ∧ H' q0 = some (.lst (rows.map V.ref)) ∧ rows.length = t.size ∧ ∀ n s, (n, s) ∈ (pre t 0 []).take k → ∃ r, rows[n]? = some r ∧ PathAt H' r s ∧ r ≠ q0)
      ⟨_, _, rows, rfl, .refl _ _, s3 _ _ e2, l2, fun n s h => by cases h⟩ (fun k σ H4 _ h4 => ?_) (fun k x σ H4 hx h4 => ?_) (fun σ H4 h4 => ?_)⟩
    · obtain ⟨_, _, _, _, k4, _⟩ := h4
      exact .of (k4 _ _ (no1 nuq) eu)
    · obtain ⟨y2, y3, rows, rfl, k4, e4, l4, h4⟩ := h4
      rw [List.getElem?_map] at hx
      obtain ⟨R, hR, rfl⟩ := Option.map_eq_some_iff.mp hx
      obtain ⟨⟨n, p⟩, hz2, b, eR, pb, nb, fb⟩ := Paired.getL pr hR
      have hX : ∀ x, x ∈ [q0] → ∃ ys, H3 x = some (.lst ys) := fun x hx => ⟨_, (List.mem_singleton.mp hx) ▸ s3 _ _ e2⟩
      have nRq : R ≠ q0 := tup_ne eR (s3 _ _ e2)
      have hn := pre_in t 0 [] n p (List.mem_of_getElem? hz2)
      have nbq : b ≠ q0 := (ne_of_none e2 fb).symm
      refine ⟨R, _, rfl, .of (k4 _ _ (no1 nRq) eR), rfl, _, _, rfl, _, [], rfl, rfl, ?_⟩
      refine ⟨_, rfl, _, rfl, _, rfl, q0, _, _, n, rfl, rfl, e4, ?_, ?_⟩
      · rw [List.length_map, l4]
        exact ixN_in (n := t.size) (i := (n : Int)) (by omega) (by omega)
      refine ⟨_, _, rows.set n b, rfl, k4.put in1, ?_, ?_, fun m s h => ?_⟩
      · rw [upd_same, List.map_set]
      · rw [List.length_set, l4]
      have pb4 : PathAt (upd H4 q0 (.lst ((rows.map V.ref).set n (.ref b)))) b p := pb.stay (k4.put in1) (no1 nbq) hX
      rw [List.take_add_one, hz2] at h
      have key : ∀ s, s = pOf t 0 n → ∃ r, (rows.set n b)[n]? = some r ∧ PathAt (upd H4 q0 (.lst ((rows.map V.ref).set n (.ref b)))) r s ∧ r ≠ q0 := fun s es => by
        refine ⟨b, List.getElem?_set_self (by omega), ?_, nbq⟩
        rw [es, ← hn.2.2.trans (List.nil_append _)]
        exact pb4
      rcases List.mem_append.mp h with h | h
      · have e0 := (pre_in t 0 [] m s (List.mem_of_mem_take h)).2.2.trans (List.nil_append _)
        by_cases c : m = n
        · rw [c] at e0 ⊢
          exact key s e0
        · obtain ⟨r, g1, g2, g3⟩ := h4 m s h
          exact ⟨r, by rw [List.getElem?_set_ne (Ne.symm c)]; exact g1, g2.put g3 e4, g3⟩
      · obtain ⟨rfl, rfl⟩ := Prod.mk.inj (List.mem_singleton.mp h)
        exact key _ (hn.2.2.trans (List.nil_append _))
    · obtain ⟨y2, y3, rows, rfl, k4, e4, l4, h4⟩ := h4
      refine ⟨_, rfl, q H4 q0 (Stay.same (X := [q0]) (s2.trans s3) (fun x hx => (List.mem_singleton.mp hx) ▸ hq) k4) hq ⟨rows, e4, l4, fun i r hr2 => ?_⟩⟩
      have hi : i < t.size := by rw [← l4]; exact (List.getElem?_eq_some_iff.mp hr2).1
      have hm := pre_mem t 0 [] i (Nat.zero_le _) (by omega)
      rw [List.nil_append] at hm
      obtain ⟨r', g1, g2, _⟩ := h4 i (pOf t 0 i) (by
        rw [List.length_map, lrs, ← pre_len t 0 [], List.take_length]
        exact hm)
      cases hr2.symm.trans g1
      exact g2
end
end HSP
namespace HSP
open PySem PySem.Spec PyProof.Rows L2
section
variable {P : Program} {w : World} {K : PySem.W.Frag} {mg : Str → Option Value} {base : Heap}
/-! ### check_row -/
theorem sc_chkR : FnScope n_check_row ["row"] (defScope s_check_row) := ⟨rfl, rfl, rfl, by decide +kernel, rfl, by decide +kernel, by decide +kernel⟩
def spChkR : Sp := fun vs H Q _ => ∃ (a : Addr) (ns : List Int), vs = [.ref a] ∧ H a = some (.lst (ns.map V.int)) ∧ ∀ H', Same H H' → Q .non H'
theorem ok_chkR (B : Bl mg) (W1 : Df P w K mg base "is_whole" 1 ["thing"] spWhole) (a : At K mg "check_row" s_check_row) : Df P w K mg base "check_row" 2 ["row"] spChkR := by
  refine Df.mk' a sc_chkR (fun vs H Q E h => ?_) (fun _ _ _ _ _ _ us hl => match us, hl with | [_], _ => rfl) (fun f cdv A outer s H vs Q E hr h => ?_)
  · obtain ⟨a, ns, rfl, _⟩ := h
    rfl
  obtain ⟨a, ns, rfl, ha, q⟩ := h
  refine ⟨_, (pss_cons (ps_if (pt_not (pt_val (pe_callB call_isi (by rfl) B.isinstance (by decide +kernel) (pa_cons (pv 0) (pa_cons (pe_bltn (v := .ty "list") (by rfl) B.list (by decide +kernel) rfl) pa_nil))))) (pss_one ps_never) pss_nil)
 (pss_one (ps_for PassesOwn.never rfl (pi_enum (by rfl) B.enumerate (pa_cons (pv 0) pa_nil)) (pg_tup rfl (pgs_cons (pg_name (i := 1) sc_chkR.nd rfl (.inl rfl)) (pgs_cons (pg_name (i := 2) sc_chkR.nd rfl (.inl rfl)) pgs_nil))) (pss_one (ps_if (pt_not (pt_val (pe_df W1 hr (pa_cons (pv 2) pa_nil)))) (pss_one ps_never) pss_nil))))), ?_⟩
  refine ⟨_, rfl, _, _, _, _, true, rfl, .ty "list", .base (.lst ha), rfl, true, rfl, iteF ?_⟩
  refine ⟨.ref a, rfl, a, ns.map V.int, rfl, .of ha, ?_⟩
  refine for_it (walk_enum (K := K) (a := a) (xs := ns.map V.int)) (fun _ σ H3 => Same H H3 ∧ ∃ y2 y3, σ = [some (.ref a), y2, y3]) ⟨Same.refl _, none, none, rfl⟩ (fun i σ H3 _ h3 => .of (h3.1 _ _ ha)) (fun i x σ H3 H4 hi h3 hy => ?_) (fun σ H3 h3 => q _ h3.1)
  obtain ⟨s3, y2, y3, rfl⟩ := h3
  obtain ⟨p, x1, x2, rfl, np, rfl, ex1, ex2⟩ := hy
  rw [List.length_map] at hi
  have g1 : (ns.map V.int)[i]? = some (.int ns[i]) := by
    rw [List.getElem?_map, List.getElem?_eq_getElem hi]
    rfl
  cases g1.symm.trans ex2
  refine ⟨p, [x1, .int ns[i]], rfl, .of upd_same, rfl, x1, _, rfl, _, [], rfl, rfl, ?_⟩
  refine ⟨_, rfl, _, rfl, true, rfl, iteF ?_⟩
  exact ⟨s3.trans (Same.new np), _, _, rfl⟩
end
end HSP
namespace HSP
open PySem PySem.Spec PyProof.Rows L2
section
variable {P : Program} {w : World} {K : PySem.W.Frag} {mg : Str → Option Value} {base : Heap}
/-! ### check_values -/
theorem sc_chkV : FnScope n_check_values ["tree", "values"] (defScope s_check_values) := ⟨rfl, rfl, rfl, by decide +kernel, rfl, by decide +kernel, by decide +kernel⟩
def spChkV : Sp := fun vs H Q _ => ∃ (v : V) (t : Tr) (a : Addr) (ns : List Int), vs = [v, .ref a] ∧ TrAt H v t ∧ t.size ≤ 1000 ∧ H a = some (.lst (ns.map V.int)) ∧ ns.length = t.size ∧ ∀ H', Same H H' → Q .non H'
theorem ok_chkV (B : Bl mg) (R : Df P w K mg base "check_row" 2 ["row"] spChkR) (C : Df P w K mg base "count_nodes" 1 ["tree"] spCount) (T : Df P w K mg base "check_tree" 2 ["tree"] spChkT)
    (a : At K mg "check_values" s_check_values) : Df P w K mg base "check_values" 3 ["tree", "values"] spChkV := by
  refine Df.mk' a sc_chkV (fun vs H Q E h => ?_) (fun _ _ _ _ _ _ us hl => match us, hl with | [_, _], _ => rfl) (fun f cdv A outer s H vs Q E hr h => ?_)
  · obtain ⟨v, t, a, ns, rfl, _⟩ := h
    rfl
  obtain ⟨v, t, a, ns, rfl, ht, hz, ha, hn, q⟩ := h
  refine ⟨_, (pss_cons (ps_expr (pe_df T hr (pa_cons (pv 0) pa_nil)))
 (pss_cons (ps_if (PW.pt (pw_and (pt_val (pe_callB call_isi (by rfl) B.isinstance (by decide +kernel) (pa_cons (pv 1) (pa_cons (pe_bltn (v := .ty "list") (by rfl) B.list (by decide +kernel) rfl) pa_nil)))) (pw_and1 (pt_cmpR op_ne (pe_callB call_len_seq (by rfl) B.len PySem.boot_len (pa_cons (pv 1) pa_nil)) (pe_df C (hr.mono (by decide)) (pa_cons (pv 0) pa_nil)) (nomark _))))) (pss_one ps_never) pss_nil)
 (pss_one (ps_expr (pe_df R hr (pa_cons (pv 1) pa_nil)))))), ?_⟩
  refine ⟨v, rfl, v, t, rfl, ht, hz, fun H1 s1 => ?_⟩
  refine ⟨_, rfl, _, _, _, _, true, rfl, .ty "list", .base (.lst (s1 _ _ ha)), rfl, true, rfl, iteT ?_⟩
  refine ⟨_, rfl, a, _, rfl, .inl (.of (s1 _ _ ha)), v, rfl, v, t, rfl, ht.same s1, hz, fun H2 s2 => ?_⟩
  have e1 : V.int (((ns.map V.int).length : Nat) : Int) = V.int ((t.size : Nat) : Int) := by rw [List.length_map, hn]
  refine ⟨rfl, _, rfl, ?_⟩
  rw [e1, decide_eq_true rfl]
  refine iteF ?_
  exact ⟨.ref a, rfl, a, ns, rfl, s2 _ _ (s1 _ _ ha), fun H3 s3 => q _ ((s1.trans s2).trans s3)⟩
end
end HSP
namespace HSP
open PySem PySem.Spec PyProof.Rows L2
/-! ### intervals and labels -/
/-- the bounds that a path gives -/
def lowOf (g : Nat → Int) : List (Nat × Bool) → Option Int
  | [] => none
  | (n, true) :: r => match lowOf g r with
    | none => some (g n)
    | some m => some (max (g n) m)
  | (_, false) :: r => lowOf g r
def highOf (g : Nat → Int) : List (Nat × Bool) → Option Int
  | [] => none
  | (n, false) :: r => match highOf g r with
    | none => some (g n)
    | some m => some (min (g n) m)
  | (_, true) :: r => highOf g r
/-- the values above on one side -/
def above (g : Nat → Int) (b : Bool) (p : List (Nat × Bool)) : List Int := (p.filter fun z => z.2 == b).map fun z => g z.1
def optV : Option Int → V
  | none => .non
  | some i => .int i
theorem low_spec (g : Nat → Int) : ∀ p : List (Nat × Bool), (above g true p = [] → lowOf g p = none) ∧ ∀ m, m ∈ above g true p → (∀ y, y ∈ above g true p → y ≤ m) → lowOf g p = some m
  | [] => ⟨fun _ => rfl, fun m hm => by cases hm⟩
  | (n, false) :: r => low_spec g r
  | (n, true) :: r => by
    obtain ⟨h1, h2⟩ := low_spec g r
    have e : above g true ((n, true) :: r) = g n :: above g true r := rfl
    have el : lowOf g ((n, true) :: r) = match lowOf g r with | none => some (g n) | some m => some (max (g n) m) := rfl
    rw [e]
    refine ⟨fun z => absurd z (List.cons_ne_nil _ _), fun m hm hle => ?_⟩
    by_cases c : above g true r = []
    · rw [el, h1 c]
      rw [c] at hm
      exact congrArg some (List.mem_singleton.mp hm).symm
    · obtain ⟨x, hx, hxm⟩ : ∃ x, x ∈ above g true r ∧ ∀ y, y ∈ above g true r → y ≤ x := by
        cases q : above g true r with
        | nil => exact absurd q c
        | cons y ys => exact ⟨_, (maxOf_spec ys y).1, (maxOf_spec ys y).2⟩
      rw [el, h2 x hx hxm]
      have a1 := hle (g n) List.mem_cons_self
      have a2 := hle x (List.mem_cons_of_mem _ hx)
      rcases List.mem_cons.mp hm with z | z
      · exact congrArg some (by omega)
      · have a3 := hxm m z
        exact congrArg some (by omega)
theorem high_spec (g : Nat → Int) : ∀ p : List (Nat × Bool), (above g false p = [] → highOf g p = none) ∧ ∀ m, m ∈ above g false p → (∀ y, y ∈ above g false p → m ≤ y) → highOf g p = some m
  | [] => ⟨fun _ => rfl, fun m hm => by cases hm⟩
  | (n, true) :: r => high_spec g r
  | (n, false) :: r => by
    obtain ⟨h1, h2⟩ := high_spec g r
    have e : above g false ((n, false) :: r) = g n :: above g false r := rfl
    have el : highOf g ((n, false) :: r) = match highOf g r with | none => some (g n) | some m => some (min (g n) m) := rfl
    rw [e]
    refine ⟨fun z => absurd z (List.cons_ne_nil _ _), fun m hm hle => ?_⟩
    by_cases c : above g false r = []
    · rw [el, h1 c]
      rw [c] at hm
      exact congrArg some (List.mem_singleton.mp hm).symm
    · obtain ⟨x, hx, hxm⟩ : ∃ x, x ∈ above g false r ∧ ∀ y, y ∈ above g false r → x ≤ y := by
        cases q : above g false r with
        | nil => exact absurd q c
        | cons y ys => exact ⟨_, (minOf_spec ys y).1, (minOf_spec ys y).2⟩
      rw [el, h2 x hx hxm]
      have a1 := hle (g n) List.mem_cons_self
      have a2 := hle x (List.mem_cons_of_mem _ hx)
      rcases List.mem_cons.mp hm with z | z
      · exact congrArg some (by omega)
      · have a3 := hxm m z
        exact congrArg some (by omega)
/-- the interval, none if it is empty -/
def bndOf (g : Nat → Int) (p : List (Nat × Bool)) : Option (Option Int × Option Int) :=
  match lowOf g p, highOf g p with
  | some a, some b => if a ≥ b then none else some (some a, some b)
  | a, b => some (a, b)
def BndAt (H : Hp) (v : V) (b : Option (Option Int × Option Int)) : Prop := match b with
  | none => v = .non
  | some (x, y) => ∃ e, v = .ref e ∧ H e = some (.tup [optV x, optV y])
inductive Lb where
  | dead | found | low | high
  deriving DecidableEq
def Lb.str : Lb → Str
  | .dead => "dead"
  | .found => "found"
  | .low => "low"
  | .high => "high"
def lbOf (b : Option (Option Int × Option Int)) (x : Int) : Lb := match b with
  | none => .dead
  | some (lo, hi) => match lo with
    | some l => if x ≤ l then .low else match hi with
      | some h => if x ≥ h then .high else .found
      | none => .found
    | none => match hi with
      | some h => if x ≥ h then .high else .found
      | none => .found
section
variable {P : Program} {w : World} {K : PySem.W.Frag} {mg : Str → Option Value} {base : Heap}
theorem sc_label : FnScope n_label_of ["bounds", "value"] (defScope s_label_of) := ⟨rfl, rfl, rfl, by decide +kernel, rfl, by decide +kernel, by decide +kernel⟩
def spLabel : Sp := fun vs H Q _ => ∃ (v : V) (b : Option (Option Int × Option Int)) (x : Int), vs = [v, .int x] ∧ BndAt H v b ∧ Q (.str (lbOf b x).str) H
theorem ok_label (a : At K mg "label_of" s_label_of) : Df P w K mg base "label_of" 1 ["bounds", "value"] spLabel := by
  refine Df.mk' a sc_label (fun vs H Q E h => ?_) (fun _ _ _ _ _ _ us hl => match us, hl with | [_, _], _ => rfl) (fun f cdv A outer s H vs Q E hr h => ?_)
  · obtain ⟨v, b, x, rfl, _⟩ := h
    rfl
  obtain ⟨v, b, x, rfl, hb, q⟩ := h
  refine ⟨_, (pss_cons (ps_if (pt_cmpR op_isN (pv 0) pe_non (nomark _)) (pss_one (ps_ret pe_str)) pss_nil)
 (pss_cons (ps_asg (pv 0) (pg_tup rfl (pgs_cons (pg_name (i := 2) sc_label.nd rfl (.inl rfl)) (pgs_cons (pg_name (i := 3) sc_label.nd rfl (.inl rfl)) pgs_nil))))
 (pss_cons (ps_if (PW.pt (pw_and (pt_cmpR op_notN (pv 2) pe_non (nomark _)) (pw_and1 (pt_cmpR op_le (pv 1) (pv 2) (nomark _))))) (pss_one (ps_ret pe_str)) pss_nil)
 (pss_cons (ps_if (PW.pt (pw_and (pt_cmpR op_notN (pv 3) pe_non (nomark _)) (pw_and1 (pt_cmpR op_ge (pv 1) (pv 3) (nomark _))))) (pss_one (ps_ret pe_str)) pss_nil)
 (pss_one (ps_ret pe_str)))))), ?_⟩
  refine ⟨v, rfl, rfl, _, rfl, ?_⟩
  match b, hb, q with
  | none, hb, q =>
    have e : v = .non := hb
    rw [e]
    exact iteT q
  | some (lo, hi), ⟨e, e1, e2⟩, q =>
    subst e1
    refine iteF ?_
    refine ⟨_, rfl, e, _, rfl, .of e2, rfl, _, _, rfl, _, [], rfl, rfl, ?_⟩
    refine ⟨_, rfl, rfl, _, rfl, ?_⟩
    cases lo with
    | none =>
      refine iteF (iteF ?_)
      refine ⟨_, rfl, rfl, _, rfl, ?_⟩
      cases hi with
      | none => exact iteF (iteF q)
      | some h =>
        have e0 : lbOf (some (none, some h)) x = if x ≥ h then .high else .found := rfl
        rw [e0] at q
        refine iteT ⟨_, rfl, _, rfl, _, _, rfl, rfl, _, rfl, ite2 (fun c => ?_) (fun c => ?_)⟩
        · rw [if_pos (of_decide_eq_true c)] at q
          exact q
        · rw [if_neg (fun z => c (decide_eq_true z))] at q
          exact q
    | some l =>
      have e0 : lbOf (some (some l, hi)) x = if x ≤ l then .low else lbOf (some (none, hi)) x := rfl
      rw [e0] at q
      refine iteT ⟨_, rfl, _, rfl, _, _, rfl, rfl, _, rfl, ite2 (fun c => ?_) (fun c => ?_)⟩
      · rw [if_pos (of_decide_eq_true c)] at q
        exact q
      · rw [if_neg (fun z => c (decide_eq_true z))] at q
        refine ⟨_, rfl, rfl, _, rfl, ?_⟩
        cases hi with
        | none => exact iteF (iteF q)
        | some h =>
          have e1 : lbOf (some (none, some h)) x = if x ≥ h then .high else .found := rfl
          rw [e1] at q
          refine iteT ⟨_, rfl, _, rfl, _, _, rfl, rfl, _, rfl, ite2 (fun c => ?_) (fun c => ?_)⟩
          · rw [if_pos (of_decide_eq_true c)] at q
            exact q
          · rw [if_neg (fun z => c (decide_eq_true z))] at q
            exact q
/-! ### bounds_below -/
theorem above_snoc (g : Nat → Int) (b : Bool) {p : List (Nat × Bool)} {i : Nat} {z : Nat × Bool} (h : p[i]? = some z) : above g b (p.take (i + 1)) = above g b (p.take i) ++ if z.2 == b then [g z.1] else [] := by
  unfold above
  rw [List.take_add_one, h]
  show List.map _ (List.filter _ (p.take i ++ [z])) = _
  rw [List.filter_append, List.map_append]
  congr 1
  unfold List.filter
  cases z.2 == b <;> rfl
theorem above_len (g : Nat → Int) (b : Bool) (p : List (Nat × Bool)) : (above g b p).length ≤ p.length := by
  unfold above
  rw [List.length_map]
  exact List.length_filter_le _ _
theorem sc_bounds : FnScope n_bounds_below ["values", "above"] (defScope s_bounds_below) := ⟨rfl, rfl, rfl, by decide +kernel, rfl, by decide +kernel, by decide +kernel⟩
def spBounds : Sp := fun vs H Q _ => ∃ (a r : Addr) (ns : List Int) (p : List (Nat × Bool)), vs = [.ref a, .ref r] ∧ H a = some (.lst (ns.map V.int)) ∧ PathAt H r p ∧ p.length ≤ 900 ∧ (∀ z, z ∈ p → z.1 < ns.length) ∧ ∀ (H' : Hp) (v : V), Same H H' → BndAt H' v (bndOf (valAt ns) p) → Q v H'
theorem ok_bounds (B : Bl mg) (a : At K mg "bounds_below" s_bounds_below) : Df P w K mg base "bounds_below" 1 ["values", "above"] spBounds := by
  refine Df.mk' a sc_bounds (fun vs H Q E h => ?_) (fun _ _ _ _ _ _ us hl => match us, hl with | [_, _], _ => rfl) (fun f cdv A outer s H vs Q E hr h => ?_)
  · obtain ⟨a, r, ns, p, rfl, _⟩ := h
    rfl
  obtain ⟨a, r, ns, p, rfl, ha, ⟨tups, er, pt⟩, hl, hn, q⟩ := h
  refine ⟨_, (C8.pss_cut (ps_set (i := 2) sc_bounds.nd rfl (.inl rfl) (pe_callBK (crk_maxN rfl hr.units) (by rfl) B.max (by decide +kernel) (pa_cons (pe_lc (own := [("node", 4), ("side", 5)]) (g := (gTup K 2 (gCons (gName 4) (gCons (gName 5) gNil)))) (by rfl) sc_bounds.nd (pi_list (pv 1)) (blkOk_by (N := n_bounds_below) (sc := defScope s_bounds_below) (by decide +kernel)) (fun _ _ _ _ _ => (pg_tup rfl (pgs_cons (pg_name (i := 4) sc_bounds.nd rfl (.inl rfl)) (pgs_cons (pg_name (i := 5) sc_bounds.nd rfl (.inl rfl)) pgs_nil)))) (fun _ _ _ _ _ => (pts_one (pt_cmpR op_eq (pv 5) pe_str (nomark _)))) (fun _ _ _ _ _ => (pe_ix (show IxR _ (rIxL K) from ix_list) (pv 0) (pv 4) (fun _ _ => rfl)))) pa_nil) (pk_cons pe_non pk_nil)))
 (C8.pss_cut (ps_set (i := 3) sc_bounds.nd rfl (.inl rfl) (pe_callBK (crk_minN rfl hr.units) (by rfl) B.min (by decide +kernel) (pa_cons (pe_lc (own := [("node", 4), ("side", 5)]) (g := (gTup K 2 (gCons (gName 4) (gCons (gName 5) gNil)))) (by rfl) sc_bounds.nd (pi_list (pv 1)) (blkOk_by (N := n_bounds_below) (sc := defScope s_bounds_below) (by decide +kernel)) (fun _ _ _ _ _ => (pg_tup rfl (pgs_cons (pg_name (i := 4) sc_bounds.nd rfl (.inl rfl)) (pgs_cons (pg_name (i := 5) sc_bounds.nd rfl (.inl rfl)) pgs_nil)))) (fun _ _ _ _ _ => (pts_one (pt_cmpR op_eq (pv 5) pe_str (nomark _)))) (fun _ _ _ _ _ => (pe_ix (show IxR _ (rIxL K) from ix_list) (pv 0) (pv 4) (fun _ _ => rfl)))) pa_nil) (pk_cons pe_non pk_nil)))
 (pss_cons (ps_if (PW.pt (pw_and (pt_cmpR op_notN (pv 2) pe_non (nomark _)) (pw_and (pt_cmpR op_notN (pv 3) pe_non (nomark _)) (pw_and1 (pt_cmpR op_ge (pv 2) (pv 3) (nomark _)))))) (pss_one (ps_ret pe_non)) pss_nil)
 (pss_one (ps_ret (pe_tup (pa_cons (pv 2) (pa_cons (pv 3) pa_nil)))))))), ?_⟩
  have lt := Paired.length pt
  refine ⟨fun σ' H' => σ' = [some (.ref a), some (.ref r), some (optV (lowOf (valAt ns) p)), none, none, none] ∧ Same H H', ?_, ?_⟩
  · have s0 := Same.refl H
    refine ⟨_, rfl, r, rfl, ⟨_, .of (s0 _ _ er)⟩, fun D hD => ?_⟩
    refine lc_list (xs := tups.map V.ref) (fun i H' => Same H H' ∧ H' D = some (.lst ((above (valAt ns) true (p.take i)).map V.int))) ⟨Same.new hD, upd_same⟩ (fun i H2 _ h2 => .of (h2.1 _ _ (s0 _ _ er))) (fun i x H2 hx h2 => ?_) (fun H2 h2 => ?_)
    · obtain ⟨s2, e2⟩ := h2
      rw [List.getElem?_map] at hx
      obtain ⟨T, hT, rfl⟩ := Option.map_eq_some_iff.mp hx
      obtain ⟨z, hz, eT⟩ := Paired.getL pt hT
      have hnz := hn z (List.mem_of_getElem? hz)
      refine ⟨T, _, rfl, .of (s2 _ _ (s0 _ _ eT)), rfl, _, _, rfl, _, [], rfl, rfl, rfl, ?_⟩
      rw [above_snoc _ _ hz]
      obtain ⟨n, b⟩ := z
      cases b with
      | false =>
        refine ⟨_, rfl, rfl, _, rfl, ite_no (show ¬ (V.str "left" = V.str "right") by decide +kernel) ⟨s2, ?_⟩⟩
        show H2 D = some (.lst (((above (valAt ns) true (p.take i)) ++ []).map V.int))
        rw [List.append_nil]
        exact e2
      | true =>
        refine ⟨_, rfl, rfl, _, rfl, ite_yes rfl ?_⟩
        refine ⟨_, rfl, _, rfl, a, _, _, _, rfl, rfl, .of (s2 _ _ (s0 _ _ ha)), at_of (j := n) rfl (valAt_get hnz), _, e2, ?_, fun c o e => ?_, ?_⟩
        · rw [List.length_map]
          have q1 := above_len (valAt ns) true (p.take i)
          rw [List.length_take] at q1
          exact small1000 (by omega)
        · rw [upd_ne (ne_of_none e hD)]
          exact s2 _ _ e
        · rw [upd_same, List.map_append]
          rfl
    · obtain ⟨s2, e2⟩ := h2
      rw [List.length_map, lt, List.take_length] at e2
      obtain ⟨lo1, lo2⟩ := low_spec (valAt ns) p
      refine ⟨D, _, rfl, rfl, e2, fun e0 => ?_, fun m hm hle => ?_⟩
      · exact ⟨by rw [lo1 e0]; rfl, s0.trans s2⟩
      · exact ⟨by rw [lo2 m hm hle]; rfl, s0.trans s2⟩
  rintro σ' H0 ⟨rfl, s0⟩
  refine ⟨fun σ' H' => σ' = [some (.ref a), some (.ref r), some (optV (lowOf (valAt ns) p)), some (optV (highOf (valAt ns) p)), none, none] ∧ Same H H', ?_, ?_⟩
  · refine ⟨_, rfl, r, rfl, ⟨_, .of (s0 _ _ er)⟩, fun D hD => ?_⟩
    refine lc_list (xs := tups.map V.ref) (fun i H' => Same H0 H' ∧ H' D = some (.lst ((above (valAt ns) false (p.take i)).map V.int))) ⟨Same.new hD, upd_same⟩ (fun i H2 _ h2 => .of (h2.1 _ _ (s0 _ _ er))) (fun i x H2 hx h2 => ?_) (fun H2 h2 => ?_)
    · obtain ⟨s2, e2⟩ := h2
      rw [List.getElem?_map] at hx
      obtain ⟨T, hT, rfl⟩ := Option.map_eq_some_iff.mp hx
      obtain ⟨z, hz, eT⟩ := Paired.getL pt hT
      have hnz := hn z (List.mem_of_getElem? hz)
      refine ⟨T, _, rfl, .of (s2 _ _ (s0 _ _ eT)), rfl, _, _, rfl, _, [], rfl, rfl, rfl, ?_⟩
      rw [above_snoc _ _ hz]
      obtain ⟨n, b⟩ := z
      cases b with
      | true =>
        refine ⟨_, rfl, rfl, _, rfl, ite_no (show ¬ (V.str "right" = V.str "left") by decide +kernel) ⟨s2, ?_⟩⟩
        show H2 D = some (.lst (((above (valAt ns) false (p.take i)) ++ []).map V.int))
        rw [List.append_nil]
        exact e2
      | false =>
        refine ⟨_, rfl, rfl, _, rfl, ite_yes rfl ?_⟩
        refine ⟨_, rfl, _, rfl, a, _, _, _, rfl, rfl, .of (s2 _ _ (s0 _ _ ha)), at_of (j := n) rfl (valAt_get hnz), _, e2, ?_, fun c o e => ?_, ?_⟩
        · rw [List.length_map]
          have q1 := above_len (valAt ns) false (p.take i)
          rw [List.length_take] at q1
          exact small1000 (by omega)
        · rw [upd_ne (ne_of_none e hD)]
          exact s2 _ _ e
        · rw [upd_same, List.map_append]
          rfl
    · obtain ⟨s2, e2⟩ := h2
      rw [List.length_map, lt, List.take_length] at e2
      obtain ⟨lo1, lo2⟩ := high_spec (valAt ns) p
      refine ⟨D, _, rfl, rfl, e2, fun e0 => ?_, fun m hm hle => ?_⟩
      · exact ⟨by rw [lo1 e0]; rfl, s0.trans s2⟩
      · exact ⟨by rw [lo2 m hm hle]; rfl, s0.trans s2⟩
  rintro σ' H1 ⟨rfl, s1⟩
  have pair : ∀ x y : Option Int, bndOf (valAt ns) p = some (x, y) → ∀ T, H1 T = none → Q (.ref T) (upd H1 T (.tup [optV x, optV y])) := fun x y e T hT => by
    refine q _ _ (s1.trans (Same.new hT)) ?_
    rw [e]
    exact ⟨T, rfl, upd_same⟩
  cases e1 : lowOf (valAt ns) p with
  | none =>
    refine ⟨_, rfl, rfl, _, rfl, iteF (iteF ?_)⟩
    have eb : bndOf (valAt ns) p = some (none, highOf (valAt ns) p) := by unfold bndOf; rw [e1]
    exact ⟨_, rfl, _, rfl, (by show 2 ≤ sizeLine; decide), pair _ _ eb⟩
  | some lo =>
    refine ⟨_, rfl, rfl, _, rfl, iteT ?_⟩
    cases e2 : highOf (valAt ns) p with
    | none =>
      refine ⟨_, rfl, rfl, _, rfl, iteF (iteF ?_)⟩
      have eb : bndOf (valAt ns) p = some (some lo, none) := by unfold bndOf; rw [e1, e2]
      exact ⟨_, rfl, _, rfl, (by show 2 ≤ sizeLine; decide), pair _ _ eb⟩
    | some hi =>
      have eb : bndOf (valAt ns) p = if lo ≥ hi then none else some (some lo, some hi) := by unfold bndOf; rw [e1, e2]
      refine ⟨_, rfl, rfl, _, rfl, iteT ⟨_, rfl, _, rfl, _, _, rfl, rfl, _, rfl, ite2 (fun c => ?_) (fun c => ?_)⟩⟩
      · rw [if_pos (of_decide_eq_true c)] at eb
        exact q _ .non s1 (by rw [eb]; rfl)
      · rw [if_neg (fun z => c (decide_eq_true z))] at eb
        exact ⟨_, rfl, _, rfl, (by show 2 ≤ sizeLine; decide), pair _ _ eb⟩
end
end HSP
namespace HSP
open PySem PySem.Spec PyProof.Rows L2
/-- the label of a node -/
def labAt (g : Nat → Int) (t : Tr) (i : Nat) : Lb := lbOf (bndOf g (pOf t 0 i)) (g i)
def labsV (g : Nat → Int) (t : Tr) (n : Nat) : List V := (List.range n).map fun i => V.str (labAt g t i).str
theorem labsV_len (g : Nat → Int) (t : Tr) (n : Nat) : (labsV g t n).length = n := by
  unfold labsV
  rw [List.length_map, List.length_range]
theorem labsV_more (g : Nat → Int) (t : Tr) (n : Nat) : labsV g t (n + 1) = labsV g t n ++ [V.str (labAt g t n).str] := by
  unfold labsV
  rw [List.range_succ, List.map_append]
  rfl
/-- the nodes that are found -/
def foundOf (g : Nat → Int) (t : Tr) (n : Nat) : List Nat := (List.range n).filter fun i => labAt g t i == .found
theorem foundOf_more (g : Nat → Int) (t : Tr) (n : Nat) : foundOf g t (n + 1) = foundOf g t n ++ if labAt g t n == .found then [n] else [] := by
  unfold foundOf
  rw [List.range_succ, List.filter_append]
  congr 1
  unfold List.filter
  cases labAt g t n == .found <;> rfl
theorem foundOf_len (g : Nat → Int) (t : Tr) (n : Nat) : (foundOf g t n).length ≤ n := by
  have h := List.length_filter_le (fun i => labAt g t i == .found) (List.range n)
  rw [List.length_range] at h
  exact h
section
variable {P : Program} {w : World} {K : PySem.W.Frag} {mg : Str → Option Value} {base : Heap}
/-! ### labels_of -/
theorem sc_labelsOf : FnScope n_labels_of ["tree", "values"] (defScope s_labels_of) := ⟨rfl, rfl, rfl, by decide +kernel, rfl, by decide +kernel, by decide +kernel⟩
def spLabels : Sp := fun vs H Q _ => ∃ (v : V) (t : Tr) (a : Addr) (ns : List Int), vs = [v, .ref a] ∧ TrAt H v t ∧ t.size ≤ 300 ∧ H a = some (.lst (ns.map V.int)) ∧ ns.length = t.size ∧ ∀ (H' : Hp) (q : Addr), Same H H' → H q = none → H' q = some (.lst (labsV (valAt ns) t t.size)) → Q (.ref q) H'
theorem ok_labelsOf (B : Bl mg) (Pa : Df P w K mg base "paths_of" 3 ["tree"] spPaths) (Bo : Df P w K mg base "bounds_below" 1 ["values", "above"] spBounds) (La : Df P w K mg base "label_of" 1 ["bounds", "value"] spLabel) (a : At K mg "labels_of" s_labels_of) :
    Df P w K mg base "labels_of" 4 ["tree", "values"] spLabels := by
  refine Df.mk' a sc_labelsOf (fun vs H Q E h => ?_) (fun _ _ _ _ _ _ us hl => match us, hl with | [_, _], _ => rfl) (fun f cdv A outer s H vs Q E hr h => ?_)
  · obtain ⟨v, t, a, ns, rfl, _⟩ := h
    rfl
  obtain ⟨v, t, a, ns, rfl, ht, hz, ha, hn, q⟩ := h
  refine ⟨_, (pss_cons (ps_set (i := 2) sc_labelsOf.nd rfl (.inl rfl) (pe_df Pa hr (pa_cons (pv 0) pa_nil)))
 (pss_one (ps_ret (pe_lc (own := [("way", 3), ("value", 4)]) (g := (gTup K 2 (gCons (gName 3) (gCons (gName 4) gNil)))) (tt := tYes) (by rfl) sc_labelsOf.nd (pi_zip (by rfl) B.zip (pa_cons (pv 2) (pa_cons (pv 1) pa_nil))) (blkOk_by (N := n_labels_of) (sc := defScope s_labels_of) (by decide +kernel)) (fun _ _ _ _ _ => (pg_tup rfl (pgs_cons (pg_name (i := 3) sc_labelsOf.nd rfl (.inl rfl)) (pgs_cons (pg_name (i := 4) sc_labelsOf.nd rfl (.inl rfl)) pgs_nil)))) (fun _ _ _ _ _ => pts_nil) (fun _ _ _ _ _ => (pe_df La (hr.mono (by decide)) (pa_cons (pe_df Bo (hr.mono (by decide)) (pa_cons (pv 1) (pa_cons (pv 3) pa_nil))) (pa_cons (pv 4) pa_nil)))))))), ?_⟩
  refine ⟨v, rfl, v, t, rfl, ht, hz, fun H1 q0 s1 _ ⟨rows, er, lr, hp⟩ => ?_⟩
  refine ⟨_, rfl, _, rfl, q0, a, _, _, rfl, .of er, .of (s1 _ _ ha), fun D hD => ?_⟩
  have many : t.size = min (rows.map V.ref).length (ns.map V.int).length := by
    rw [List.length_map, List.length_map]
    omega
  refine lc_it (walk_zip (K := K) (a := q0) (b := a) (xs := rows.map V.ref) (ys := ns.map V.int) many) (fun i H' => Same H1 H' ∧ H' D = some (.lst (labsV (valAt ns) t i))) ⟨Same.new hD, upd_same⟩ (fun i H3 _ h3 => ⟨.of (h3.1 _ _ er), .of (h3.1 _ _ (s1 _ _ ha))⟩) (fun i x H3 H4 hi h3 hy => ?_) (fun H3 h3 => ?_)
  · obtain ⟨s3, e3⟩ := h3
    obtain ⟨T, x1, x2, rfl, nT, rfl, g1, g2⟩ := hy
    have i1 : i < rows.length := by omega
    have i2 : i < ns.length := by omega
    have w1 : (rows.map V.ref)[i]? = some (.ref rows[i]) := by rw [List.getElem?_map, List.getElem?_eq_getElem i1]; rfl
    cases w1.symm.trans g1
    cases (valAt_get i2).symm.trans g2
    have sT := Same.new (o := .tup [V.ref rows[i], V.int (valAt ns i)]) nT
    have pa := hp i rows[i] (List.getElem?_eq_getElem i1)
    refine ⟨T, _, rfl, .of upd_same, rfl, _, _, rfl, _, [], rfl, rfl, rfl, ?_⟩
    refine ⟨_, rfl, _, rfl, a, rows[i], ns, pOf t 0 i, rfl, sT _ _ (s3 _ _ (s1 _ _ ha)), (pa.same s3).same sT, ?_, fun z hz2 => ?_, fun H5 vb s5 hb => ?_⟩
    · have := pOf_len t 0 i
      omega
    · have := pOf_in t 0 i z hz2
      omega
    · refine ⟨_, rfl, vb, _, _, rfl, hb, _, s5 _ _ (sT _ _ e3), ?_, fun b o e => ?_, ?_⟩
      · rw [labsV_len]
        exact small1000 (by omega)
      · rw [upd_ne (ne_of_none e hD)]
        exact s5 _ _ (sT _ _ (s3 _ _ e))
      · rw [upd_same, labsV_more]
        rfl
  · obtain ⟨s3, e3⟩ := h3
    exact q H3 D (s1.trans s3) (s1.free hD) e3
end
end HSP
namespace HSP
open PySem PySem.Spec PyProof.Rows L2
/-! ## x in (d1, d2, ..), data of any depth -/
section
variable {X : Cx}
def rInTD (K : PySem.W.Frag) : R2 := fun x y H Q => ∃ d ds, Dp K H x d ∧ Dp K H y (.tuple ds) ∧ SeqAt.shaped d = true ∧ SeqAt.shaped (.tuple ds) = true ∧ Q (.bl (ds.any fun z => PyData.eqv z d)) H
theorem op_inTD (hu : X.A.units + 65 < cLine) : OpR X (compareOp .In) (rInTD X.K) := by
  intro pins s σ H x y v u Q I rx ry h
  obtain ⟨d, ds, hd, he, sd, se, q⟩ := h
  obtain ⟨as, r1⟩ := Dp.reads I d x v hd rx
  obtain ⟨bs, r2⟩ := Dp.reads I (.tuple ds) y u he ry
  exact SeqAt.in_tuple_reads r2 r1 (SeqAt.canLay_of_shaped se) (SeqAt.canLay_of_shaped sd) (room_in_shaped sd hu) ⟨.bl _, H, I, rfl, q⟩
end
/-- (label, side) is a pair that kills -/
def kills (l : Str) (b : Bool) : Bool := if b = true then decide (l = ("high" : Str)) else decide (l = ("low" : Str))
def sideS (b : Bool) : Str := if b = true then "right" else "left"
def pairD (l : Str) (b : Bool) : PyData := .tuple [.str l, .str (sideS b)]
def killsD : PyData := .tuple [.tuple [.str "low", .str "left"], .tuple [.str "high", .str "right"]]
theorem kill_any (l : Str) (b : Bool) : ([PyData.tuple [.str "low", .str "left"], .tuple [.str "high", .str "right"]].any fun z => PyData.eqv z (pairD l b)) = kills l b := by
  unfold pairD
  simp only [List.any_cons, List.any_nil, PyData.eqv, PyData.eqvAll, Bool.or_false, Bool.and_true]
  cases b
  · have e1 : (("left" : Str) == sideS false) = true := by decide +kernel
    have e2 : (("right" : Str) == sideS false) = false := by decide +kernel
    rw [e1, e2]
    unfold kills
    rw [if_neg Bool.false_ne_true]
    by_cases c : l = ("low" : Str)
    · rw [c]; decide +kernel
    · rw [decide_eq_false c]
      have : (("low" : Str) == l) = false := beq_eq_false_iff_ne.mpr (Ne.symm c)
      rw [this]
      simp
  · have e1 : (("left" : Str) == sideS true) = false := by decide +kernel
    have e2 : (("right" : Str) == sideS true) = true := by decide +kernel
    rw [e1, e2]
    unfold kills
    rw [if_pos rfl]
    by_cases c : l = ("high" : Str)
    · rw [c]; decide +kernel
    · rw [decide_eq_false c]
      have : (("high" : Str) == l) = false := beq_eq_false_iff_ne.mpr (Ne.symm c)
      rw [this]
      simp
theorem pair_shaped {l : Str} (b : Bool) (h : PyData.strOk l = true) : SeqAt.shaped (pairD l b) = true := by
  unfold SeqAt.shaped pairD
  rw [Bool.and_eq_true]
  have hb : PyData.strOk (sideS b) = true := by cases b <;> decide +kernel
  refine ⟨by simp only [PyData.canLay0, PyData.canLayAll0, h, hb, Bool.and_self], decide_eq_true ?_⟩
  simp only [PyData.depth, PyData.depthAll]
  omega
theorem kills_shaped : SeqAt.shaped killsD = true := by decide +kernel
end HSP
namespace HSP
open PySem PySem.Spec PyProof.Rows L2
/-! ## the representative: the mathematics -/
/-- the bounds along a path -/
def stOf (g : Nat → Int) : Option Int → Option Int → List (Nat × Bool) → Option Int × Option Int
  | lo, hi, [] => (lo, hi)
  | lo, hi, (n, true) :: r => stOf g (some (clamp lo hi (g n))) hi r
  | lo, hi, (n, false) :: r => stOf g lo (some (clamp lo hi (g n))) r
theorem stOf_snoc (g : Nat → Int) : ∀ (p : List (Nat × Bool)) (lo hi : Option Int) (n : Nat) (b : Bool), stOf g lo hi (p ++ [(n, b)]) =
    if b = true then (some (clamp (stOf g lo hi p).1 (stOf g lo hi p).2 (g n)), (stOf g lo hi p).2) else ((stOf g lo hi p).1, some (clamp (stOf g lo hi p).1 (stOf g lo hi p).2 (g n)))
  | [], lo, hi, n, true => rfl
  | [], lo, hi, n, false => rfl
  | (m, true) :: r, lo, hi, n, b => stOf_snoc g r _ _ n b
  | (m, false) :: r, lo, hi, n, b => stOf_snoc g r _ _ n b
/-- the value at a node -/
def repAt (g : Nat → Int) (p : List (Nat × Bool)) (i : Nat) : Int := clamp (stOf g none none p).1 (stOf g none none p).2 (g i)
theorem repOf_at (g : Nat → Int) : ∀ (t : Tr) (f : Nat) (lo hi : Option Int) (i : Nat), f ≤ i → i < f + t.size → (repOf g t f lo hi)[i - f]? = some (clamp (stOf g lo hi (pOf t f i)).1 (stOf g lo hi (pOf t f i)).2 (g i))
  | .nil, f, _, _, i, h1, h2 => by
    have : Tr.nil.size = 0 := rfl
    omega
  | .nod l r, f, lo, hi, i, h1, h2 => by
    rw [size_nod] at h2
    rw [repOf_nod, pOf_nod]
    have ll := repOf_len g l f lo (some (clamp lo hi (g (f + l.size))))
    by_cases c : i = f + l.size
    · rw [if_pos c, List.getElem?_append_right (by omega), ll, c, show f + l.size - f - l.size = 0 by omega]
      rfl
    · rw [if_neg c]
      by_cases d : i < f + l.size
      · rw [if_pos d, List.getElem?_append_left (by omega)]
        exact repOf_at g l f lo _ i h1 d
      · rw [if_neg d, List.getElem?_append_right (by omega), ll, show i - f - l.size = (i - (f + l.size + 1)) + 1 by omega, List.getElem?_cons_succ]
        exact repOf_at g r (f + l.size + 1) _ hi i (by omega) (by omega)
theorem rep_get (g : Nat → Int) (t : Tr) {i : Nat} (h : i < t.size) : (repOf g t 0 none none)[i]? = some (repAt g (pOf t 0 i) i) := by
  have := repOf_at g t 0 none none i (Nat.zero_le _) (by omega)
  rw [Nat.sub_zero] at this
  exact this
/-! ### greater values -/
def optLe : Option Int → Option Int → Prop
  | some a, some b => a ≤ b
  | none, none => True
  | _, _ => False
theorem clamp_mono {lo hi lo' hi' : Option Int} {v v' : Int} (h1 : optLe lo lo') (h2 : optLe hi hi') (h3 : v ≤ v') (k : ∀ l h, lo' = some l → hi' = some h → l ≤ h) : clamp lo hi v ≤ clamp lo' hi' v' := by
  cases lo with
  | none => cases lo' with
    | some _ => exact h1.elim
    | none => cases hi with
      | none => cases hi' with
        | some _ => exact h2.elim
        | none => exact h3
      | some a => cases hi' with
        | none => exact h2.elim
        | some b =>
          have h2 : a ≤ b := h2
          show (if v ≥ a then a else v) ≤ if v' ≥ b then b else v'
          split <;> split <;> omega
  | some a => cases lo' with
    | none => exact h1.elim
    | some b =>
      have h1 : a ≤ b := h1
      cases hi with
      | none => cases hi' with
        | some _ => exact h2.elim
        | none =>
          show (if v ≤ a then a else v) ≤ if v' ≤ b then b else v'
          split <;> split <;> omega
      | some c => cases hi' with
        | none => exact h2.elim
        | some d =>
          have h2 : c ≤ d := h2
          have k := k b d rfl rfl
          show (if v ≤ a then a else if v ≥ c then c else v) ≤ if v' ≤ b then b else if v' ≥ d then d else v'
          split <;> split <;> (try split) <;> (try split) <;> omega
theorem rep_mono {g g' : Nat → Int} (n : Nat) (hg : ∀ i, i < n → g i ≤ g' i) : ∀ (t : Tr) (f : Nat) (lo hi lo' hi' : Option Int), f + t.size ≤ n → optLe lo lo' → optLe hi hi' → Straight lo' hi' → ∀ (i : Nat) (x y : Int), (repOf g t f lo hi)[i]? = some x → (repOf g' t f lo' hi')[i]? = some y → x ≤ y
  | .nil, _, _, _, _, _, _, _, _, _, i, x, y, h, _ => by cases h
  | .nod l r, f, lo, hi, lo', hi', hn, h1, h2, s, i, x, y, hx, hy => by
    rw [size_nod] at hn
    have hc := clamp_mono h1 h2 (hg (f + l.size) (by omega)) s
    obtain ⟨s1, s2⟩ := clamp_in s (g' (f + l.size))
    rw [repOf_nod] at hx hy
    have l1 := repOf_len g l f lo (some (clamp lo hi (g (f + l.size))))
    have l2 := repOf_len g' l f lo' (some (clamp lo' hi' (g' (f + l.size))))
    by_cases c : i < l.size
    · rw [List.getElem?_append_left (by omega)] at hx hy
      exact rep_mono n hg l f lo _ lo' _ (by omega) h1 (show optLe (some _) (some _) from hc) s1 i x y hx hy
    · rw [List.getElem?_append_right (by omega), l1] at hx
      rw [List.getElem?_append_right (by omega), l2] at hy
      cases e : i - l.size with
      | zero =>
        rw [e] at hx hy
        cases hx
        cases hy
        exact hc
      | succ j =>
        rw [e] at hx hy
        exact rep_mono n hg r (f + l.size + 1) _ hi _ hi' (by omega) (show optLe (some _) (some _) from hc) h2 s2 j x y hx hy
theorem clamp_add (lo hi : Option Int) (v d : Int) : clamp (lo.map (· + d)) (hi.map (· + d)) (v + d) = clamp lo hi v + d := by
  cases lo with
  | none => cases hi with
    | none => rfl
    | some h => show (if v + d ≥ h + d then h + d else v + d) = (if v ≥ h then h else v) + d; split <;> split <;> omega
  | some l => cases hi with
    | none => show (if v + d ≤ l + d then l + d else v + d) = (if v ≤ l then l else v) + d; split <;> split <;> omega
    | some h =>
      show (if v + d ≤ l + d then l + d else if v + d ≥ h + d then h + d else v + d) = (if v ≤ l then l else if v ≥ h then h else v) + d
      split <;> split <;> (try split) <;> (try split) <;> omega
theorem rep_add {g g' : Nat → Int} (d : Int) (n : Nat) (hg : ∀ i, i < n → g' i = g i + d) : ∀ (t : Tr) (f : Nat) (lo hi : Option Int), f + t.size ≤ n → repOf g' t f (lo.map (· + d)) (hi.map (· + d)) = (repOf g t f lo hi).map (· + d)
  | .nil, _, _, _, _ => rfl
  | .nod l r, f, lo, hi, hn => by
    rw [size_nod] at hn
    rw [repOf_nod, repOf_nod, hg _ (by omega), clamp_add, List.map_append, List.map_cons]
    rw [← rep_add d n hg l f lo (some (clamp lo hi (g (f + l.size)))) (by omega), ← rep_add d n hg r (f + l.size + 1) (some (clamp lo hi (g (f + l.size)))) hi (by omega)]
    rfl
/-! ### the labels along a path -/
theorem low_snoc (g : Nat → Int) : ∀ (p : List (Nat × Bool)) (n : Nat) (b : Bool), lowOf g (p ++ [(n, b)]) = if b = true then (match lowOf g p with | none => some (g n) | some m => some (max m (g n))) else lowOf g p
  | [], n, true => rfl
  | [], n, false => rfl
  | (k, false) :: r, n, b => low_snoc g r n b
  | (k, true) :: r, n, b => by
    have e : ∀ q, lowOf g ((k, true) :: q) = match lowOf g q with | none => some (g k) | some m => some (max (g k) m) := fun q => rfl
    rw [List.cons_append, e, e, low_snoc g r n b]
    cases b with
    | false => rfl
    | true =>
      rw [if_pos rfl, if_pos rfl]
      cases lowOf g r with
      | none => rfl
      | some m => exact congrArg some (by omega)
theorem high_snoc (g : Nat → Int) : ∀ (p : List (Nat × Bool)) (n : Nat) (b : Bool), highOf g (p ++ [(n, b)]) = if b = true then highOf g p else (match highOf g p with | none => some (g n) | some m => some (min m (g n)))
  | [], n, true => rfl
  | [], n, false => rfl
  | (k, true) :: r, n, b => high_snoc g r n b
  | (k, false) :: r, n, b => by
    have e : ∀ q, highOf g ((k, false) :: q) = match highOf g q with | none => some (g k) | some m => some (min (g k) m) := fun q => rfl
    rw [List.cons_append, e, e, high_snoc g r n b]
    cases b with
    | true => rfl
    | false =>
      rw [if_neg Bool.false_ne_true, if_neg Bool.false_ne_true]
      cases highOf g r with
      | none => rfl
      | some m => exact congrArg some (by omega)
/-- the first one above that kills -/
def killerOf (lab : Nat → Str) : List (Nat × Bool) → Option Nat
  | [] => none
  | (n, b) :: r => if kills (lab n) b = true then some n else killerOf lab r
/-- the nearest one above, found, on this side -/
def boundOf (lab : Nat → Str) (c : Bool) : List (Nat × Bool) → Option Nat → Option Nat
  | [], z => z
  | (n, b) :: r, z => boundOf lab c r (if b = c ∧ lab n = ("found" : Str) then some n else z)
theorem killerOf_snoc (lab : Nat → Str) : ∀ (p : List (Nat × Bool)) (n : Nat) (b : Bool), killerOf lab (p ++ [(n, b)]) = match killerOf lab p with | some k => some k | none => if kills (lab n) b = true then some n else none
  | [], n, b => rfl
  | (m, c) :: r, n, b => by
    show (if kills (lab m) c = true then some m else killerOf lab (r ++ [(n, b)])) = match (if kills (lab m) c = true then some m else killerOf lab r) with | some k => some k | none => _
    by_cases h : kills (lab m) c = true
    · rw [if_pos h, if_pos h]
    · rw [if_neg h, if_neg h]
      exact killerOf_snoc lab r n b
theorem boundOf_snoc (lab : Nat → Str) (c : Bool) : ∀ (p : List (Nat × Bool)) (z : Option Nat) (n : Nat) (b : Bool), boundOf lab c (p ++ [(n, b)]) z = if b = c ∧ lab n = ("found" : Str) then some n else boundOf lab c p z
  | [], _, _, _ => rfl
  | (_, _) :: r, _, n, b => boundOf_snoc lab c r _ n b
theorem killerOf_mem {lab : Nat → Str} : ∀ {p : List (Nat × Bool)} {k : Nat}, killerOf lab p = some k → ∃ b, (k, b) ∈ p
  | [], _, h => by cases h
  | (n, b) :: r, k, h => by
    have h : (if kills (lab n) b = true then some n else killerOf lab r) = some k := h
    by_cases c : kills (lab n) b = true
    · rw [if_pos c] at h
      cases h
      exact ⟨b, List.mem_cons_self⟩
    · rw [if_neg c] at h
      obtain ⟨b', hb⟩ := killerOf_mem h
      exact ⟨b', List.mem_cons_of_mem _ hb⟩
theorem str_low : ∀ l : Lb, (l.str = ("low" : Str)) ↔ l = .low := fun l => by cases l <;> exact ⟨fun h => by first | rfl | exact absurd h (by decide +kernel), fun h => by first | rfl | exact absurd h (by decide)⟩
theorem str_high : ∀ l : Lb, (l.str = ("high" : Str)) ↔ l = .high := fun l => by cases l <;> exact ⟨fun h => by first | rfl | exact absurd h (by decide +kernel), fun h => by first | rfl | exact absurd h (by decide)⟩
theorem str_found : ∀ l : Lb, (l.str = ("found" : Str)) ↔ l = .found := fun l => by cases l <;> exact ⟨fun h => by first | rfl | exact absurd h (by decide +kernel), fun h => by first | rfl | exact absurd h (by decide)⟩
theorem str_dead : ∀ l : Lb, (l.str = ("dead" : Str)) ↔ l = .dead := fun l => by cases l <;> exact ⟨fun h => by first | rfl | exact absurd h (by decide +kernel), fun h => by first | rfl | exact absurd h (by decide)⟩
theorem kills_lb (l : Lb) (b : Bool) : kills l.str b = if b = true then decide (l = .high) else decide (l = .low) := by
  cases b
  · show decide (l.str = ("low" : Str)) = decide (l = .low)
    exact decide_eq_decide.mpr (str_low l)
  · show decide (l.str = ("high" : Str)) = decide (l = .high)
    exact decide_eq_decide.mpr (str_high l)
/-- the labels of the ancestors on a path -/
def Told (g : Nat → Int) (lab : Nat → Lb) (p : List (Nat × Bool)) : Prop := ∀ q n b r, p = q ++ (n, b) :: r → lab n = lbOf (bndOf g q) (g n)
theorem Told.init {g : Nat → Int} {lab : Nat → Lb} {p : List (Nat × Bool)} {z : Nat × Bool} (h : Told g lab (p ++ [z])) : Told g lab p := fun q n b r e => h q n b (r ++ [z]) (by rw [e, List.append_assoc]; rfl)
theorem Told.last {g : Nat → Int} {lab : Nat → Lb} {p : List (Nat × Bool)} {n : Nat} {b : Bool} (h : Told g lab (p ++ [(n, b)])) : lab n = lbOf (bndOf g p) (g n) := h p n b [] rfl
/-- what is true along a path -/
def AliveAt (g : Nat → Int) (lab : Nat → Lb) (p : List (Nat × Bool)) : Prop := bndOf g p = some (stOf g none none p) ∧ killerOf (fun n => (lab n).str) p = none ∧
    (∀ l h, (stOf g none none p).1 = some l → (stOf g none none p).2 = some h → l < h) ∧
    (∀ l, (stOf g none none p).1 = some l → ∃ n b, boundOf (fun n => (lab n).str) true p none = some n ∧ (n, b) ∈ p ∧ lab n = .found ∧ g n = l) ∧
    (∀ h, (stOf g none none p).2 = some h → ∃ n b, boundOf (fun n => (lab n).str) false p none = some n ∧ (n, b) ∈ p ∧ lab n = .found ∧ g n = h)
def DeadAt (g : Nat → Int) (lab : Nat → Lb) (p : List (Nat × Bool)) : Prop := bndOf g p = none ∧ ∃ x k q b r, stOf g none none p = (some x, some x) ∧ killerOf (fun n => (lab n).str) p = some k ∧ p = q ++ (k, b) :: r ∧ bndOf g q ≠ none ∧ repAt g q k = x
def Crossed (lo hi : Option Int) : Prop := ∃ a b, lo = some a ∧ hi = some b ∧ b ≤ a
theorem bnd_dead {g : Nat → Int} {p : List (Nat × Bool)} (h : Crossed (lowOf g p) (highOf g p)) : bndOf g p = none := by
  obtain ⟨a, b, e1, e2, le⟩ := h
  unfold bndOf
  rw [e1, e2]
  exact if_pos le
theorem bnd_alive {g : Nat → Int} {p : List (Nat × Bool)} (h : ¬ Crossed (lowOf g p) (highOf g p)) : bndOf g p = some (lowOf g p, highOf g p) := by
  unfold bndOf
  cases e1 : lowOf g p with
  | none => rfl
  | some a => cases e2 : highOf g p with
    | none => rfl
    | some b =>
      show (if a ≥ b then none else some (some a, some b)) = _
      exact if_neg fun c => h ⟨a, b, e1, e2, c⟩
theorem bndOf_some {g : Nat → Int} {p : List (Nat × Bool)} {lo hi : Option Int} (h : bndOf g p = some (lo, hi)) : lowOf g p = lo ∧ highOf g p = hi := by
  by_cases c : Crossed (lowOf g p) (highOf g p)
  · rw [bnd_dead c] at h
    cases h
  · rw [bnd_alive c] at h
    cases h
    exact ⟨rfl, rfl⟩
theorem bndOf_none {g : Nat → Int} {p : List (Nat × Bool)} (h : bndOf g p = none) : Crossed (lowOf g p) (highOf g p) := by
  by_cases c : Crossed (lowOf g p) (highOf g p)
  · exact c
  · rw [bnd_alive c] at h
    cases h
/-- a label, where the interval is not empty -/
theorem lb_cases (lo hi : Option Int) (v : Int) (s : ∀ l h, lo = some l → hi = some h → l < h) : (lbOf (some (lo, hi)) v = .found ∧ clamp lo hi v = v ∧ (∀ l, lo = some l → l < v) ∧ ∀ b, hi = some b → v < b) ∨
    (lbOf (some (lo, hi)) v = .low ∧ ∃ l, lo = some l ∧ v ≤ l ∧ clamp lo hi v = l) ∨ (lbOf (some (lo, hi)) v = .high ∧ ∃ b, hi = some b ∧ b ≤ v ∧ clamp lo hi v = b) := by
  cases lo with
  | none => cases hi with
    | none => exact .inl ⟨rfl, rfl, fun _ e => (by cases e), fun _ e => (by cases e)⟩
    | some b =>
      by_cases c : v ≥ b
      · exact .inr (.inr ⟨(if_pos c : (if v ≥ b then Lb.high else .found) = .high), b, rfl, c, (if_pos c : (if v ≥ b then b else v) = b)⟩)
      · exact .inl ⟨(if_neg c : (if v ≥ b then Lb.high else .found) = .found), (if_neg c : (if v ≥ b then b else v) = v), fun _ e => (by cases e), fun _ e => (by cases e; omega)⟩
  | some l =>
    by_cases c : v ≤ l
    · exact .inr (.inl ⟨by unfold lbOf; exact if_pos c, l, rfl, c, by unfold clamp; exact if_pos c⟩)
    · cases hi with
      | none => exact .inl ⟨(if_neg c : (if v ≤ l then Lb.low else .found) = .found), (if_neg c : (if v ≤ l then l else v) = v), fun _ e => (by cases e; omega), fun _ e => (by cases e)⟩
      | some b =>
        have lt := s l b rfl rfl
        have e1 : lbOf (some (some l, some b)) v = if v ≤ l then .low else if v ≥ b then .high else .found := rfl
        have e2 : clamp (some l) (some b) v = if v ≤ l then l else if v ≥ b then b else v := rfl
        rw [e1, e2, if_neg c, if_neg c]
        by_cases d : v ≥ b
        · rw [if_pos d, if_pos d]
          exact .inr (.inr ⟨rfl, b, rfl, d, rfl⟩)
        · rw [if_neg d, if_neg d]
          exact .inl ⟨rfl, rfl, fun _ e => (by cases e; omega), fun _ e => (by cases e; omega)⟩
theorem clamp_same (x v : Int) : clamp (some x) (some x) v = x := by
  show (if v ≤ x then x else if v ≥ x then x else v) = x
  split
  · rfl
  · rw [if_pos (by omega)]
end HSP
namespace HSP
open PySem PySem.Spec PyProof.Rows L2
theorem units65 {k : Nat} {A : Around} (r : Room k A) : A.units + 65 < cLine := by have := r.un; omega
theorem path_ind {α : Type} {C : List α → Prop} (h0 : C []) (h1 : ∀ q z, C q → C (q ++ [z])) : ∀ (n : Nat) (p : List α), p.length = n → C p
  | 0, p, h => by rw [List.length_eq_zero_iff.mp h]; exact h0
  | n + 1, p, h => by
    rcases List.eq_nil_or_concat p with e | ⟨q, z, e⟩
    · rw [e]; exact h0
    · rw [e, List.concat_eq_append]
      refine h1 q z (path_ind h0 h1 n q ?_)
      rw [e, List.concat_eq_append, List.length_append, List.length_singleton] at h
      omega
theorem along (g : Nat → Int) (lab : Nat → Lb) (p : List (Nat × Bool)) (h : Told g lab p) : AliveAt g lab p ∨ DeadAt g lab p := by
  refine path_ind (C := fun p => Told g lab p → AliveAt g lab p ∨ DeadAt g lab p) (fun _ => .inl ⟨rfl, rfl, fun l h e => (by cases e), fun l e => (by cases e), fun l e => (by cases e)⟩) (fun q z ih ht => ?_) p.length p rfl h
  obtain ⟨n, b⟩ := z
  have hl := ht.last
  rcases ih ht.init with ⟨ab, ak, as_, a1, a2⟩ | ⟨db, x, k, q1, c, r, ds, dk, dp, dq, dr⟩
  · rcases hst : stOf g none none q with ⟨lo, hi⟩
    rw [hst] at ab as_ a1 a2
    obtain ⟨el, eh⟩ := bndOf_some ab
    rw [ab] at hl
    have st := stOf_snoc g q none none n b
    rw [hst] at st
    have lsn := low_snoc g q n b
    have hsn := high_snoc g q n b
    rw [el] at lsn
    rw [eh] at hsn
    have ksn := killerOf_snoc (fun n => (lab n).str) q n b
    rw [ak] at ksn
    have k2 : killerOf (fun n => (lab n).str) (q ++ [(n, b)]) = if kills (lab n).str b = true then some n else none := ksn
    rw [kills_lb] at k2
    have bT := boundOf_snoc (fun n => (lab n).str) true q none n b
    have bF := boundOf_snoc (fun n => (lab n).str) false q none n b
    have memq : ∀ {m : Nat} {c : Bool}, (m, c) ∈ q → (m, c) ∈ q ++ [(n, b)] := fun h => List.mem_append_left _ h
    have memn : (n, b) ∈ q ++ [(n, b)] := List.mem_append_right _ List.mem_cons_self
    rcases lb_cases lo hi (g n) as_ with ⟨e1, e2, e3, e4⟩ | ⟨e1, l, e2, e3, e4⟩ | ⟨e1, h, e2, e3, e4⟩
    · -- found
      rw [e1] at hl
      have fs : (lab n).str = ("found" : Str) := (str_found _).mpr hl
      refine .inl ?_
      cases b with
      | true =>
        have st' : stOf g none none (q ++ [(n, true)]) = (some (g n), hi) := by
          rw [st, if_pos rfl]
          exact congrArg (fun z => (some z, hi)) e2
        have l2 : lowOf g (q ++ [(n, true)]) = some (g n) := by
          rw [lsn, if_pos rfl]
          cases lo with
          | none => rfl
          | some l => have := e3 l rfl; exact congrArg some (by omega)
        have h2 : highOf g (q ++ [(n, true)]) = hi := by rw [hsn, if_pos rfl]
        refine ⟨?_, ?_, ?_, ?_, ?_⟩
        · rw [bnd_alive (by rw [l2, h2]; exact fun ⟨a, c, f1, f2, f3⟩ => (by cases f1; have := e4 c f2; omega)), l2, h2, st']
        · rw [k2, hl]
          rfl
        · rw [st']
          exact fun l h f1 f2 => (by cases f1; exact e4 h f2)
        · rw [st']
          intro l f1
          cases f1
          refine ⟨n, true, ?_, memn, hl, rfl⟩
          rw [bT, if_pos ⟨rfl, fs⟩]
        · rw [st']
          intro h f1
          obtain ⟨m, c, g1, g2, g3, g4⟩ := a2 h f1
          refine ⟨m, c, ?_, memq g2, g3, g4⟩
          rw [bF, if_neg (fun z => by cases z.1)]
          exact g1
      | false =>
        have st' : stOf g none none (q ++ [(n, false)]) = (lo, some (g n)) := by
          rw [st, if_neg Bool.false_ne_true]
          exact congrArg (fun z => (lo, some z)) e2
        have l2 : lowOf g (q ++ [(n, false)]) = lo := by rw [lsn, if_neg Bool.false_ne_true]
        have h2 : highOf g (q ++ [(n, false)]) = some (g n) := by
          rw [hsn, if_neg Bool.false_ne_true]
          cases hi with
          | none => rfl
          | some l => have := e4 l rfl; exact congrArg some (by omega)
        refine ⟨?_, ?_, ?_, ?_, ?_⟩
        · rw [bnd_alive (by rw [l2, h2]; exact fun ⟨a, c, f1, f2, f3⟩ => (by cases f2; have := e3 a f1; omega)), l2, h2, st']
        · rw [k2, hl]
          rfl
        · rw [st']
          exact fun l h f1 f2 => (by cases f2; exact e3 l f1)
        · rw [st']
          intro l f1
          obtain ⟨m, c, g1, g2, g3, g4⟩ := a1 l f1
          refine ⟨m, c, ?_, memq g2, g3, g4⟩
          rw [bT, if_neg (fun z => by cases z.1)]
          exact g1
        · rw [st']
          intro h f1
          cases f1
          refine ⟨n, false, ?_, memn, hl, rfl⟩
          rw [bF, if_pos ⟨rfl, fs⟩]
    · -- low
      rw [e1] at hl
      have nf : ¬ (lab n).str = ("found" : Str) := fun z => by have := (str_found _).mp z; rw [hl] at this; cases this
      subst e2
      cases b with
      | true =>
        refine .inl ?_
        have st' : stOf g none none (q ++ [(n, true)]) = (some l, hi) := by
          rw [st, if_pos rfl]
          exact congrArg (fun z => (some z, hi)) e4
        have l2 : lowOf g (q ++ [(n, true)]) = some l := by
          rw [lsn, if_pos rfl]
          exact congrArg some (by omega)
        have h2 : highOf g (q ++ [(n, true)]) = hi := by rw [hsn, if_pos rfl]
        refine ⟨?_, ?_, ?_, ?_, ?_⟩
        · rw [bnd_alive (by rw [l2, h2]; exact fun ⟨a, c, f1, f2, f3⟩ => (by cases f1; have := as_ l c rfl f2; omega)), l2, h2, st']
        · rw [k2, hl]
          rfl
        · rw [st']
          exact as_
        · rw [st']
          intro l' f1
          obtain ⟨m, c, g1, g2, g3, g4⟩ := a1 l' f1
          refine ⟨m, c, ?_, memq g2, g3, g4⟩
          rw [bT, if_neg (fun z => nf z.2)]
          exact g1
        · rw [st']
          intro h f1
          obtain ⟨m, c, g1, g2, g3, g4⟩ := a2 h f1
          refine ⟨m, c, ?_, memq g2, g3, g4⟩
          rw [bF, if_neg (fun z => nf z.2)]
          exact g1
      | false =>
        refine .inr ?_
        have st' : stOf g none none (q ++ [(n, false)]) = (some l, some l) := by
          rw [st, if_neg Bool.false_ne_true]
          exact congrArg (fun z => (some l, some z)) e4
        have l2 : lowOf g (q ++ [(n, false)]) = some l := by rw [lsn, if_neg Bool.false_ne_true]
        have h2 : ∃ c, highOf g (q ++ [(n, false)]) = some c ∧ c ≤ l := by
          rw [hsn, if_neg Bool.false_ne_true]
          cases hi with
          | none => exact ⟨_, rfl, e3⟩
          | some m => exact ⟨_, rfl, by omega⟩
        obtain ⟨c, h2, h3⟩ := h2
        refine ⟨bnd_dead ⟨l, c, l2, h2, h3⟩, l, n, q, false, [], st', ?_, rfl, ?_, ?_⟩
        · rw [k2, hl]
          rfl
        · rw [ab]
          exact fun z => by cases z
        · unfold repAt
          rw [hst]
          exact e4
    · -- high
      rw [e1] at hl
      have nf : ¬ (lab n).str = ("found" : Str) := fun z => by have := (str_found _).mp z; rw [hl] at this; cases this
      subst e2
      cases b with
      | false =>
        refine .inl ?_
        have st' : stOf g none none (q ++ [(n, false)]) = (lo, some h) := by
          rw [st, if_neg Bool.false_ne_true]
          exact congrArg (fun z => (lo, some z)) e4
        have l2 : lowOf g (q ++ [(n, false)]) = lo := by rw [lsn, if_neg Bool.false_ne_true]
        have h2 : highOf g (q ++ [(n, false)]) = some h := by
          rw [hsn, if_neg Bool.false_ne_true]
          exact congrArg some (by omega)
        refine ⟨?_, ?_, ?_, ?_, ?_⟩
        · rw [bnd_alive (by rw [l2, h2]; exact fun ⟨a, c, f1, f2, f3⟩ => (by cases f2; have := as_ a h f1 rfl; omega)), l2, h2, st']
        · rw [k2, hl]
          rfl
        · rw [st']
          exact as_
        · rw [st']
          intro l' f1
          obtain ⟨m, c, g1, g2, g3, g4⟩ := a1 l' f1
          refine ⟨m, c, ?_, memq g2, g3, g4⟩
          rw [bT, if_neg (fun z => nf z.2)]
          exact g1
        · rw [st']
          intro h f1
          obtain ⟨m, c, g1, g2, g3, g4⟩ := a2 h f1
          refine ⟨m, c, ?_, memq g2, g3, g4⟩
          rw [bF, if_neg (fun z => nf z.2)]
          exact g1
      | true =>
        refine .inr ?_
        have st' : stOf g none none (q ++ [(n, true)]) = (some h, some h) := by
          rw [st, if_pos rfl]
          exact congrArg (fun z => (some z, some h)) e4
        have h2 : highOf g (q ++ [(n, true)]) = some h := by rw [hsn, if_pos rfl]
        have l2 : ∃ c, lowOf g (q ++ [(n, true)]) = some c ∧ h ≤ c := by
          rw [lsn, if_pos rfl]
          cases lo with
          | none => exact ⟨_, rfl, e3⟩
          | some m => exact ⟨_, rfl, by omega⟩
        obtain ⟨c, l2, h3⟩ := l2
        refine ⟨bnd_dead ⟨c, h, l2, h2, h3⟩, h, n, q, true, [], st', ?_, rfl, ?_, ?_⟩
        · rw [k2, hl]
          rfl
        · rw [ab]
          exact fun z => by cases z
        · unfold repAt
          rw [hst]
          exact e4
  · refine .inr ⟨?_, x, k, q1, c, r ++ [(n, b)], ?_, ?_, ?_, dq, dr⟩
    · obtain ⟨a, d, e1, e2, le⟩ := bndOf_none db
      have lsn := low_snoc g q n b
      have hsn := high_snoc g q n b
      rw [e1] at lsn
      rw [e2] at hsn
      cases b with
      | true => exact bnd_dead ⟨_, _, lsn, hsn, by omega⟩
      | false => exact bnd_dead ⟨_, _, lsn, hsn, by omega⟩
    · rw [stOf_snoc, ds, clamp_same]
      cases b <;> rfl
    · rw [killerOf_snoc, dk]
    · rw [dp, List.append_assoc]
      rfl
/-- what stands above a node on a path is the node's own path -/
theorem pOf_split : ∀ (t : Tr) (f i : Nat) (q : List (Nat × Bool)) (n : Nat) (b : Bool) (r : List (Nat × Bool)), f ≤ i → i < f + t.size → pOf t f i = q ++ (n, b) :: r → pOf t f n = q
  | .nil, f, i, _, _, _, _, h1, h2, _ => by
    have : Tr.nil.size = 0 := rfl
    omega
  | .nod l r', f, i, q, n, b, r, h1, h2, e => by
    rw [size_nod] at h2
    rw [pOf_nod] at e ⊢
    by_cases c : i = f + l.size
    · rw [if_pos c] at e
      exact absurd e.symm (by simp)
    · rw [if_neg c] at e
      by_cases d : i < f + l.size
      · rw [if_pos d] at e
        cases q with
        | nil =>
          have e1 := List.cons.inj e
          have en := (Prod.mk.inj e1.1).1
          rw [if_pos en.symm]
        | cons y q' =>
          have e1 := List.cons.inj e
          have hn := pOf_in l f i (n, b) (by rw [e1.2]; exact List.mem_append_right _ List.mem_cons_self)
          have h3 : f ≤ n ∧ n < f + l.size := hn
          rw [if_neg (by omega), if_pos h3.2, pOf_split l f i q' n b r h1 d e1.2, e1.1]
      · rw [if_neg d] at e
        cases q with
        | nil =>
          have e1 := List.cons.inj e
          have en := (Prod.mk.inj e1.1).1
          rw [if_pos en.symm]
        | cons y q' =>
          have e1 := List.cons.inj e
          have hn := pOf_in r' (f + l.size + 1) i (n, b) (by rw [e1.2]; exact List.mem_append_right _ List.mem_cons_self)
          have h3 : f + l.size + 1 ≤ n ∧ n < f + l.size + 1 + r'.size := hn
          rw [if_neg (by omega), if_neg (by omega), pOf_split r' (f + l.size + 1) i q' n b r (by omega) (by omega) e1.2, e1.1]
theorem told_labs (g : Nat → Int) (t : Tr) {i : Nat} (h : i < t.size) : Told g (labAt g t) (pOf t 0 i) := fun q n b r e => by
  show lbOf (bndOf g (pOf t 0 n)) (g n) = _
  rw [pOf_split t 0 i q n b r (Nat.zero_le _) (by omega) e]
/-- the ancestors come before -/
theorem pre_anc : ∀ (t : Tr) (f : Nat) (p : List (Nat × Bool)) (k n : Nat) (s : List (Nat × Bool)), (pre t f p)[k]? = some (n, s) → ∀ z, z ∈ s → z ∈ p ∨ ∃ j s', j < k ∧ (pre t f p)[j]? = some (z.1, s')
  | .nil, _, _, _, _, _, h, _, _ => by cases h
  | .nod l r, f, p, k, n, s, h, z, hz => by
    rw [pre_nod] at h ⊢
    have la := pre_len l f (p ++ [(f + l.size, false)])
    cases k with
    | zero =>
      cases h
      exact .inl hz
    | succ k =>
      rw [List.getElem?_cons_succ] at h
      by_cases c : k < l.size
      · rw [List.getElem?_append_left (by omega)] at h
        rcases pre_anc l f _ k n s h z hz with q | ⟨j, s', lt, e⟩
        · rcases List.mem_append.mp q with q | q
          · exact .inl q
          · exact .inr ⟨0, p, Nat.succ_pos _, by rw [List.mem_singleton.mp q]; rfl⟩
        · refine .inr ⟨j + 1, s', Nat.succ_lt_succ lt, ?_⟩
          rw [List.getElem?_cons_succ, List.getElem?_append_left (by omega)]
          exact e
      · rw [List.getElem?_append_right (by omega), la] at h
        rcases pre_anc r _ _ (k - l.size) n s h z hz with q | ⟨j, s', lt, e⟩
        · rcases List.mem_append.mp q with q | q
          · exact .inl q
          · exact .inr ⟨0, p, Nat.succ_pos _, by rw [List.mem_singleton.mp q]; rfl⟩
        · refine .inr ⟨l.size + j + 1, s', by omega, ?_⟩
          rw [List.getElem?_cons_succ, List.getElem?_append_right (by omega), la, show l.size + j - l.size = j by omega]
          exact e
/-! ## owners -/
/-- o owns n -/
structure Owns (g : Nat → Int) (t : Tr) (n o : Nat) : Prop where
  lt : o < t.size
  found : labAt g t o = .found
  val : g o = repAt g (pOf t 0 n) n
theorem owns_found {g : Nat → Int} {t : Tr} {n : Nat} (h : n < t.size) (e : labAt g t n = .found) : Owns g t n n := by
  refine ⟨h, e, ?_⟩
  have e : lbOf (bndOf g (pOf t 0 n)) (g n) = .found := e
  rcases along g (labAt g t) _ (told_labs g t h) with ⟨ab, _, as_, _, _⟩ | ⟨db, _⟩
  · rw [ab] at e
    unfold repAt
    generalize stOf g none none (pOf t 0 n) = st at e as_ ⊢
    obtain ⟨lo, hi⟩ := st
    rcases lb_cases lo hi (g n) as_ with ⟨_, e2, _, _⟩ | ⟨e1, _⟩ | ⟨e1, _⟩
    · exact e2.symm
    · rw [e1] at e; cases e
    · rw [e1] at e; cases e
  · rw [db] at e
    cases e
theorem owns_low {g : Nat → Int} {t : Tr} {n : Nat} (h : n < t.size) (e : labAt g t n = .low) : ∃ o, boundOf (fun n => (labAt g t n).str) true (pOf t 0 n) none = some o ∧ Owns g t n o := by
  have e : lbOf (bndOf g (pOf t 0 n)) (g n) = .low := e
  rcases along g (labAt g t) _ (told_labs g t h) with ⟨ab, _, as_, a1, _⟩ | ⟨db, _⟩
  · rw [ab] at e
    have hr : repAt g (pOf t 0 n) n = clamp (stOf g none none (pOf t 0 n)).1 (stOf g none none (pOf t 0 n)).2 (g n) := rfl
    generalize stOf g none none (pOf t 0 n) = st at e as_ a1 hr
    obtain ⟨lo, hi⟩ := st
    rcases lb_cases lo hi (g n) as_ with ⟨e1, _⟩ | ⟨_, l, e2, e3, e4⟩ | ⟨e1, _⟩
    · rw [e1] at e; cases e
    · obtain ⟨o, b, g1, g2, g3, g4⟩ := a1 l e2
      exact ⟨o, g1, ⟨by have := (pOf_in t 0 n _ g2).2; omega, g3, by rw [g4, hr]; exact e4.symm⟩⟩
    · rw [e1] at e; cases e
  · rw [db] at e
    cases e
theorem owns_high {g : Nat → Int} {t : Tr} {n : Nat} (h : n < t.size) (e : labAt g t n = .high) : ∃ o, boundOf (fun n => (labAt g t n).str) false (pOf t 0 n) none = some o ∧ Owns g t n o := by
  have e : lbOf (bndOf g (pOf t 0 n)) (g n) = .high := e
  rcases along g (labAt g t) _ (told_labs g t h) with ⟨ab, _, as_, _, a2⟩ | ⟨db, _⟩
  · rw [ab] at e
    have hr : repAt g (pOf t 0 n) n = clamp (stOf g none none (pOf t 0 n)).1 (stOf g none none (pOf t 0 n)).2 (g n) := rfl
    generalize stOf g none none (pOf t 0 n) = st at e as_ a2 hr
    obtain ⟨lo, hi⟩ := st
    rcases lb_cases lo hi (g n) as_ with ⟨e1, _⟩ | ⟨e1, _⟩ | ⟨_, l, e2, e3, e4⟩
    · rw [e1] at e; cases e
    · rw [e1] at e; cases e
    · obtain ⟨o, b, g1, g2, g3, g4⟩ := a2 l e2
      exact ⟨o, g1, ⟨by have := (pOf_in t 0 n _ g2).2; omega, g3, by rw [g4, hr]; exact e4.symm⟩⟩
  · rw [db] at e
    cases e
theorem owns_dead {g : Nat → Int} {t : Tr} {n : Nat} (h : n < t.size) (e : labAt g t n = .dead) : ∃ k, killerOf (fun n => (labAt g t n).str) (pOf t 0 n) = some k ∧ (∃ b, (k, b) ∈ pOf t 0 n) ∧ ∀ o, Owns g t k o → Owns g t n o := by
  have e : lbOf (bndOf g (pOf t 0 n)) (g n) = .dead := e
  rcases along g (labAt g t) _ (told_labs g t h) with ⟨ab, _, as_, _, _⟩ | ⟨db, x, k, q, b, r, ds, dk, dp, dq, dr⟩
  · rw [ab] at e
    generalize stOf g none none (pOf t 0 n) = st at e as_
    obtain ⟨lo, hi⟩ := st
    rcases lb_cases lo hi (g n) as_ with ⟨e1, _⟩ | ⟨e1, _⟩ | ⟨e1, _⟩ <;> (rw [e1] at e; cases e)
  · refine ⟨k, dk, killerOf_mem dk, fun o ho => ⟨ho.lt, ho.found, ?_⟩⟩
    rw [ho.val, pOf_split t 0 n q k b r (Nat.zero_le _) (by omega) dp, dr]
    unfold repAt
    rw [ds, clamp_same]
end HSP
namespace HSP
open PySem PySem.Spec PyProof.Rows L2
/-! ### what is possible -/
def possAt (lab : Nat → Str) (p : List (Nat × Bool)) (i : Nat) : Bool :=
  if (killerOf lab p).isSome = true then decide (lab i = ("dead" : Str)) else if lab i = ("low" : Str) then (boundOf lab true p none).isSome else if lab i = ("high" : Str) then (boundOf lab false p none).isSome else decide (lab i = ("found" : Str))
def impOf (lab : Nat → Str) (t : Tr) : Option Nat := ((pre t 0 []).find? fun z => !possAt lab z.2 z.1).map (·.1)
theorem pOf_side : ∀ (t : Tr) (f i : Nat), f ≤ i → i < f + t.size → ∀ z, z ∈ pOf t f i → z.2 = decide (z.1 < i) ∧ z.1 ≠ i
  | .nil, _, _, _, _, z, hz => by cases hz
  | .nod l r, f, i, h1, h2, z, hz => by
    have hs : (Tr.nod l r).size = l.size + 1 + r.size := rfl
    rw [pOf_nod] at hz
    by_cases c : i = f + l.size
    · rw [if_pos c] at hz
      cases hz
    rw [if_neg c] at hz
    by_cases d : i < f + l.size
    · rw [if_pos d] at hz
      rcases List.mem_cons.mp hz with e | e
      · rw [e]
        exact ⟨(decide_eq_false (show ¬ f + l.size < i by omega)).symm, by show f + l.size ≠ i; omega⟩
      · exact pOf_side l f i h1 d z e
    · rw [if_neg d] at hz
      rcases List.mem_cons.mp hz with e | e
      · rw [e]
        exact ⟨(decide_eq_true (show f + l.size < i by omega)).symm, by show f + l.size ≠ i; omega⟩
      · exact pOf_side r (f + l.size + 1) i (by omega) (by omega) z e
theorem pOf_nodup : ∀ (t : Tr) (f i : Nat), ((pOf t f i).map (·.1)).Nodup
  | .nil, _, _ => List.nodup_nil
  | .nod l r, f, i => by
    rw [pOf_nod]
    by_cases c : i = f + l.size
    · rw [if_pos c]
      exact List.nodup_nil
    rw [if_neg c]
    by_cases d : i < f + l.size
    · rw [if_pos d, List.map_cons]
      refine List.nodup_cons.mpr ⟨fun h => ?_, pOf_nodup l f i⟩
      obtain ⟨z, hz, e⟩ := List.mem_map.mp h
      have := (pOf_in l f i z hz).2
      have e : z.1 = f + l.size := e
      omega
    · rw [if_neg d, List.map_cons]
      refine List.nodup_cons.mpr ⟨fun h => ?_, pOf_nodup r _ i⟩
      obtain ⟨z, hz, e⟩ := List.mem_map.mp h
      have := (pOf_in r _ i z hz).1
      have e : z.1 = f + l.size := e
      omega
end HSP
namespace HSP
open PySem PySem.Spec PyProof.Rows L2
/-! ## which numbers a node is met by -/
theorem way_lft {tw v : Int} (h : wayOf tw v .fin = .lft) : tw < 2 * v := by
  by_cases c : tw = 2 * v
  · unfold wayOf at h
    rw [if_pos c] at h
    cases h
  · by_cases d : tw < 2 * v
    · exact d
    · unfold wayOf at h
      rw [if_neg c, if_neg d] at h
      cases h
theorem way_rgt {tw v : Int} (h : wayOf tw v .fin = .rgt) : 2 * v < tw := by
  by_cases c : tw = 2 * v
  · unfold wayOf at h
    rw [if_pos c] at h
    cases h
  · by_cases d : tw < 2 * v
    · unfold wayOf at h
      rw [if_neg c, if_pos d] at h
      cases h
    · omega
/-- on the right side of a value above -/
def Past (g : Nat → Int) (tw : Int) (z : Nat × Bool) : Prop := if z.2 = true then 2 * g z.1 < tw else tw < 2 * g z.1
theorem met (g : Nat → Int) (tw : Int) : ∀ (t : Tr) (f i : Nat), f ≤ i → i < f + t.size → (i ∈ sPath g tw .fin t f ↔ ∀ z, z ∈ pOf t f i → Past g tw z)
  | .nil, f, i, h1, h2 => by
    have : Tr.nil.size = 0 := rfl
    omega
  | .nod l r, f, i, h1, h2 => by
    have e : sPath g tw .fin (.nod l r) f = (f + l.size) :: match wayOf tw (g (f + l.size)) .fin with | .fin => [] | .lft => sPath g tw .fin l f | .rgt => sPath g tw .fin r (f + l.size + 1) := rfl
    have ep : pOf (.nod l r) f i = if i = f + l.size then [] else if i < f + l.size then (f + l.size, false) :: pOf l f i else (f + l.size, true) :: pOf r (f + l.size + 1) i := rfl
    have z : (Tr.nod l r).size = l.size + 1 + r.size := rfl
    rw [z] at h2
    rw [e, ep]
    by_cases c : i = f + l.size
    · rw [if_pos c]
      exact ⟨fun _ z hz => absurd hz List.not_mem_nil, fun _ => by rw [c]; exact List.mem_cons_self⟩
    · rw [if_neg c]
      by_cases d : i < f + l.size
      · rw [if_pos d]
        have ih := met g tw l f i h1 d
        rw [List.mem_cons, List.forall_mem_cons]
        have pz : Past g tw (f + l.size, false) ↔ tw < 2 * g (f + l.size) := Iff.rfl
        rw [pz]
        by_cases k : tw < 2 * g (f + l.size)
        · have w : wayOf tw (g (f + l.size)) .fin = .lft := by unfold wayOf; rw [if_neg (by omega), if_pos k]
          rw [w]
          exact ⟨fun h => ⟨k, ih.mp (h.resolve_left c)⟩, fun h => .inr (ih.mpr h.2)⟩
        · refine ⟨fun h => ?_, fun h => absurd h.1 k⟩
          have h := h.resolve_left c
          cases w : wayOf tw (g (f + l.size)) .fin with
          | fin => rw [w] at h; cases h
          | lft => exact absurd (way_lft w) k
          | rgt =>
            rw [w] at h
            have := sPath_in g tw .fin r (f + l.size + 1) i h
            omega
      · rw [if_neg d]
        have ih := met g tw r (f + l.size + 1) i (by omega) (by omega)
        rw [List.mem_cons, List.forall_mem_cons]
        have pz : Past g tw (f + l.size, true) ↔ 2 * g (f + l.size) < tw := Iff.rfl
        rw [pz]
        by_cases k : 2 * g (f + l.size) < tw
        · have w : wayOf tw (g (f + l.size)) .fin = .rgt := by unfold wayOf; rw [if_neg (by omega), if_neg (by omega)]
          rw [w]
          exact ⟨fun h => ⟨k, ih.mp (h.resolve_left c)⟩, fun h => .inr (ih.mpr h.2)⟩
        · refine ⟨fun h => ?_, fun h => absurd h.1 k⟩
          have h := h.resolve_left c
          cases w : wayOf tw (g (f + l.size)) .fin with
          | fin => rw [w] at h; cases h
          | lft =>
            rw [w] at h
            have := sPath_in g tw .fin l f i h
            omega
          | rgt => exact absurd (way_rgt w) k
/-- between two bounds -/
def Btw (lo hi : Option Int) (tw : Int) : Prop := (∀ l, lo = some l → 2 * l < tw) ∧ ∀ h, hi = some h → tw < 2 * h
theorem past_btw (g : Nat → Int) (tw : Int) : ∀ p : List (Nat × Bool), (∀ z, z ∈ p → Past g tw z) ↔ Btw (lowOf g p) (highOf g p) tw
  | [] => ⟨fun _ => ⟨fun _ h => (by cases h), fun _ h => (by cases h)⟩, fun _ z hz => absurd hz List.not_mem_nil⟩
  | (n, true) :: r => by
    have ih := past_btw g tw r
    have el : lowOf g ((n, true) :: r) = match lowOf g r with | none => some (g n) | some m => some (max (g n) m) := rfl
    have eh : highOf g ((n, true) :: r) = highOf g r := rfl
    rw [List.forall_mem_cons, ih, el, eh]
    have pz : Past g tw (n, true) ↔ 2 * g n < tw := Iff.rfl
    rw [pz]
    cases lowOf g r with
    | none => exact ⟨fun h => ⟨fun l e => (by cases e; exact h.1), h.2.2⟩, fun h => ⟨h.1 _ rfl, fun l e => (by cases e), h.2⟩⟩
    | some m => exact ⟨fun h => ⟨fun l e => (by cases e; have := h.2.1 _ rfl; have := h.1; omega), h.2.2⟩, fun h => ⟨(by have := h.1 _ rfl; omega), fun l e => (by cases e; have := h.1 _ rfl; omega), h.2⟩⟩
  | (n, false) :: r => by
    have ih := past_btw g tw r
    have el : highOf g ((n, false) :: r) = match highOf g r with | none => some (g n) | some m => some (min (g n) m) := rfl
    have eh : lowOf g ((n, false) :: r) = lowOf g r := rfl
    rw [List.forall_mem_cons, ih, el, eh]
    have pz : Past g tw (n, false) ↔ tw < 2 * g n := Iff.rfl
    rw [pz]
    cases highOf g r with
    | none => exact ⟨fun h => ⟨h.2.1, fun l e => (by cases e; exact h.1)⟩, fun h => ⟨h.2 _ rfl, h.1, fun l e => (by cases e)⟩⟩
    | some m => exact ⟨fun h => ⟨h.2.1, fun l e => (by cases e; have := h.2.2 _ rfl; have := h.1; omega)⟩, fun h => ⟨(by have := h.2 _ rfl; omega), h.1, fun l e => (by cases e; have := h.2 _ rfl; omega)⟩⟩
end HSP
namespace HSP
open PySem PySem.Spec PyProof.Rows L2
theorem way_of_lt {tw v : Int} (m : Md) (h : tw < 2 * v) : wayOf tw v m = .lft := by
  unfold wayOf
  rw [if_neg (by omega), if_pos h]
theorem way_of_gt {tw v : Int} (m : Md) (h : 2 * v < tw) : wayOf tw v m = .rgt := by
  unfold wayOf
  rw [if_neg (by omega), if_neg (by omega)]
theorem way_of_eq {tw v : Int} (m : Md) (h : tw = 2 * v) : wayOf tw v m = m := by
  unfold wayOf
  rw [if_pos h]
theorem found_at (g : Nat → Int) (tw : Int) : ∀ (t : Tr) (f i : Nat), sEnd g tw .fin t f = (true, i) ↔ i ∈ sPath g tw .fin t f ∧ tw = 2 * g i
  | .nil, _, _ => ⟨fun h => (by cases h), fun h => absurd h.1 List.not_mem_nil⟩
  | .nod l r, f, i => by
    have e2 : sPath g tw .fin (.nod l r) f = (f + l.size) :: match wayOf tw (g (f + l.size)) .fin with | .fin => [] | .lft => sPath g tw .fin l f | .rgt => sPath g tw .fin r (f + l.size + 1) := rfl
    rw [sEnd_nod, e2, List.mem_cons]
    rcases Int.lt_trichotomy tw (2 * g (f + l.size)) with c | c | c
    · rw [way_of_lt _ c]
      show sEnd g tw .fin l f = (true, i) ↔ (i = f + l.size ∨ i ∈ sPath g tw .fin l f) ∧ tw = 2 * g i
      rw [found_at g tw l f i]
      refine ⟨fun h => ⟨.inr h.1, h.2⟩, fun h => ⟨h.1.resolve_left fun z => ?_, h.2⟩⟩
      have := h.2
      rw [z] at this
      omega
    · rw [way_of_eq _ c]
      show (true, f + l.size) = (true, i) ↔ (i = f + l.size ∨ i ∈ []) ∧ tw = 2 * g i
      refine ⟨fun h => ?_, fun h => ?_⟩
      · cases h
        exact ⟨.inl rfl, c⟩
      · rw [h.1.resolve_right List.not_mem_nil]
    · rw [way_of_gt _ c]
      show sEnd g tw .fin r (f + l.size + 1) = (true, i) ↔ (i = f + l.size ∨ i ∈ sPath g tw .fin r (f + l.size + 1)) ∧ tw = 2 * g i
      rw [found_at g tw r (f + l.size + 1) i]
      refine ⟨fun h => ⟨.inr h.1, h.2⟩, fun h => ⟨h.1.resolve_left fun z => ?_, h.2⟩⟩
      have := h.2
      rw [z] at this
      omega
/-- a label found says: its own value is found there -/
theorem lab_found (g : Nat → Int) {t : Tr} {i : Nat} (hi : i < t.size) : labAt g t i = .found ↔ sEnd g (2 * g i) .fin t 0 = (true, i) := by
  rw [found_at, met g (2 * g i) t 0 i (Nat.zero_le _) (by omega), past_btw]
  have out : labAt g t i = lbOf (bndOf g (pOf t 0 i)) (g i) := rfl
  rw [out]
  unfold bndOf
  generalize lowOf g (pOf t 0 i) = lo
  generalize highOf g (pOf t 0 i) = hi'
  generalize g i = v
  match lo, hi' with
  | none, none => exact ⟨fun _ => ⟨⟨fun _ h => (by cases h), fun _ h => (by cases h)⟩, rfl⟩, fun _ => rfl⟩
  | some l, none =>
    have e : lbOf (match some l, (none : Option Int) with | some a, some b => if a ≥ b then none else some (some a, some b) | a, b => some (a, b)) v = if v ≤ l then .low else .found := rfl
    rw [e]
    by_cases c : v ≤ l
    · rw [if_pos c]
      exact ⟨fun h => (by cases h), fun h => (by have := h.1.1 l rfl; omega)⟩
    · rw [if_neg c]
      exact ⟨fun _ => ⟨⟨fun _ h => (by cases h; omega), fun _ h => (by cases h)⟩, rfl⟩, fun _ => rfl⟩
  | none, some b =>
    have e : lbOf (match (none : Option Int), some b with | some a, some b => if a ≥ b then none else some (some a, some b) | a, b => some (a, b)) v = if v ≥ b then .high else .found := rfl
    rw [e]
    by_cases c : v ≥ b
    · rw [if_pos c]
      exact ⟨fun h => (by cases h), fun h => (by have := h.1.2 b rfl; omega)⟩
    · rw [if_neg c]
      exact ⟨fun _ => ⟨⟨fun _ h => (by cases h), fun _ h => (by cases h; omega)⟩, rfl⟩, fun _ => rfl⟩
  | some l, some b =>
    show lbOf (if l ≥ b then none else some (some l, some b)) v = .found ↔ _
    by_cases d : l ≥ b
    · rw [if_pos d]
      exact ⟨fun h => (by cases h), fun h => (by have h1 := h.1.1 l rfl; have h2 := h.1.2 b rfl; omega)⟩
    · rw [if_neg d]
      show (if v ≤ l then Lb.low else if v ≥ b then .high else .found) = .found ↔ _
      by_cases c : v ≤ l
      · rw [if_pos c]
        exact ⟨fun h => (by cases h), fun h => (by have := h.1.1 l rfl; omega)⟩
      · by_cases c2 : v ≥ b
        · rw [if_neg c, if_pos c2]
          exact ⟨fun h => (by cases h), fun h => (by have := h.1.2 b rfl; omega)⟩
        · rw [if_neg c, if_neg c2]
          exact ⟨fun _ => ⟨⟨fun _ h => (by cases h; omega), fun _ h => (by cases h; omega)⟩, rfl⟩, fun _ => rfl⟩
theorem found_mem {g : Nat → Int} {t : Tr} {i : Nat} : i ∈ foundOf g t t.size ↔ i < t.size ∧ sEnd g (2 * g i) .fin t 0 = (true, i) := by
  unfold foundOf
  rw [List.mem_filter, List.mem_range, beq_iff_eq]
  exact and_congr_right fun h => lab_found g h
end HSP
namespace HSP
open PySem PySem.Spec PyProof.Rows L2
def frPosn (r : Bool × Nat) : Nat := if r.1 = true then 2 * r.2 + 1 else 2 * r.2
theorem frPosn_in (g : Nat → Int) (tw : Int) (m : Md) : ∀ (t : Tr) (f : Nat), 2 * f ≤ frPosn (sEnd g tw m t f) ∧ frPosn (sEnd g tw m t f) ≤ 2 * (f + t.size)
  | .nil, f => ⟨Nat.le_refl _, Nat.le_refl _⟩
  | .nod l r, f => by
    have z : (Tr.nod l r).size = l.size + 1 + r.size := rfl
    rw [sEnd_nod, z]
    cases wayOf tw (g (f + l.size)) m with
    | fin =>
      show 2 * f ≤ 2 * (f + l.size) + 1 ∧ 2 * (f + l.size) + 1 ≤ _
      omega
    | lft =>
      have := frPosn_in g tw m l f
      show 2 * f ≤ frPosn (sEnd g tw m l f) ∧ frPosn (sEnd g tw m l f) ≤ _
      omega
    | rgt =>
      have := frPosn_in g tw m r (f + l.size + 1)
      show 2 * f ≤ frPosn (sEnd g tw m r (f + l.size + 1)) ∧ frPosn (sEnd g tw m r (f + l.size + 1)) ≤ _
      omega
theorem frPosn_rise (g : Nat → Int) (tw1 tw2 : Int) (h12 : tw1 ≤ tw2) : ∀ (t : Tr) (f : Nat), frPosn (sEnd g tw1 .fin t f) ≤ frPosn (sEnd g tw2 .fin t f)
  | .nil, _ => Nat.le_refl _
  | .nod l r, f => by
    have b1 := frPosn_in g tw1 .fin l f
    have b2 := frPosn_in g tw2 .fin r (f + l.size + 1)
    rw [sEnd_nod, sEnd_nod]
    have pf : frPosn (true, f + l.size) = 2 * (f + l.size) + 1 := rfl
    rcases Int.lt_trichotomy tw1 (2 * g (f + l.size)) with c1 | c1 | c1
    · rw [way_of_lt _ c1]
      rcases Int.lt_trichotomy tw2 (2 * g (f + l.size)) with c2 | c2 | c2
      · rw [way_of_lt _ c2]
        exact frPosn_rise g tw1 tw2 h12 l f
      · rw [way_of_eq _ c2]
        show frPosn (sEnd g tw1 .fin l f) ≤ frPosn (true, f + l.size)
        omega
      · rw [way_of_gt _ c2]
        show frPosn (sEnd g tw1 .fin l f) ≤ frPosn (sEnd g tw2 .fin r (f + l.size + 1))
        omega
    · rw [way_of_eq _ c1]
      rcases Int.lt_trichotomy tw2 (2 * g (f + l.size)) with c2 | c2 | c2
      · omega
      · rw [way_of_eq _ c2]
        exact Nat.le_refl _
      · rw [way_of_gt _ c2]
        show frPosn (true, f + l.size) ≤ frPosn (sEnd g tw2 .fin r (f + l.size + 1))
        omega
    · rw [way_of_gt _ c1, way_of_gt _ (by omega)]
      exact frPosn_rise g tw1 tw2 h12 r _
theorem lab_rise {g : Nat → Int} {t : Tr} {i j : Nat} (hi : i < t.size) (hj : j < t.size) (fi : labAt g t i = .found) (fj : labAt g t j = .found) (h : i < j) : g i < g j := by
  have h1 := (lab_found g hi).mp fi
  have h2 := (lab_found g hj).mp fj
  by_cases c : g i < g j
  · exact c
  · have up := frPosn_rise g (2 * g j) (2 * g i) (by omega) t 0
    rw [h1, h2] at up
    have up2 : 2 * j + 1 ≤ 2 * i + 1 := up
    omega
end HSP
namespace HSP
open PySem PySem.Spec PyProof.Rows L2
/-! ## which lists have given labels -/
def lbStr (lab : Nat → Lb) (i : Nat) : Str := (lab i).str
structure Keeps (lab : Nat → Lb) (t : Tr) (s : Nat → Int) : Prop where
  up : ∀ a b, a < b → b < t.size → lab a = .found → lab b = .found → s a < s b
  low : ∀ n o, n < t.size → lab n = .low → boundOf (lbStr lab) true (pOf t 0 n) none = some o → s n < s o
  high : ∀ n o, n < t.size → lab n = .high → boundOf (lbStr lab) false (pOf t 0 n) none = some o → s o < s n
theorem boundOf_mem {lab : Nat → Str} {c : Bool} : ∀ {p : List (Nat × Bool)} {z : Option Nat} {o : Nat}, boundOf lab c p z = some o → z = some o ∨ (o, c) ∈ p ∧ lab o = ("found" : Str)
  | [], _, _, h => .inl h
  | (n, b) :: r, z, o, h => by
    have h : boundOf lab c r (if b = c ∧ lab n = ("found" : Str) then some n else z) = some o := h
    rcases boundOf_mem h with e | ⟨e1, e2⟩
    · by_cases d : b = c ∧ lab n = ("found" : Str)
      · rw [if_pos d] at e
        cases e
        exact .inr ⟨by rw [← d.1]; exact List.mem_cons_self, d.2⟩
      · rw [if_neg d] at e
        exact .inl e
    · exact .inr ⟨List.mem_cons_of_mem _ e1, e2⟩
theorem bound_in {lab : Nat → Lb} {c : Bool} {p : List (Nat × Bool)} {o : Nat} (h : boundOf (lbStr lab) c p none = some o) : (o, c) ∈ p ∧ lab o = .found := by
  rcases boundOf_mem h with e | ⟨e1, e2⟩
  · cases e
  · exact ⟨e1, (str_found _).mp e2⟩
theorem low_there (g : Nat → Int) : ∀ {p : List (Nat × Bool)} {o : Nat}, (o, true) ∈ p → ∃ l, lowOf g p = some l
  | (n, true) :: r, o, _ => by
    show ∃ l, (match lowOf g r with | none => some (g n) | some m => some (max (g n) m)) = some l
    cases lowOf g r with
    | none => exact ⟨_, rfl⟩
    | some m => exact ⟨_, rfl⟩
  | (n, false) :: r, o, h => by
    rcases List.mem_cons.mp h with e | e
    · cases e
    · exact low_there g (p := r) e
theorem high_there (g : Nat → Int) : ∀ {p : List (Nat × Bool)} {o : Nat}, (o, false) ∈ p → ∃ l, highOf g p = some l
  | (n, false) :: r, o, _ => by
    show ∃ l, (match highOf g r with | none => some (g n) | some m => some (min (g n) m)) = some l
    cases highOf g r with
    | none => exact ⟨_, rfl⟩
    | some m => exact ⟨_, rfl⟩
  | (n, true) :: r, o, h => by
    rcases List.mem_cons.mp h with e | e
    · cases e
    · exact high_there g (p := r) e
theorem pOf_short (t : Tr) (i : Nat) {q r : List (Nat × Bool)} {n : Nat} {b : Bool} (h : i < t.size) (e : pOf t 0 i = q ++ (n, b) :: r) : pOf t 0 n = q ∧ n < t.size ∧ (pOf t 0 n).length < (pOf t 0 i).length := by
  have e1 := pOf_split t 0 i q n b r (Nat.zero_le _) (by omega) e
  refine ⟨e1, ?_, ?_⟩
  · have := (pOf_in t 0 i (n, b) (by rw [e]; exact List.mem_append_right _ List.mem_cons_self)).2
    have h2 : n < 0 + t.size := this
    omega
  · rw [e1, e, List.length_append, List.length_cons]
    omega
/-- what keeps to the labels has them -/
theorem keeps_labs {lab : Nat → Lb} {t : Tr} {s : Nat → Int} (po : ∀ n, n < t.size → possAt (lbStr lab) (pOf t 0 n) n = true) (k : Keeps lab t s) : ∀ (m n : Nat), (pOf t 0 n).length < m → n < t.size → labAt s t n = lab n
  | 0, _, h, _ => absurd h (Nat.not_lt_zero _)
  | m + 1, n, hm, hn => by
    have told : Told s lab (pOf t 0 n) := fun q n' b r e => by
      obtain ⟨h1, h2, h3⟩ := pOf_short t n hn e
      have ih := keeps_labs po k m n' (by omega) h2
      rw [← ih]
      show lbOf (bndOf s (pOf t 0 n')) (s n') = _
      rw [h1]
    have side := pOf_side t 0 n (Nat.zero_le _) (by omega)
    have p0 := po n hn
    unfold possAt at p0
    show lbOf (bndOf s (pOf t 0 n)) (s n) = lab n
    rcases along s lab _ told with ⟨ab, ak, as_, a1, a2⟩ | ⟨db, _, kk, _, _, _, _, dk, _⟩
    · have ak' : killerOf (lbStr lab) (pOf t 0 n) = none := ak
      rw [ak', if_neg (by decide)] at p0
      have hb : ∀ c o, boundOf (lbStr lab) c (pOf t 0 n) none = some o → (o, c) ∈ pOf t 0 n ∧ lab o = .found ∧ o < t.size ∧ o ≠ n ∧ c = decide (o < n) := fun c o e => by
        obtain ⟨h1, h2⟩ := bound_in e
        exact ⟨h1, h2, by have h3 : o < 0 + t.size := (pOf_in t 0 n _ h1).2; omega, (side _ h1).2, (side _ h1).1⟩
      obtain ⟨elo, ehi⟩ := bndOf_some (show bndOf s (pOf t 0 n) = some ((stOf s none none (pOf t 0 n)).1, (stOf s none none (pOf t 0 n)).2) from ab)
      rw [ab]
      have lo : ∀ o, boundOf (lbStr lab) true (pOf t 0 n) none = some o → (stOf s none none (pOf t 0 n)).1 = some (s o) := fun o e => by
        obtain ⟨l, el⟩ := low_there s (hb _ _ e).1
        rw [elo] at el
        obtain ⟨o', b', e1, e2, e3, e4⟩ := a1 l el
        have e1 : boundOf (lbStr lab) true (pOf t 0 n) none = some o' := e1
        rw [e] at e1
        cases e1
        rw [el, e4]
      have hi : ∀ o, boundOf (lbStr lab) false (pOf t 0 n) none = some o → (stOf s none none (pOf t 0 n)).2 = some (s o) := fun o e => by
        obtain ⟨l, el⟩ := high_there s (hb _ _ e).1
        rw [ehi] at el
        obtain ⟨o', b', e1, e2, e3, e4⟩ := a2 l el
        have e1 : boundOf (lbStr lab) false (pOf t 0 n) none = some o' := e1
        rw [e] at e1
        cases e1
        rw [el, e4]
      generalize stOf s none none (pOf t 0 n) = st at as_ a1 a2 lo hi
      obtain ⟨l0, h0⟩ := st
      by_cases c1 : lbStr lab n = ("low" : Str)
      · rw [if_pos c1] at p0
        have c1 := (str_low _).mp c1
        obtain ⟨o, eo⟩ := Option.isSome_iff_exists.mp p0
        have lt := k.low n o hn c1 eo
        have el : l0 = some (s o) := lo o eo
        rw [c1]
        rcases lb_cases l0 h0 (s n) as_ with ⟨e1, _, e2, _⟩ | ⟨e1, _⟩ | ⟨e1, b, e2, e3, _⟩
        · have := e2 _ el
          omega
        · exact e1
        · have := as_ _ _ el e2
          omega
      rw [if_neg c1] at p0
      by_cases c2 : lbStr lab n = ("high" : Str)
      · rw [if_pos c2] at p0
        have c2 := (str_high _).mp c2
        obtain ⟨o, eo⟩ := Option.isSome_iff_exists.mp p0
        have lt := k.high n o hn c2 eo
        have el : h0 = some (s o) := hi o eo
        rw [c2]
        rcases lb_cases l0 h0 (s n) as_ with ⟨e1, _, _, e2⟩ | ⟨e1, b, e2, e3, _⟩ | ⟨e1, _⟩
        · have := e2 _ el
          omega
        · have := as_ _ _ e2 el
          omega
        · exact e1
      rw [if_neg c2] at p0
      have c3 := (str_found _).mp (of_decide_eq_true p0)
      rw [c3]
      rcases lb_cases l0 h0 (s n) as_ with ⟨e1, _⟩ | ⟨_, l, e2, e3, _⟩ | ⟨_, b, e2, e3, _⟩
      · exact e1
      · obtain ⟨o, b, e4, _, _, e7⟩ := a1 l e2
        obtain ⟨_, h2, h3, h4, h5⟩ := hb _ _ e4
        have := k.up o n (of_decide_eq_true h5.symm) hn h2 c3
        omega
      · obtain ⟨o, b', e4, _, _, e7⟩ := a2 b e2
        obtain ⟨_, h2, h3, h4, h5⟩ := hb _ _ e4
        have h6 : ¬ o < n := of_decide_eq_false h5.symm
        have := k.up n o (by omega) h3 c3 h2
        omega
    · have dk' : killerOf (lbStr lab) (pOf t 0 n) = some kk := dk
      rw [dk', if_pos (show (some kk).isSome = true from rfl)] at p0
      have c0 := (str_dead _).mp (of_decide_eq_true p0)
      rw [c0, db]
      rfl
/-- labels that a list has are possible, and the list keeps to them -/
theorem labs_poss (s : Nat → Int) (t : Tr) {n : Nat} (hn : n < t.size) : possAt (lbStr (labAt s t)) (pOf t 0 n) n = true := by
  have e : labAt s t n = lbOf (bndOf s (pOf t 0 n)) (s n) := rfl
  have str : ∀ l, labAt s t n = l → lbStr (labAt s t) n = l.str := fun l h => congrArg Lb.str h
  unfold possAt
  rcases along s (labAt s t) _ (told_labs s t hn) with ⟨ab, ak, as_, a1, a2⟩ | ⟨db, _, kk, _, _, _, _, dk, _⟩
  · have ak' : killerOf (lbStr (labAt s t)) (pOf t 0 n) = none := ak
    rw [ak', if_neg (by decide)]
    rw [ab] at e
    generalize stOf s none none (pOf t 0 n) = st at e as_ a1 a2
    obtain ⟨l0, h0⟩ := st
    rcases lb_cases l0 h0 (s n) as_ with ⟨e1, _⟩ | ⟨e1, l, e2, _⟩ | ⟨e1, b, e2, _⟩
    · rw [str _ (e.trans e1), if_neg (by decide +kernel), if_neg (by decide +kernel)]
      exact decide_eq_true rfl
    · rw [str _ (e.trans e1), if_pos (by decide +kernel)]
      obtain ⟨o, _, e4, _⟩ := a1 l e2
      have e4 : boundOf (lbStr (labAt s t)) true (pOf t 0 n) none = some o := e4
      rw [e4]
      rfl
    · rw [str _ (e.trans e1), if_neg (by decide +kernel), if_pos (by decide +kernel)]
      obtain ⟨o, _, e4, _⟩ := a2 b e2
      have e4 : boundOf (lbStr (labAt s t)) false (pOf t 0 n) none = some o := e4
      rw [e4]
      rfl
  · have dk' : killerOf (lbStr (labAt s t)) (pOf t 0 n) = some kk := dk
    rw [dk', if_pos (show (some kk).isSome = true from rfl)]
    rw [db] at e
    rw [str _ e]
    exact decide_eq_true rfl
theorem labs_keeps {s : Nat → Int} {t : Tr} (inj : ∀ a b, a < t.size → b < t.size → s a = s b → a = b) : Keeps (labAt s t) t s := by
  have main : ∀ n, n < t.size → (labAt s t n = .low → ∀ o, boundOf (lbStr (labAt s t)) true (pOf t 0 n) none = some o → s n ≤ s o) ∧ (labAt s t n = .high → ∀ o, boundOf (lbStr (labAt s t)) false (pOf t 0 n) none = some o → s o ≤ s n) := fun n hn => by
    have e : labAt s t n = lbOf (bndOf s (pOf t 0 n)) (s n) := rfl
    rcases along s (labAt s t) _ (told_labs s t hn) with ⟨ab, ak, as_, a1, a2⟩ | ⟨db, _⟩
    · rw [ab] at e
      rw [e]
      generalize stOf s none none (pOf t 0 n) = st at e as_ a1 a2
      obtain ⟨l0, h0⟩ := st
      rcases lb_cases l0 h0 (s n) as_ with ⟨e1, _⟩ | ⟨e1, l, e2, e3, _⟩ | ⟨e1, b, e2, e3, _⟩
      · exact ⟨fun z => (by rw [e1] at z; cases z), fun z => (by rw [e1] at z; cases z)⟩
      · refine ⟨fun _ o eo => ?_, fun z => (by rw [e1] at z; cases z)⟩
        obtain ⟨o', _, e4, _, _, e7⟩ := a1 l e2
        have e4 : boundOf (lbStr (labAt s t)) true (pOf t 0 n) none = some o' := e4
        rw [eo] at e4
        cases e4
        omega
      · refine ⟨fun z => (by rw [e1] at z; cases z), fun _ o eo => ?_⟩
        obtain ⟨o', _, e4, _, _, e7⟩ := a2 b e2
        have e4 : boundOf (lbStr (labAt s t)) false (pOf t 0 n) none = some o' := e4
        rw [eo] at e4
        cases e4
        omega
    · rw [e, db]
      exact ⟨fun z => (by cases z), fun z => (by cases z)⟩
  have ne : ∀ {n o c}, n < t.size → boundOf (lbStr (labAt s t)) c (pOf t 0 n) none = some o → o < t.size ∧ o ≠ n := fun {n o c} hn e => by
    obtain ⟨h1, _⟩ := bound_in e
    exact ⟨by have h3 : o < 0 + t.size := (pOf_in t 0 n _ h1).2; omega, (pOf_side t 0 n (Nat.zero_le _) (by omega) _ h1).2⟩
  refine ⟨fun a b h hb fa fb => lab_rise (by omega) hb fa fb h, fun n o hn l e => ?_, fun n o hn l e => ?_⟩
  · have h1 := (main n hn).1 l o e
    obtain ⟨h2, h3⟩ := ne hn e
    have : s n ≠ s o := fun z => h3 (inj n o hn h2 z).symm
    omega
  · have h1 := (main n hn).2 l o e
    obtain ⟨h2, h3⟩ := ne hn e
    have : s n ≠ s o := fun z => h3 (inj n o hn h2 z).symm
    omega
theorem keeps_iff {lab : Nat → Lb} {t : Tr} {s : Nat → Int} (po : ∀ n, n < t.size → possAt (lbStr lab) (pOf t 0 n) n = true) (inj : ∀ a b, a < t.size → b < t.size → s a = s b → a = b) : (∀ n, n < t.size → labAt s t n = lab n) ↔ Keeps lab t s := by
  constructor
  · intro h
    have k := labs_keeps inj
    have bd : ∀ n c, n < t.size → boundOf (lbStr (labAt s t)) c (pOf t 0 n) none = boundOf (lbStr lab) c (pOf t 0 n) none := fun n c hn => by
      have key : ∀ (p : List (Nat × Bool)) (z : Option Nat), (∀ y, y ∈ p → y.1 < t.size) → boundOf (lbStr (labAt s t)) c p z = boundOf (lbStr lab) c p z := fun p => by
        induction p with
        | nil => exact fun _ _ => rfl
        | cons y r ih =>
          intro z hy
          have e := h y.1 (hy y List.mem_cons_self)
          show boundOf (lbStr (labAt s t)) c r (if y.2 = c ∧ lbStr (labAt s t) y.1 = ("found" : Str) then some y.1 else z) = boundOf (lbStr lab) c r (if y.2 = c ∧ lbStr lab y.1 = ("found" : Str) then some y.1 else z)
          rw [show lbStr (labAt s t) y.1 = lbStr lab y.1 from congrArg Lb.str e]
          exact ih _ fun x hx => hy x (List.mem_cons_of_mem _ hx)
      exact key _ _ fun y hy => by have h3 : y.1 < 0 + t.size := (pOf_in t 0 n _ hy).2; omega
    refine ⟨fun a b l hb fa fb => k.up a b l hb ((h a (by omega)).trans fa) ((h b hb).trans fb), fun n o hn l e => k.low n o hn ((h n hn).trans l) (by rw [bd n _ hn]; exact e), fun n o hn l e => k.high n o hn ((h n hn).trans l) (by rw [bd n _ hn]; exact e)⟩
  · exact fun k n hn => keeps_labs po k _ n (Nat.lt_succ_self _) hn
end HSP
namespace HSP
/-! ## all orders of a few -/
def fct : Nat → Nat
  | 0 => 1
  | n + 1 => fct n * (n + 1)
theorem fct_pos : ∀ n, 0 < fct n
  | 0 => Nat.one_pos
  | n + 1 => Nat.mul_pos (fct_pos n) (Nat.succ_pos n)
def ordersOf (n : Nat) : Nat → List (List Nat)
  | 0 => [[]]
  | k + 1 => (ordersOf n k).flatMap fun o => ((List.range n).filter fun i => !o.contains i).map fun i => o ++ [i]
end HSP
namespace HSP
/-! ## all arrangements, one put in after the other -/
def bump (j v : Nat) : Nat := if v < j then v else v + 1
theorem bump_lt {j a b : Nat} : bump j a < bump j b ↔ a < b := by
  unfold bump
  split <;> split <;> omega
theorem bump_inj {j a b : Nat} (h : bump j a = bump j b) : a = b := by
  unfold bump at h
  split at h <;> split at h <;> omega
theorem bump_ne (j a : Nat) : bump j a ≠ j := by
  unfold bump
  split <;> omega
def insO (x j : Nat) (σ : Nat → Nat) (y : Nat) : Nat := if y = x then j else bump j (σ y)
theorem insO_at (x j : Nat) (σ : Nat → Nat) : insO x j σ x = j := if_pos rfl
theorem insO_ne {x y : Nat} (j : Nat) (σ : Nat → Nat) (h : y ≠ x) : insO x j σ y = bump j (σ y) := if_neg h
def arrs : List Nat → List (Nat → Nat)
  | [] => [fun _ => 0]
  | x :: s => (arrs s).flatMap fun σ => (List.range (s.length + 1)).map fun j => insO x j σ
theorem arrs_mem {x : Nat} {s : List Nat} {σ : Nat → Nat} : σ ∈ arrs (x :: s) ↔ ∃ τ, τ ∈ arrs s ∧ ∃ j, j < s.length + 1 ∧ σ = insO x j τ := by
  show σ ∈ (arrs s).flatMap _ ↔ _
  rw [List.mem_flatMap]
  refine exists_congr fun τ => and_congr_right fun _ => ?_
  rw [List.mem_map]
  exact exists_congr fun j => by rw [List.mem_range]; exact and_congr_right fun _ => eq_comm
theorem arrs_len : ∀ s : List Nat, (arrs s).length = fct s.length
  | [] => rfl
  | x :: s => by
    show ((arrs s).flatMap _).length = fct s.length * (s.length + 1)
    rw [← arrs_len s]
    generalize arrs s = l
    induction l with
    | nil => rw [List.flatMap_nil, List.length_nil, Nat.zero_mul]
    | cons a r ih => rw [List.flatMap_cons, List.length_append, ih, List.length_map, List.length_range, List.length_cons, Nat.succ_mul, Nat.add_comm]
theorem arrs_val : ∀ {s : List Nat} {σ : Nat → Nat}, s.Nodup → σ ∈ arrs s → (∀ x, x ∈ s → σ x < s.length) ∧ ∀ x y, x ∈ s → y ∈ s → σ x = σ y → x = y
  | [], _, _, _ => ⟨fun _ h => (nomatch h), fun _ _ h => (nomatch h)⟩
  | x :: s, σ, nd, h => by
    obtain ⟨nx, nd⟩ := List.nodup_cons.mp nd
    obtain ⟨τ, hτ, j, hj, rfl⟩ := arrs_mem.mp h
    obtain ⟨b, i⟩ := arrs_val nd hτ
    have ne : ∀ {y}, y ∈ s → y ≠ x := fun hy e => nx (e ▸ hy)
    refine ⟨fun y hy => ?_, fun y z hy hz e => ?_⟩
    · rcases List.mem_cons.mp hy with e | hy
      · rw [e, insO_at]
        exact hj
      · rw [insO_ne _ _ (ne hy), List.length_cons]
        have := b y hy
        unfold bump
        split <;> omega
    · rcases List.mem_cons.mp hy with ey | hy <;> rcases List.mem_cons.mp hz with ez | hz
      · rw [ey, ez]
      · rw [ey, insO_at, insO_ne _ _ (ne hz)] at e
        exact absurd e.symm (bump_ne _ _)
      · rw [ez, insO_at, insO_ne _ _ (ne hy)] at e
        exact absurd e (bump_ne _ _)
      · rw [insO_ne _ _ (ne hy), insO_ne _ _ (ne hz)] at e
        exact i y z hy hz (bump_inj e)
/-- each way to number them is there -/
theorem arrs_all : ∀ {s : List Nat} (v : Nat → Nat), s.Nodup → (∀ x, x ∈ s → v x < s.length) → (∀ x y, x ∈ s → y ∈ s → v x = v y → x = y) → ∃ σ, σ ∈ arrs s ∧ ∀ x, x ∈ s → σ x = v x
  | [], _, _, _, _ => ⟨_, List.mem_singleton.mpr rfl, fun _ h => nomatch h⟩
  | x :: s, v, nd, b, i => by
    obtain ⟨nx, nd⟩ := List.nodup_cons.mp nd
    have hx := b x List.mem_cons_self
    rw [List.length_cons] at hx
    have ne : ∀ {y}, y ∈ s → v y ≠ v x := fun {y} hy e => nx (i y x (List.mem_cons_of_mem _ hy) List.mem_cons_self e ▸ hy)
    obtain ⟨τ, hτ, e⟩ := arrs_all (s := s) (fun y => if v y < v x then v y else v y - 1) nd (fun y hy => by
      have h1 := b y (List.mem_cons_of_mem _ hy)
      rw [List.length_cons] at h1
      have h2 := ne hy
      show (if v y < v x then v y else v y - 1) < s.length
      split <;> omega) (fun y z hy hz e => by
      have e : (if v y < v x then v y else v y - 1) = if v z < v x then v z else v z - 1 := e
      have h1 := ne hy
      have h2 := ne hz
      refine i y z (List.mem_cons_of_mem _ hy) (List.mem_cons_of_mem _ hz) ?_
      split at e <;> split at e <;> omega)
    refine ⟨insO x (v x) τ, arrs_mem.mpr ⟨τ, hτ, v x, hx, rfl⟩, fun y hy => ?_⟩
    rcases List.mem_cons.mp hy with ey | hy
    · rw [ey, insO_at]
    · rw [insO_ne _ _ (show y ≠ x from fun z => nx (by rw [← z]; exact hy)), e y hy]
      have := ne hy
      unfold bump
      by_cases c : v y < v x
      · rw [if_pos c, if_pos c]
      · rw [if_neg c, if_neg (by omega)]
        omega
/-- and only once -/
theorem nodup_flatMap {α β : Type} {f : α → List β} : ∀ {l : List α}, (∀ x, x ∈ l → (f x).Nodup) → l.Pairwise (fun x y => ∀ b, b ∈ f x → b ∈ f y → False) → (l.flatMap f).Nodup
  | [], _, _ => List.nodup_nil
  | x :: r, h1, h2 => by
    obtain ⟨h3, h4⟩ := List.pairwise_cons.mp h2
    rw [List.flatMap_cons]
    refine List.nodup_append.mpr ⟨h1 x List.mem_cons_self, nodup_flatMap (fun y hy => h1 y (List.mem_cons_of_mem _ hy)) h4, fun a ha b hb e => ?_⟩
    obtain ⟨y, hy, hb⟩ := List.mem_flatMap.mp hb
    exact h3 y hy a ha (e ▸ hb)
theorem arrs_nodup : ∀ {s : List Nat}, s.Nodup → ((arrs s).map fun σ => s.map σ).Nodup
  | [], _ => List.nodup_cons.mpr ⟨fun h => (nomatch h), List.nodup_nil⟩
  | x :: s, nd => by
    obtain ⟨nx, nd⟩ := List.nodup_cons.mp nd
    have ih := arrs_nodup nd
    show (((arrs s).flatMap fun σ => (List.range (s.length + 1)).map fun j => insO x j σ).map fun σ => (x :: s).map σ).Nodup
    rw [List.map_flatMap]
    have ev : ∀ j (σ : Nat → Nat), (x :: s).map (insO x j σ) = j :: s.map fun y => bump j (σ y) := fun j σ => by
      rw [List.map_cons, insO_at]
      exact congrArg _ (List.map_congr_left fun y hy => insO_ne _ _ fun e => nx (e ▸ hy))
    have back : ∀ {j : Nat} {σ τ : Nat → Nat}, (s.map fun y => bump j (σ y)) = (s.map fun y => bump j (τ y)) → s.map σ = s.map τ := fun h => by
      refine List.map_congr_left fun y hy => ?_
      exact bump_inj (List.map_inj_left.mp h y hy)
    refine nodup_flatMap (fun σ _ => ?_) ?_
    · rw [List.map_map]
      refine List.pairwise_map.mpr (List.nodup_range.imp fun {i j} h e => h ?_)
      have e : (x :: s).map (insO x i σ) = (x :: s).map (insO x j σ) := e
      rw [ev, ev] at e
      exact (List.cons.inj e).1
    · refine (List.pairwise_map.mp ih).imp fun {σ τ} h b hb hc => h ?_
      rw [List.map_map] at hb hc
      obtain ⟨i, _, e1⟩ := List.mem_map.mp hb
      obtain ⟨j, _, e2⟩ := List.mem_map.mp hc
      have e : (x :: s).map (insO x i σ) = (x :: s).map (insO x j τ) := e1.trans e2.symm
      rw [ev, ev] at e
      obtain ⟨ei, e⟩ := List.cons.inj e
      rw [ei] at e
      exact back e
/-! ## all orders as lists of numbers -/
theorem ordersOf_mem (n : Nat) : ∀ (k : Nat) (o : List Nat), o ∈ ordersOf n k ↔ o.length = k ∧ o.Nodup ∧ ∀ x, x ∈ o → x < n
  | 0, o => by
    show o ∈ [[]] ↔ _
    rw [List.mem_singleton, List.length_eq_zero_iff]
    exact ⟨fun e => ⟨e, by rw [e]; exact List.nodup_nil, by rw [e]; exact fun _ h => nomatch h⟩, fun h => h.1⟩
  | k + 1, o => by
    show o ∈ (ordersOf n k).flatMap _ ↔ _
    rw [List.mem_flatMap]
    constructor
    · rintro ⟨p, hp, ho⟩
      obtain ⟨l, nd, b⟩ := (ordersOf_mem n k p).mp hp
      obtain ⟨i, hi, rfl⟩ := List.mem_map.mp ho
      obtain ⟨hi, hc⟩ := List.mem_filter.mp hi
      have hc : ¬ i ∈ p := fun h => by rw [List.contains_iff_mem.mpr h] at hc; cases hc
      refine ⟨by rw [List.length_append, l]; rfl, List.nodup_append.mpr ⟨nd, List.nodup_cons.mpr ⟨fun h => (nomatch h), List.nodup_nil⟩, fun a ha c hcc e => ?_⟩, fun x hx => ?_⟩
      · rw [List.mem_singleton.mp hcc] at e
        exact hc (e ▸ ha)
      · rcases List.mem_append.mp hx with h | h
        · exact b x h
        · rw [List.mem_singleton.mp h]
          exact List.mem_range.mp hi
    · rintro ⟨l, nd, b⟩
      rcases List.eq_nil_or_concat o with e | ⟨p, i, e⟩
      · rw [e] at l
        cases l
      · rw [List.concat_eq_append] at e
        subst e
        rw [List.length_append] at l
        obtain ⟨nd1, _, nd2⟩ := List.nodup_append.mp nd
        refine ⟨p, (ordersOf_mem n k p).mpr ⟨Nat.succ.inj l, nd1, fun x hx => b x (List.mem_append_left _ hx)⟩, List.mem_map.mpr ⟨i, List.mem_filter.mpr ⟨List.mem_range.mpr (b i (List.mem_append_right _ (List.mem_singleton.mpr rfl))), ?_⟩, rfl⟩⟩
        cases c : p.contains i with
        | false => rfl
        | true => exact absurd rfl (nd2 i (List.contains_iff_mem.mp c) i (List.mem_singleton.mpr rfl))
theorem ordersOf_nodup (n : Nat) : ∀ k, (ordersOf n k).Nodup
  | 0 => List.nodup_cons.mpr ⟨fun h => (nomatch h), List.nodup_nil⟩
  | k + 1 => by
    show ((ordersOf n k).flatMap _).Nodup
    refine nodup_flatMap (fun p _ => ?_) ((ordersOf_nodup n k).imp fun {p q} h b hb hc => h ?_)
    · refine List.pairwise_map.mpr ((List.nodup_range.filter _).imp fun {i j} h e => h ?_)
      exact (List.cons.inj (List.append_cancel_left e)).1
    · obtain ⟨i, _, e1⟩ := List.mem_map.mp hb
      obtain ⟨j, _, e2⟩ := List.mem_map.mp hc
      exact (List.append_inj' (e1.trans e2.symm) rfl).1
theorem arrs_orders {n : Nat} {s : List Nat} (h : s.Perm (List.range n)) : ((arrs s).map fun σ => (List.range n).map σ).Perm (ordersOf n n) := by
  have nd : s.Nodup := h.nodup_iff.mpr List.nodup_range
  have len : s.length = n := by rw [h.length_eq, List.length_range]
  have mem : ∀ x, x ∈ s ↔ x < n := fun x => by rw [h.mem_iff, List.mem_range]
  refine (List.perm_ext_iff_of_nodup ?_ (ordersOf_nodup n n)).mpr fun o => ?_
  · refine List.pairwise_map.mpr ((List.pairwise_map.mp (arrs_nodup nd)).imp fun {σ τ} hne e => hne ?_)
    exact List.map_congr_left fun x hx => List.map_inj_left.mp e x (List.mem_range.mpr ((mem x).mp hx))
  · rw [ordersOf_mem, List.mem_map]
    constructor
    · rintro ⟨σ, hσ, rfl⟩
      obtain ⟨b, i⟩ := arrs_val nd hσ
      refine ⟨by rw [List.length_map, List.length_range], ?_, fun x hx => ?_⟩
      · refine List.pairwise_map.mpr (List.nodup_range.imp_of_mem fun {x y} hx hy h e => h ?_)
        exact i x y ((mem x).mpr (List.mem_range.mp hx)) ((mem y).mpr (List.mem_range.mp hy)) e
      · obtain ⟨y, hy, rfl⟩ := List.mem_map.mp hx
        have := b y ((mem y).mpr (List.mem_range.mp hy))
        omega
    · rintro ⟨l, ndo, b⟩
      have at_ : ∀ x, (hx : x < n) → o.getD x 0 = o[x]'(by omega) := fun x hx => by
        rw [List.getD_eq_getElem?_getD, List.getElem?_eq_getElem (by omega)]
        rfl
      obtain ⟨σ, hσ, e⟩ := arrs_all (fun x => o.getD x 0) nd (fun x hx => by
        show o.getD x 0 < s.length
        rw [at_ x ((mem x).mp hx), len]
        exact b _ (List.getElem_mem _)) (fun x y hx hy e => by
        have e : o.getD x 0 = o.getD y 0 := e
        rw [at_ x ((mem x).mp hx), at_ y ((mem y).mp hy)] at e
        exact (List.getElem_inj ndo).mp e)
      refine ⟨σ, hσ, List.ext_getElem (by rw [List.length_map, List.length_range, l]) fun x h1 h2 => ?_⟩
      rw [List.getElem_map, List.getElem_range, e x ((mem x).mpr (by omega))]
      exact at_ x (by omega)
theorem orders_len (n : Nat) : (ordersOf n n).length = fct n := by
  rw [← (arrs_orders (List.Perm.refl (List.range n))).length_eq, List.length_map, arrs_len, List.length_range]
theorem orders_count {n : Nat} {s : List Nat} (h : s.Perm (List.range n)) (p : List Nat → Bool) : (ordersOf n n).countP p = (arrs s).countP fun σ => p ((List.range n).map σ) := by
  rw [← (arrs_orders h).countP_eq, List.countP_map]
  rfl
end HSP
namespace HSP
/-! ## counting arrangements step by step -/
def withF (ws : List Nat) : List Nat := (List.range (ws.length + 1)).map fun i => (ws.take i).sum
def withL (ws : List Nat) : List Nat := 0 :: (List.range ws.length).map fun i => i * ws.getD i 0
def withH (ws : List Nat) : List Nat := (List.range ws.length).map (fun i => (ws.length - i) * ws.getD i 0) ++ [0]
theorem withF_len (ws : List Nat) : (withF ws).length = ws.length + 1 := by
  unfold withF
  rw [List.length_map, List.length_range]
theorem withL_len (ws : List Nat) : (withL ws).length = ws.length + 1 := by
  unfold withL
  rw [List.length_cons, List.length_map, List.length_range]
theorem withH_len (ws : List Nat) : (withH ws).length = ws.length + 1 := by
  unfold withH
  rw [List.length_append, List.length_map, List.length_range, List.length_singleton]
inductive Kd where
  | F | L | H
def stepW : Kd → List Nat → List Nat
  | .F => withF
  | .L => withL
  | .H => withH
/-- the newest step first -/
def waysS (s : List (Kd × Nat)) : List Nat := s.foldr (fun c ws => stepW c.1 ws) [1]
def rkS : List (Kd × Nat) → (Nat → Nat) → Nat
  | [], _ => 0
  | (.F, x) :: _, σ => σ x + 1
  | (.L, _) :: r, σ => rkS r σ
  | (.H, _) :: r, σ => rkS r σ
def goodS : List (Kd × Nat) → (Nat → Nat) → Bool
  | [], _ => true
  | (.F, x) :: r, σ => goodS r σ && decide (rkS r σ ≤ σ x)
  | (.L, x) :: r, σ => goodS r σ && decide (σ x + 1 < rkS r σ)
  | (.H, x) :: r, σ => goodS r σ && decide (rkS r σ ≤ σ x)
def bumpR (j k : Nat) : Nat := if k = 0 then 0 else bump j (k - 1) + 1
theorem bump_cases (j v : Nat) : v < j ∧ bump j v = v ∨ j ≤ v ∧ bump j v = v + 1 := by
  unfold bump
  by_cases c : v < j
  · exact .inl ⟨c, if_pos c⟩
  · exact .inr ⟨by omega, if_neg c⟩
theorem bumpR_cases (j k : Nat) : k = 0 ∧ bumpR j k = 0 ∨ k ≠ 0 ∧ k ≤ j ∧ bumpR j k = k ∨ k ≠ 0 ∧ j < k ∧ bumpR j k = k + 1 := by
  unfold bumpR
  by_cases c : k = 0
  · exact .inl ⟨c, if_pos c⟩
  · rw [if_neg c]
    rcases bump_cases j (k - 1) with ⟨h1, h2⟩ | ⟨h1, h2⟩
    · exact .inr (.inl ⟨c, by omega, by omega⟩)
    · exact .inr (.inr ⟨c, by omega, by omega⟩)
theorem rkS_bump (j : Nat) : ∀ (s : List (Kd × Nat)) {σ τ : Nat → Nat}, (∀ x, x ∈ s.map (·.2) → τ x = bump j (σ x)) → rkS s τ = bumpR j (rkS s σ)
  | [], _, _, _ => rfl
  | (.F, x) :: r, σ, τ, h => by
    show τ x + 1 = bumpR j (σ x + 1)
    rw [h x List.mem_cons_self]
    rfl
  | (.L, x) :: r, σ, τ, h => rkS_bump j r fun y hy => h y (List.mem_cons_of_mem _ hy)
  | (.H, x) :: r, σ, τ, h => rkS_bump j r fun y hy => h y (List.mem_cons_of_mem _ hy)
theorem bumpR_le {j k v : Nat} : bumpR j k ≤ bump j v ↔ k ≤ v := by
  have h := bumpR_cases j k
  have h2 := bump_cases j v
  omega
theorem bumpR_gt {j k v : Nat} : bump j v + 1 < bumpR j k ↔ v + 1 < k := by
  have h := bumpR_cases j k
  have h2 := bump_cases j v
  omega
theorem goodS_bump (j : Nat) : ∀ (s : List (Kd × Nat)) {σ τ : Nat → Nat}, (∀ x, x ∈ s.map (·.2) → τ x = bump j (σ x)) → goodS s τ = goodS s σ
  | [], _, _, _ => rfl
  | (.F, x) :: r, σ, τ, h => by
    have h' : ∀ y, y ∈ r.map (·.2) → τ y = bump j (σ y) := fun y hy => h y (List.mem_cons_of_mem _ hy)
    show (goodS r τ && decide (rkS r τ ≤ τ x)) = (goodS r σ && decide (rkS r σ ≤ σ x))
    rw [goodS_bump j r h', rkS_bump j r h', h x List.mem_cons_self, decide_eq_decide.mpr bumpR_le]
  | (.L, x) :: r, σ, τ, h => by
    have h' : ∀ y, y ∈ r.map (·.2) → τ y = bump j (σ y) := fun y hy => h y (List.mem_cons_of_mem _ hy)
    show (goodS r τ && decide (τ x + 1 < rkS r τ)) = (goodS r σ && decide (σ x + 1 < rkS r σ))
    rw [goodS_bump j r h', rkS_bump j r h', h x List.mem_cons_self, decide_eq_decide.mpr bumpR_gt]
  | (.H, x) :: r, σ, τ, h => by
    have h' : ∀ y, y ∈ r.map (·.2) → τ y = bump j (σ y) := fun y hy => h y (List.mem_cons_of_mem _ hy)
    show (goodS r τ && decide (rkS r τ ≤ τ x)) = (goodS r σ && decide (rkS r σ ≤ σ x))
    rw [goodS_bump j r h', rkS_bump j r h', h x List.mem_cons_self, decide_eq_decide.mpr bumpR_le]
theorem rkS_le : ∀ (s : List (Kd × Nat)) {σ : Nat → Nat} {m : Nat}, (∀ x, x ∈ s.map (·.2) → σ x < m) → rkS s σ ≤ m
  | [], _, _, _ => Nat.zero_le _
  | (.F, x) :: _, _, _, h => h x List.mem_cons_self
  | (.L, _) :: r, _, _, h => rkS_le r fun y hy => h y (List.mem_cons_of_mem _ hy)
  | (.H, _) :: r, _, _, h => rkS_le r fun y hy => h y (List.mem_cons_of_mem _ hy)
/-! ### counts over ranges -/
theorem countR_lt {m r : Nat} (h : r ≤ m) : (List.range m).countP (fun j => decide (j < r)) = r := by
  induction m generalizing r with
  | zero => rw [Nat.le_zero.mp h]; rfl
  | succ m ih =>
    rw [List.range_succ, List.countP_append]
    by_cases c : r ≤ m
    · rw [ih c, List.countP_singleton, if_neg (by rw [decide_eq_true_iff]; omega)]
      rfl
    · have e : (List.range m).countP (fun j => decide (j < r)) = m := by
        rw [List.countP_eq_length.mpr fun a ha => decide_eq_true (by have := List.mem_range.mp ha; omega), List.length_range]
      rw [e, List.countP_singleton, if_pos (by rw [decide_eq_true_iff]; omega)]
      omega
theorem countR_ge {m r : Nat} (h : r ≤ m) : (List.range m).countP (fun j => decide (r ≤ j)) = m - r := by
  have h1 := List.length_eq_countP_add_countP (fun j => decide (j < r)) (l := List.range m)
  rw [List.length_range, countR_lt h] at h1
  have e : (List.range m).countP (fun a => decide ¬decide (a < r) = true) = (List.range m).countP (fun j => decide (r ≤ j)) := List.countP_congr fun a _ => by
    rw [decide_eq_true_iff, decide_eq_true_iff, decide_eq_true_iff]
    omega
  omega
theorem countR_eq {m k : Nat} (p : Nat → Bool) : (List.range m).countP (fun j => p j && (j + 1 == k)) = if 1 ≤ k ∧ k ≤ m ∧ p (k - 1) = true then 1 else 0 := by
  induction m with
  | zero =>
    rw [if_neg (by omega)]
    rfl
  | succ m ih =>
    rw [List.range_succ, List.countP_append, ih, List.countP_singleton]
    by_cases c : m + 1 = k
    · subst c
      rw [if_neg (by omega), beq_self_eq_true, Bool.and_true]
      by_cases d : p m = true
      · rw [if_pos d, if_pos ⟨by omega, by omega, d⟩]
      · rw [if_neg d, if_neg (fun h => d h.2.2)]
    · have e : ¬ (p m && (m + 1 == k)) = true := fun h => by rw [Bool.and_eq_true, beq_iff_eq] at h; exact c h.2
      rw [if_neg e]
      by_cases d : 1 ≤ k ∧ k ≤ m ∧ p (k - 1) = true
      · rw [if_pos d, if_pos ⟨d.1, by omega, d.2.2⟩]
      · rw [if_neg d, if_neg fun h => d ⟨h.1, by omega, h.2.2⟩]
theorem sum_ite {α : Type} (c : Nat) (p : α → Bool) : ∀ l : List α, (l.map fun a => if p a = true then c else 0).sum = c * l.countP p
  | [] => by rw [List.map_nil, List.countP_nil]; rfl
  | a :: r => by
    rw [List.map_cons, List.sum_cons, sum_ite c p r, List.countP_cons]
    by_cases h : p a = true
    · rw [if_pos h, if_pos h, Nat.mul_succ, Nat.add_comm]
    · rw [if_neg h, if_neg h, Nat.zero_add]
      rfl
theorem count_below {α : Type} (p : α → Bool) (f : α → Nat) (l : List α) : ∀ k : Nat, l.countP (fun a => p a && decide (f a < k)) = ((List.range k).map fun i => l.countP fun a => p a && (f a == i)).sum
  | 0 => by
    rw [List.countP_eq_zero.mpr fun a _ h => by rw [Bool.and_eq_true, decide_eq_true_iff] at h; exact absurd h.2 (Nat.not_lt_zero _)]
    rfl
  | k + 1 => by
    rw [List.range_succ, List.map_append, List.sum_append, ← count_below p f l k]
    show _ = _ + (l.countP (fun a => p a && (f a == k)) + 0)
    rw [Nat.add_zero]
    induction l with
    | nil => rfl
    | cons a r ih =>
      rw [List.countP_cons, List.countP_cons, List.countP_cons, ih]
      by_cases h : p a = true
      · rw [h, Bool.true_and, Bool.true_and, Bool.true_and]
        by_cases c : f a = k
        · rw [if_pos (decide_eq_true (by omega)), if_neg (by rw [decide_eq_true_iff]; omega), if_pos (by rw [beq_iff_eq]; exact c)]
          omega
        · by_cases d : f a < k
          · rw [if_pos (decide_eq_true (by omega)), if_pos (decide_eq_true d), if_neg (by rw [beq_iff_eq]; exact c)]
            omega
          · rw [if_neg (by rw [decide_eq_true_iff]; omega), if_neg (by rw [decide_eq_true_iff]; exact d), if_neg (by rw [beq_iff_eq]; exact c)]
            omega
      · rw [Bool.not_eq_true] at h
        rw [h, Bool.false_and, Bool.false_and, Bool.false_and]
        rfl
/-- how many arrangements put the last found one on place k -/
def cntK (s : List (Kd × Nat)) (k : Nat) : Nat := (arrs (s.map (·.2))).countP fun σ => goodS s σ && (rkS s σ == k)
theorem cnt_step {x m : Nat} {s : List Nat} (l : s.length = m) (p : (Nat → Nat) → Bool) : (arrs (x :: s)).countP p = ((arrs s).map fun σ => (List.range (m + 1)).countP fun j => p (insO x j σ)).sum := by
  show ((arrs s).flatMap _).countP p = _
  rw [List.countP_flatMap, ← l]
  refine congrArg List.sum (List.map_congr_left fun σ _ => ?_)
  show ((List.range (s.length + 1)).map _).countP p = _
  rw [List.countP_map]
  rfl
theorem ways_cnt : ∀ (s : List (Kd × Nat)), (s.map (·.2)).Nodup → (waysS s).length = s.length + 1 ∧ ∀ k, k ≤ s.length → (waysS s)[k]? = some (cntK s k)
  | [], _ => ⟨rfl, fun k hk => by rw [Nat.le_zero.mp hk]; rfl⟩
  | (c, x) :: r, nd => by
    obtain ⟨nx, nd⟩ := List.nodup_cons.mp nd
    obtain ⟨len, at_⟩ := ways_cnt r nd
    have lm : (r.map (·.2)).length = r.length := List.length_map _
    have bd : ∀ {σ}, σ ∈ arrs (r.map (·.2)) → rkS r σ ≤ r.length := fun {σ} h => rkS_le r fun y hy => by
      have := (arrs_val nd h).1 y hy
      omega
    have bmp : ∀ (σ : Nat → Nat) j, ∀ y, y ∈ r.map (·.2) → insO x j σ y = bump j (σ y) := fun σ j y hy => insO_ne _ _ fun e => nx (e ▸ hy)
    have big : ∀ k, k ≥ r.length + 1 → cntK r k = 0 := fun k hk => List.countP_eq_zero.mpr fun σ hσ h => by
      rw [Bool.and_eq_true, beq_iff_eq] at h
      have := bd hσ
      omega
    have gd : ∀ i, i ≤ r.length + 1 → (waysS r).getD i 0 = cntK r i := fun i hi => by
      rw [List.getD_eq_getElem?_getD]
      by_cases e : i = r.length + 1
      · rw [e, List.getElem?_eq_none (by omega), big _ (Nat.le_refl _)]
        rfl
      · rw [at_ i (by omega)]
        rfl
    cases c with
    | F =>
      refine ⟨by show (withF (waysS r)).length = _; rw [withF_len, len]; rfl, fun k hk => ?_⟩
      have hk : k ≤ r.length + 1 := hk
      show (withF (waysS r))[k]? = _
      unfold withF
      rw [List.getElem?_map, List.getElem?_range (by omega)]
      refine congrArg some ?_
      have e1 : (waysS r).take k = (List.range k).map (cntK r) := by
        apply List.ext_getElem?
        intro i
        rw [List.getElem?_take, List.getElem?_map]
        by_cases c : i < k
        · rw [if_pos c, List.getElem?_range c, at_ i (by omega)]
          rfl
        · rw [if_neg c, List.getElem?_eq_none (by rw [List.length_range]; omega)]
          rfl
      show ((waysS r).take k).sum = _
      rw [e1]
      have e2 := count_below (goodS r) (rkS r) (arrs (r.map (·.2))) k
      refine e2.symm.trans ?_
      show _ = (arrs (x :: r.map (·.2))).countP _
      rw [cnt_step lm, ← Nat.one_mul (List.countP _ _), ← sum_ite]
      refine congrArg List.sum (List.map_congr_left fun σ hσ => ?_)
      have hb := bd hσ
      have e3 : ∀ j, (goodS ((Kd.F, x) :: r) (insO x j σ) && (rkS ((Kd.F, x) :: r) (insO x j σ) == k)) = ((goodS r σ && decide (rkS r σ ≤ j)) && (j + 1 == k)) := fun j => by
        show ((goodS r (insO x j σ) && decide (rkS r (insO x j σ) ≤ insO x j σ x)) && (insO x j σ x + 1 == k)) = _
        rw [insO_at, goodS_bump j r (bmp σ j), rkS_bump j r (bmp σ j)]
        congr 2
        refine decide_eq_decide.mpr ?_
        have h := bumpR_cases j (rkS r σ)
        omega
      rw [List.countP_congr (fun j _ => by rw [e3 j])]
      rw [countR_eq fun j => goodS r σ && decide (rkS r σ ≤ j)]
      refine ite_congr (propext ?_) (fun _ => rfl) fun _ => rfl
      rw [Bool.and_eq_true, Bool.and_eq_true, decide_eq_true_iff, decide_eq_true_iff]
      constructor
      · rintro ⟨h1, h2⟩
        exact ⟨by omega, by omega, h1, by omega⟩
      · rintro ⟨h1, h2, h3, h4⟩
        exact ⟨h3, by omega⟩
    | L =>
      refine ⟨by show (withL (waysS r)).length = _; rw [withL_len, len]; rfl, fun k hk => ?_⟩
      have hk : k ≤ r.length + 1 := hk
      have key : cntK ((Kd.L, x) :: r) k = (k - 1) * if 1 ≤ k then cntK r (k - 1) else 0 := by
        show (arrs (x :: r.map (·.2))).countP _ = _
        rw [cnt_step lm]
        have e3 : ∀ σ, σ ∈ arrs (r.map (·.2)) → ((List.range (r.length + 1)).countP fun j => goodS ((Kd.L, x) :: r) (insO x j σ) && (rkS ((Kd.L, x) :: r) (insO x j σ) == k)) = if (goodS r σ && (rkS r σ + 1 == k)) = true then k - 1 else 0 := fun σ hσ => by
          have hb := bd hσ
          by_cases c : goodS r σ = true ∧ rkS r σ + 1 = k
          · rw [if_pos (by rw [Bool.and_eq_true, beq_iff_eq]; exact c)]
            have e4 : (List.range (r.length + 1)).countP (fun j => goodS ((Kd.L, x) :: r) (insO x j σ) && (rkS ((Kd.L, x) :: r) (insO x j σ) == k)) = (List.range (r.length + 1)).countP fun j => decide (j < rkS r σ) := List.countP_congr fun j _ => by
              show ((goodS r (insO x j σ) && decide (insO x j σ x + 1 < rkS r (insO x j σ))) && (rkS r (insO x j σ) == k)) = true ↔ _
              rw [insO_at, goodS_bump j r (bmp σ j), rkS_bump j r (bmp σ j), c.1, Bool.true_and, Bool.and_eq_true, decide_eq_true_iff, decide_eq_true_iff, beq_iff_eq]
              have h := bumpR_cases j (rkS r σ)
              omega
            rw [e4, countR_lt (by omega)]
            omega
          · rw [if_neg (by rw [Bool.and_eq_true, beq_iff_eq]; exact c)]
            refine List.countP_eq_zero.mpr fun j _ h => c ?_
            have h : ((goodS r (insO x j σ) && decide (insO x j σ x + 1 < rkS r (insO x j σ))) && (rkS r (insO x j σ) == k)) = true := h
            rw [insO_at, goodS_bump j r (bmp σ j), rkS_bump j r (bmp σ j), Bool.and_eq_true, Bool.and_eq_true, decide_eq_true_iff, beq_iff_eq] at h
            refine ⟨h.1.1, ?_⟩
            have h1 := h.1.2
            have h2 := h.2
            have h3 := bumpR_cases j (rkS r σ)
            omega
        rw [List.map_congr_left e3, sum_ite]
        congr 1
        by_cases c : 1 ≤ k
        · rw [if_pos c]
          refine List.countP_congr fun σ _ => ?_
          rw [Bool.and_eq_true, Bool.and_eq_true, beq_iff_eq, beq_iff_eq]
          exact and_congr_right fun _ => by omega
        · rw [if_neg c]
          exact List.countP_eq_zero.mpr fun σ _ h => by
            rw [Bool.and_eq_true, beq_iff_eq] at h
            omega
      rw [key]
      show (withL (waysS r))[k]? = _
      unfold withL
      cases k with
      | zero => rw [if_neg (by omega)]; rfl
      | succ k =>
        rw [List.getElem?_cons_succ, List.getElem?_map, List.getElem?_range (by omega), if_pos (by omega)]
        show some (k * (waysS r).getD k 0) = some ((k + 1 - 1) * cntK r (k + 1 - 1))
        rw [gd k (by omega)]
        rfl
    | H =>
      refine ⟨by show (withH (waysS r)).length = _; rw [withH_len, len]; rfl, fun k hk => ?_⟩
      have hk : k ≤ r.length + 1 := hk
      have key : cntK ((Kd.H, x) :: r) k = (r.length + 1 - k) * cntK r k := by
        show (arrs (x :: r.map (·.2))).countP _ = _
        rw [cnt_step lm]
        have e3 : ∀ σ, σ ∈ arrs (r.map (·.2)) → ((List.range (r.length + 1)).countP fun j => goodS ((Kd.H, x) :: r) (insO x j σ) && (rkS ((Kd.H, x) :: r) (insO x j σ) == k)) = if (goodS r σ && (rkS r σ == k)) = true then r.length + 1 - k else 0 := fun σ hσ => by
          have hb := bd hσ
          by_cases c : goodS r σ = true ∧ rkS r σ = k
          · rw [if_pos (by rw [Bool.and_eq_true, beq_iff_eq]; exact c)]
            have e4 : (List.range (r.length + 1)).countP (fun j => goodS ((Kd.H, x) :: r) (insO x j σ) && (rkS ((Kd.H, x) :: r) (insO x j σ) == k)) = (List.range (r.length + 1)).countP fun j => decide (rkS r σ ≤ j) := List.countP_congr fun j _ => by
              show ((goodS r (insO x j σ) && decide (rkS r (insO x j σ) ≤ insO x j σ x)) && (rkS r (insO x j σ) == k)) = true ↔ _
              rw [insO_at, goodS_bump j r (bmp σ j), rkS_bump j r (bmp σ j), c.1, Bool.true_and, Bool.and_eq_true, decide_eq_true_iff, decide_eq_true_iff, beq_iff_eq]
              have h := bumpR_cases j (rkS r σ)
              omega
            rw [e4, countR_ge (by omega)]
            omega
          · rw [if_neg (by rw [Bool.and_eq_true, beq_iff_eq]; exact c)]
            refine List.countP_eq_zero.mpr fun j _ h => c ?_
            have h : ((goodS r (insO x j σ) && decide (rkS r (insO x j σ) ≤ insO x j σ x)) && (rkS r (insO x j σ) == k)) = true := h
            rw [insO_at, goodS_bump j r (bmp σ j), rkS_bump j r (bmp σ j), Bool.and_eq_true, Bool.and_eq_true, decide_eq_true_iff, beq_iff_eq] at h
            refine ⟨h.1.1, ?_⟩
            have h1 := h.1.2
            have h2 := h.2
            have h3 := bumpR_cases j (rkS r σ)
            omega
        rw [List.map_congr_left e3, sum_ite]
        rfl
      rw [key]
      show (withH (waysS r))[k]? = _
      unfold withH
      by_cases c : k = r.length + 1
      · rw [List.getElem?_append_right (by rw [List.length_map, List.length_range]; omega), List.length_map, List.length_range, len, c, Nat.sub_self, Nat.zero_mul]
        rfl
      · rw [List.getElem?_append_left (by rw [List.length_map, List.length_range]; omega), List.getElem?_map, List.getElem?_range (by omega)]
        show some (((waysS r).length - k) * (waysS r).getD k 0) = _
        rw [gd k (by omega), len]
theorem ways_sum (s : List (Kd × Nat)) (nd : (s.map (·.2)).Nodup) : (waysS s).sum = (arrs (s.map (·.2))).countP (goodS s) := by
  obtain ⟨len, at_⟩ := ways_cnt s nd
  have e1 : waysS s = (List.range (s.length + 1)).map (cntK s) := by
    apply List.ext_getElem?
    intro i
    rw [List.getElem?_map]
    by_cases c : i ≤ s.length
    · rw [List.getElem?_range (by omega), at_ i c]
      rfl
    · rw [List.getElem?_eq_none (by omega), List.getElem?_eq_none (by rw [List.length_range]; omega)]
      rfl
  rw [e1]
  refine (count_below (goodS s) (rkS s) _ _).symm.trans (List.countP_congr fun σ hσ => ?_)
  rw [Bool.and_eq_true, decide_eq_true_iff]
  refine ⟨fun h => h.1, fun h => ⟨h, ?_⟩⟩
  have := rkS_le s (σ := σ) (m := s.length) fun y hy => by
    have := (arrs_val nd hσ).1 y hy
    rw [List.length_map] at this
    exact this
  omega
/-- the places left -/
def placesP (n : Nat) : Nat → Nat → Nat
  | 0, _ => 1
  | k + 1, p => placesP n k p * (p + k)
/-- others, put in anywhere -/
theorem arrs_dead (s : List (Kd × Nat)) : ∀ (d : List Nat), (d ++ s.map (·.2)).Nodup → (arrs (d ++ s.map (·.2))).countP (goodS s) = (arrs (s.map (·.2))).countP (goodS s) * placesP 0 d.length (s.length + 1)
  | [], _ => (Nat.mul_one _).symm
  | x :: d, nd => by
    obtain ⟨nx, nd⟩ := List.nodup_cons.mp nd
    show (arrs (x :: (d ++ s.map (·.2)))).countP (goodS s) = _ * (placesP 0 d.length (s.length + 1) * (s.length + 1 + d.length))
    rw [cnt_step rfl, ← Nat.mul_assoc, ← arrs_dead s d nd]
    have e : ∀ σ, σ ∈ arrs (d ++ s.map (·.2)) → ((List.range ((d ++ s.map (·.2)).length + 1)).countP fun j => goodS s (insO x j σ)) = if goodS s σ = true then s.length + 1 + d.length else 0 := fun σ _ => by
      have e1 : ∀ j, goodS s (insO x j σ) = goodS s σ := fun j => goodS_bump j s fun y hy => insO_ne _ _ fun e => nx (e ▸ List.mem_append_right _ hy)
      rw [List.countP_congr fun j _ => by rw [e1 j]]
      by_cases c : goodS s σ = true
      · rw [if_pos c, List.countP_eq_length.mpr fun _ _ => c, List.length_range, List.length_append, List.length_map]
        omega
      · rw [if_neg c, List.countP_eq_zero.mpr fun _ _ => c]
    rw [List.map_congr_left e, sum_ite, Nat.mul_comm]
theorem placesP_any (n m : Nat) : ∀ k p, placesP n k p = placesP m k p
  | 0, _ => rfl
  | k + 1, p => by
    show placesP n k p * _ = placesP m k p * _
    rw [placesP_any n m k p]
end HSP
namespace HSP
open PySem PySem.Spec PyProof.Rows L2
/-! ### slices -/
theorem cut_from (xs : List V) (k : Nat) : cutV xs (some (k : Int)) none = xs.drop k := by
  unfold cutV
  rw [HT.sIx_nat, HT.sIx_none]
  by_cases h : k ≤ xs.length
  · rw [Nat.min_eq_left h]
    exact List.take_of_length_le (by rw [List.length_drop]; exact Nat.le_refl _)
  · rw [Nat.min_eq_right (by omega), Nat.sub_self, List.take_zero, List.drop_eq_nil_of_le (by omega)]
theorem cut_to (xs : List V) (k : Nat) : cutV xs none (some (k : Int)) = xs.take k := by
  unfold cutV
  rw [HT.sIx_nat, HT.sIx_none, List.drop_zero, Nat.sub_zero]
  by_cases h : k ≤ xs.length
  · rw [Nat.min_eq_left h]
  · rw [Nat.min_eq_right (by omega), List.take_of_length_le (by omega), List.take_of_length_le (by omega)]
theorem cut_init (xs : List V) (x : V) : cutV (xs ++ [x]) none (some (-1)) = xs := by
  unfold cutV
  have e1 : HT.sIx (xs ++ [x]).length (xs ++ [x]).length (some (-1)) = xs.length := by
    show (if (-1 : Int) < 0 then ((-1 : Int) + ((xs ++ [x]).length : Int)).toNat else min (-1 : Int).toNat (xs ++ [x]).length) = _
    rw [if_pos (by decide), List.length_append, List.length_singleton]
    omega
  have e2 : HT.sIx (xs ++ [x]).length 0 none = 0 := rfl
  rw [e1, e2, List.drop_zero, Nat.sub_zero]
  exact List.take_left
/-- len(..) within a comprehension -/
def rLenK (K : PySem.W.Frag) : List V → Hp → VK → Prop := fun xs H Q => ∃ p ys, xs = [V.ref p] ∧ (SqL K H p ys ∨ SqT K H p ys) ∧ Q (.int ((ys.length : Nat) : Int)) H
end HSP
namespace HSP
open PySem PySem.Spec PyProof.Rows L2
/-! ## ways, by their ranks -/
def Small (ws : List Nat) : Prop := ∀ w, w ∈ ws → w < 2 ^ 5000
theorem nat_mulW {a b : Nat} (ha : a < 2 ^ 5000) (hb : b < 2 ^ 5000) : CMulW (a : Int) (b : Int) := wide_mul (a := 5000) (b := 5000) (show ((a : Nat) : Int).natAbs < _ from ha) (show ((b : Nat) : Int).natAbs < _ from hb) (by decide) (by decide) (by decide)
theorem few_lt {n : Nat} (h : n ≤ 1000) : n < 2 ^ 5000 := Nat.lt_of_le_of_lt h (Nat.lt_of_lt_of_le (show 1000 < 2 ^ 10 by decide) (Nat.pow_le_pow_right (by decide) (by decide)))
theorem getD_at {ws : List Nat} {i w : Nat} (h : ws[i]? = some w) : ws.getD i 0 = w := by
  rw [List.getD_eq_getElem?_getD, h]
  rfl
section
variable {P : Program} {w : World} {K : PySem.W.Frag} {mg : Str → Option Value} {base : Heap}
def spWays (f : List Nat → List Nat) : Sp := fun vs H Q _ => ∃ (a : Addr) (ws : List Nat), vs = [.ref a] ∧ H a = some (.lst (ws.map natV)) ∧ ws.length ≤ 900 ∧ Small ws ∧ ∀ (H' : Hp) (q : Addr), Same H H' → H q = none → H' q = some (.lst ((f ws).map natV)) → Q (.ref q) H'
end
end HSP
namespace HSP
open PySem PySem.Spec PyProof.Rows L2
/-! ## comprehensions with two for -/
section
variable {J J1 : It} {n n1 : Nat} {G G1 : Hp → Prop} {Y Y1 : Nat → Hp → V → Hp → Prop}
theorem lc2_it (w : Walk J n G Y) {g : TG} {tt : TT} {wi1 : TI} {g1 : TG} {tt1 : TT} {te : TE} {vs vs1 : List Nat} {σ : L2.St} {H1 : Hp} {D : Addr} {Qd : Hp → Prop} (Pv : Nat → Hp → Prop) (h0 : Pv 0 (upd H1 D (.lst []))) (hG : ∀ i H, i ≤ n → Pv i H → G H)
    (hs : ∀ i x H H', i < n → Pv i H → Y i H x H' → g x (wipe σ vs) H' fun σ2 H2 => wipe σ2 vs = wipe σ vs ∧ tt σ2 H2 fun b H3 =>
      if b = true then wi1 σ2 H3 fun J1 H4 => ∃ W1 : Nat → Nat → Hp → Prop, (∃ m, W1 0 m H4) ∧ ∀ j k H, W1 j k H →
        (J1.stop j H ∧ Pv (i + 1) H) ∨ (J1.go j H ∧ ∃ Nx1 : Hp → Prop, (∀ H', Nx1 H' → ∃ k', k' < k ∧ W1 (j + 1) k' H') ∧ ∀ x H', J1.yld j H x H' → g1 x (wipe σ2 vs1) H' fun σ3 H5 => wipe σ3 vs1 = wipe σ2 vs1 ∧ tt1 σ3 H5 fun b H6 =>
          if b = true then te σ3 H6 fun y H7 => ∃ acc, H7 D = some (.lst acc) ∧ acc.length < sizeLine ∧ Nx1 (upd H7 D (.lst (acc ++ [y]))) else Nx1 H6)
      else Pv (i + 1) H3) (hd : ∀ H, Pv n H → Qd H) :
    ∃ W : Nat → Nat → Hp → Prop, (∃ m, W 0 m (upd H1 D (.lst []))) ∧ ∀ i m H, W i m H →
      (J.stop i H ∧ Qd H) ∨ (J.go i H ∧ ∃ Nx : Hp → Prop, (∀ H', Nx H' → ∃ m', m' < m ∧ W (i + 1) m' H') ∧ ∀ x H', J.yld i H x H' → g x (wipe σ vs) H' fun σ2 H2 => wipe σ2 vs = wipe σ vs ∧ tt σ2 H2 fun b H3 =>
        if b = true then wi1 σ2 H3 fun J1 H4 => ∃ W1 : Nat → Nat → Hp → Prop, (∃ m, W1 0 m H4) ∧ ∀ j k H, W1 j k H →
          (J1.stop j H ∧ Nx H) ∨ (J1.go j H ∧ ∃ Nx1 : Hp → Prop, (∀ H', Nx1 H' → ∃ k', k' < k ∧ W1 (j + 1) k' H') ∧ ∀ x H', J1.yld j H x H' → g1 x (wipe σ2 vs1) H' fun σ3 H5 => wipe σ3 vs1 = wipe σ2 vs1 ∧ tt1 σ3 H5 fun b H6 =>
            if b = true then te σ3 H6 fun y H7 => ∃ acc, H7 D = some (.lst acc) ∧ acc.length < sizeLine ∧ Nx1 (upd H7 D (.lst (acc ++ [y]))) else Nx1 H6)
        else Nx H3) := by
  refine ⟨fun i m H => m = n - i ∧ i ≤ n ∧ Pv i H, ⟨n, by simp, Nat.zero_le _, h0⟩, ?_⟩
  rintro i m H ⟨rfl, hi, p⟩
  have q := hG i H hi p
  by_cases hlt : i < n
  · exact .inr ⟨w.goes i H hlt q, Pv (i + 1), fun H' p' => ⟨n - (i + 1), by omega, rfl, hlt, p'⟩, fun x H' y => hs i x H H' hlt p (w.yields i H x H' hlt q y)⟩
  · have e : i = n := by omega
    subst e
    exact .inl ⟨w.stops H q, hd H p⟩
/-- the inner for -/
theorem in_it (w : Walk J1 n1 G1 Y1) {g1 : TG} {tt1 : TT} {te : TE} {vs1 : List Nat} {σ2 : L2.St} {H4 : Hp} {D : Addr} {Nx : Hp → Prop} (Pv : Nat → Hp → Prop) (h0 : Pv 0 H4) (hG : ∀ i H, i ≤ n1 → Pv i H → G1 H)
    (hs : ∀ j x H H', j < n1 → Pv j H → Y1 j H x H' → g1 x (wipe σ2 vs1) H' fun σ3 H5 => wipe σ3 vs1 = wipe σ2 vs1 ∧ tt1 σ3 H5 fun b H6 =>
      if b = true then te σ3 H6 fun y H7 => ∃ acc, H7 D = some (.lst acc) ∧ acc.length < sizeLine ∧ Pv (j + 1) (upd H7 D (.lst (acc ++ [y]))) else Pv (j + 1) H6) (hd : ∀ H, Pv n1 H → Nx H) :
    ∃ W1 : Nat → Nat → Hp → Prop, (∃ m, W1 0 m H4) ∧ ∀ j k H, W1 j k H →
      (J1.stop j H ∧ Nx H) ∨ (J1.go j H ∧ ∃ Nx1 : Hp → Prop, (∀ H', Nx1 H' → ∃ k', k' < k ∧ W1 (j + 1) k' H') ∧ ∀ x H', J1.yld j H x H' → g1 x (wipe σ2 vs1) H' fun σ3 H5 => wipe σ3 vs1 = wipe σ2 vs1 ∧ tt1 σ3 H5 fun b H6 =>
        if b = true then te σ3 H6 fun y H7 => ∃ acc, H7 D = some (.lst acc) ∧ acc.length < sizeLine ∧ Nx1 (upd H7 D (.lst (acc ++ [y]))) else Nx1 H6) := by
  refine ⟨fun i m H => m = n1 - i ∧ i ≤ n1 ∧ Pv i H, ⟨n1, by simp, Nat.zero_le _, h0⟩, ?_⟩
  rintro i m H ⟨rfl, hi, p⟩
  have q := hG i H hi p
  by_cases hlt : i < n1
  · exact .inr ⟨w.goes i H hlt q, Pv (i + 1), fun H' p' => ⟨n1 - (i + 1), by omega, rfl, hlt, p'⟩, fun x H' y => hs i x H H' hlt p (w.yields i H x H' hlt q y)⟩
  · have e : i = n1 := by omega
    subst e
    exact .inl ⟨w.stops H q, hd H p⟩
end
end HSP
namespace HSP
open PySem PySem.Spec PyProof.Rows L2
section
variable {X : Cx}
/-- sum(a list of lists of values, a list of values) -/
def rSumV (K : PySem.W.Frag) : List V → Hp → VK → Prop := fun vs H Q => ∃ (a b : Addr) (rows : List Addr) (parts : List (List V)) (ms : List V), vs = [V.ref a, V.ref b] ∧ H a = some (.lst (rows.map V.ref)) ∧ H b = some (.lst ms) ∧
  Paired (fun r ns => H r = some (.lst ns)) rows parts ∧ ms.length + parts.flatten.length ≤ sizeLine ∧ ∀ (H' : Hp) (p : Addr), Same H H' → (p = b ∨ H p = none) → H' p = some (.lst (ms ++ parts.flatten)) → Q (.ref p) H'
theorem rowsV_of {P : Program} {w : World} {H : Hp} {h : Heap} (ok : HOk P w H h) : ∀ {rows : List Addr} {parts : List (List V)}, Paired (fun r ns => H r = some (.lst ns)) rows parts →
    ∃ pits : List (List Value), pits.length = rows.length ∧ (∀ j (hj : j < rows.length), ∃ m, h.get? rows[j] = some (LO (pits.getD j []) m)) ∧ Vals parts.flatten pits.flatten ∧ (pits.map List.length).sum = parts.flatten.length
  | [], [], .nil => ⟨[], rfl, fun j hj => absurd hj (Nat.not_lt_zero j), .nil, rfl⟩
  | r :: rows, ns :: parts, .cons e t => by
    obtain ⟨pits, h1, h2, h3, h4⟩ := rowsV_of ok t
    obtain ⟨z, its, n, v, g⟩ : ObjOk P w H h r (.lst ns) := ok r _ e
    refine ⟨its :: pits, by rw [List.length_cons, h1, List.length_cons], fun j hj => ?_, ?_, ?_⟩
    · cases j with
      | zero => exact ⟨n, g⟩
      | succ j => exact h2 j (Nat.lt_of_succ_lt_succ hj)
    · rw [List.flatten_cons, List.flatten_cons]
      exact v.append h3
    · rw [List.map_cons, List.sum_cons, h4, List.flatten_cons, List.length_append, ← v.length]
theorem cr_sumV (hc : X.calm = true) : CallR X (.builtin "sum") (rSumV X.K) := by
  intro pins s σ H vs us Q I r h
  obtain ⟨a, b, rows, parts, ms, rfl, ha, hb, hp, hz, q⟩ := h
  cases r with
  | cons r1 t1 =>
    cases t1 with
    | cons r2 t2 =>
      cases t2
      cases r1
      cases r2
      obtain ⟨za, its, n, va, ea⟩ : ObjOk X.prog X.w H s.heap a (.lst (rows.map V.ref)) := I.hok a _ ha
      obtain ⟨zb, it0, n0, vb, eb⟩ : ObjOk X.prog X.w H s.heap b (.lst ms) := I.hok b _ hb
      obtain ⟨pits, hl2, hg2, hv2, hn2⟩ := rowsV_of I.hok hp
      have e1 : (List.range rows.length).map (fun j => pits.getD j []) = pits := by
        have q := range_map (fun x : List Value => x) [] pits
        rw [List.map_id', hl2] at q
        exact q
      have e2 : ((List.range rows.length).map fun j => (pits.getD j []).length).sum = parts.flatten.length := by
        have q := range_map (fun x : List Value => x.length) [] pits
        rw [hl2] at q
        rw [q, hn2]
      refine sumL_call (I.ok.hd hc) (lits := its) (acc := it0) (parts := fun j => pits.getD j []) ea (refs_of va) eb hg2 (by rw [e2, ← vb.length]; exact hz) fun s' T c kp hg ho hT hw => ?_
      rw [e1] at hT
      have hvals : Vals (ms ++ parts.flatten) (it0 ++ pits.flatten) := by
        exact vb.append hv2
      rcases hw with ⟨z1, z2⟩ | hnew
      · subst z1
        cases hp
        refine ⟨.ref T, H, I.call' (ch := []) ho (Un.kept kp) (I.hok.kept kp) (by rw [hg]; exact I.bare) (fun _ z => nomatch z), rfl, q H T (Same.refl H) (.inl z2) ?_⟩
        rw [z2, hb, List.flatten_nil, List.append_nil]
      · have hn : H T = none := by
          cases eo : H T with
          | none => rfl
          | some o =>
            obtain ⟨u, hu⟩ := objOk_get (I.hok T o eo)
            rw [hnew] at hu
            cases hu
        refine ⟨.ref T, upd H T (.lst (ms ++ parts.flatten)), I.call' (ch := []) ho (Un.laidN kp hnew hn) (I.hok.laidN kp hn ⟨?_, _, c, hvals, hT⟩) (by rw [hg]; exact I.bare) (fun _ z => nomatch z), rfl, q _ T (Same.new hn) (.inr hn) upd_same⟩
        rw [List.length_append]
        exact hz
end
end HSP
namespace HSP
open PySem PySem.Spec PyProof.Rows L2
/-! ## set(a list of ints) -/
/-- a set that was just made, as the world bears it -/
abbrev nSet (w : World) : Obj := { cls := .type "set", dict := none, data := .set #[] 0 (.fresh 0 0 (!w.params.followText "set-order")) }
abbrev nIt (l : Addr) : Obj := { cls := .type "list_iterator", data := .fields #[.ref l, .int 0 0] }
section
variable {P : Program} {w : World} {A : Around} {E : Value → Shared → Prop} {s : Shared}
/-- what the filling of the new set leaves -/
def Filled (w : World) (s : Shared) (ns : List Int) (v : Value) (s2 : Shared) : Prop :=
  v = .none ∧ ∃ (h2 : Heap) (tk c : Nat), s2 = { s with heap := h2, toks := tk } ∧ SetR w h2 s.heap.objs.size (fun j => decide (j ∈ ns)) c ∧ c ≤ ns.length ∧ ∀ b o, s.heap.get? b = some o → h2.get? b = some o
theorem setL_fill {l : Addr} {items : Array Value} {nl : Nat} {dd : Option Addr} {sl : Array (Option Value)} (ns : List Int) (hh : A.handled = none) (el : s.heap.get? l = some { cls := .type "list", dict := dd, data := .seq items nl, slots := sl }) (hi : IntsAre items.toList ns) (hb : ns.length + 1 < scanBound) :
    codeAny (model P w) A (.call (.builtin "set.__init__") ⟨[.ref s.heap.objs.size, .ref l], []⟩) (wants (Filled w s ns) E) { s with heap := s.heap.push (nSet w) } := by
  have many : items.size = ns.length := by rw [← Array.length_toList]; exact IntsAre.length hi
  have lS : l < s.heap.objs.size := Heap.lt_size el
  have sz : (s.heap.push (nSet w)).objs.size = s.heap.objs.size + 1 := Heap.size_push ..
  have gS : (s.heap.push (nSet w)).get? s.heap.objs.size = some (nSet w) := Heap.get?_push_size _ rfl
  have el1 := Heap.get?_push_of_some (nSet w) el
  have isL : (s.heap.push (nSet w)).IsList l items := ⟨_, el1, rfl, nl, rfl⟩
  refine codeAny_call_builtin F.called_set.init.plain F.entry_set_init (check_set_init_1 ⟨_, gS, rfl⟩ ?_)
  have t1 := F.sub_list_set
  have t2 := F.sub_list_frozenset
  have t3 : (Value.type "list" == Value.type "dict") = false := by decide
  unfold Builtin.«set.__init__» noKeywords Builtin.Frozenset.updateFrom
  generalize hPI : pyIter = PI
  wp_walk
  subst hPI
  refine wpAny_pyIter_list isL (wpAny_bind (wpAny_runValue ?_))
  have nlI : l ≠ (s.heap.push (nSet w)).objs.size := by rw [sz]; exact Nat.ne_of_lt (Nat.lt_succ_of_lt lS)
  have offS : s.heap.objs.size ∉ [(s.heap.push (nSet w)).objs.size, l] := fun z => by
    rw [sz] at z
    rcases List.mem_cons.mp z with z | z
    · exact absurd z (Nat.ne_of_lt (Nat.lt_succ_self _))
    · exact absurd (List.mem_singleton.mp z) (Nat.ne_of_gt lS)
  have vals : ∀ (i : Nat) (v : Value), items[i]? = some v → ∃ k t, ns[i]? = some k ∧ v = .int k t := fun i v hv => by
    have lt : i < ns.length := by rw [← many]; exact (Array.getElem?_eq_some_iff.mp hv).1
    obtain ⟨t, e⟩ := IntsAre.int_at hi i v (by rw [Array.getElem?_toList]; exact hv)
    have eg : ns.getD i 0 = ns[i] := by rw [List.getD_eq_getElem?_getD, List.getElem?_eq_getElem lt]; rfl
    exact ⟨ns[i], t, List.getElem?_eq_getElem lt, by rw [e, eg]⟩
  refine set_update_ints (Walks.list (A := A.in1.in1) (by simp [hh]) _ l nlI items).toS s.heap.objs.size offS ns many hb vals (items.size - 0) 0 _ rfl (Nat.zero_le _) ?st ?new fun s2 c hm hc hR => ?_
  case st => exact ⟨⟨_, Heap.get?_push_size _ rfl, rfl, rfl⟩, isL.push _⟩
  case new => exact ⟨0, Nat.le_refl 0, setR_new_at (w := w) (show ((s.heap.push (nSet w)).push (nIt l)).get? s.heap.objs.size = some (nSet w) from Heap.get?_push_of_some _ gS)⟩
  obtain ⟨h2, g2, d2, tk2, os2⟩ := s2
  obtain rfl : g2 = s.gens := hm.gens
  obtain rfl : d2 = s.drawn := hm.drawn
  obtain rfl : os2 = s.os := hm.os
  rw [many] at hc
  refine wpAny_pure (wpAny_pure ⟨rfl, h2, tk2, c, rfl, hR, hc, fun b o e => ?_⟩)
  have bS : b < s.heap.objs.size := Heap.lt_size e
  refine hm.heap b o (fun z => ?_) (Heap.get?_push_of_some _ (Heap.get?_push_of_some _ e))
  rcases List.mem_cons.mp z with z | z
  · exact absurd z (Nat.ne_of_lt bS)
  · have z' := List.mem_singleton.mp z
    rw [sz] at z'
    exact absurd z' (Nat.ne_of_lt (Nat.lt_succ_of_lt bS))
theorem setL_call {l : Addr} {items : Array Value} {nl : Nat} {dd : Option Addr} {sl : Array (Option Value)} (ns : List Int) {Q : Value → Shared → Prop} (hh : A.handled = none) (el : s.heap.get? l = some { cls := .type "list", dict := dd, data := .seq items nl, slots := sl }) (hi : IntsAre items.toList ns) (hb : ns.length + 1 < scanBound)
    (h : ∀ s2, Filled w s ns .none s2 → Q (.ref s.heap.objs.size) s2) : wpAny (model P w) A (call (.type "set") [.ref l]) Q E s := by
  obtain ⟨cl, tl, f1⟩ := F.called_set.mro
  have f2 := F.called_set.made
  have f3 := F.called_set.sub
  have f4 := F.called_set.notType
  have f5 := F.called_set.canCreate
  have f6 := F.typeCall_set_1 (.ref l)
  refine wpAny_call (codeAny_of_tree (show wpAny _ _ (callAny (.type "set") _) _ _ _ from wpAny_pure ⟨Code.quiet_builtin _ (by decide +kernel), codeAny_builtin F.entry_type_call ?_⟩))
  rw [Around.under_plain (weight_type_call_type "set" [.ref l] []) rfl]
  repeat any_goals (first | assumption | wp_step)
  refine codeAny_mono (code_set_led1 (.ref l) (E := E) (Q₁ := fun v s1 => v = .ref s.heap.objs.size ∧ s1 = { s with heap := s.heap.push (nSet w) }) ⟨rfl, rfl⟩) fun r s1 hr => ?_
  match r, hr with
  | .error _, hr => exact hr
  | .ok (.ret v), hr =>
    obtain ⟨e1, e2⟩ := hr
    subst e1 e2
    have f7 := F.called_set.init.lookup
    have f8 := F.called_set.init.bind (.ref s.heap.objs.size)
    have f9 : Shared.TypeIs { s with heap := s.heap.push (nSet w) } (.ref s.heap.objs.size) "set" := ⟨_, Heap.get?_push_size _ rfl, rfl⟩
    repeat any_goals (first | assumption | wp_step)
    refine codeAny_mono (setL_fill (E := E) (A := A.in1) ns (by simp [hh]) el hi hb) fun r2 s2 hr2 => ?_
    match r2, hr2 with
    | .error _, hr2 => exact hr2
    | .ok (.ret u), hr2 =>
      obtain ⟨e3, q⟩ := hr2
      subst e3
      repeat any_goals (first | assumption | wp_step)
      exact h _ ⟨rfl, q⟩
end
section
variable {X : Cx}
/-- set(a list of ints): its members, at most as many as there are items -/
def rSetInts (w : World) : List V → Hp → VK → Prop := fun vs H Q => ∃ (a : Addr) (ns : List Int), vs = [V.ref a] ∧ H a = some (.lst (ns.map V.int)) ∧ ns.length ≤ 1000 ∧
  ∀ (p : Addr) (c : Nat), H p = none → c ≤ ns.length → Q (.ref p) (upd H p (SetO w p (fun j => decide (j ∈ ns)) c))
theorem cr_setInts (hc : X.calm = true) : CallR X (.type "set") (rSetInts X.w) := by
  intro pins s σ H vs us Q I r h
  obtain ⟨a, ns, rfl, ha, hl, q⟩ := h
  rw [Vals.ref1 r]
  obtain ⟨z, its, n, rv, e⟩ : ObjOk X.prog X.w H s.heap a (.lst (ns.map V.int)) := I.hok a _ ha
  refine setL_call ns (I.ok.hd hc) e (ints_of_vals rv) (by unfold scanBound; omega) fun s2 hf => ?_
  obtain ⟨_, h2, tk, c, rfl, hR, hc2, kp⟩ := hf
  have hn : H s.heap.objs.size = none := I.hok.fresh (Nat.le_refl _)
  exact ⟨.ref _, _, I.laid kp (Nat.le_refl _) (setO_new hR), rfl, q _ c hn hc2⟩
end
end HSP
namespace HSP
open PySem PySem.Spec PyProof.Rows L2
/-! ## lists of lists of numbers -/
def RowsAt (H0 H : Hp) (q : Addr) (ls : List (List Int)) : Prop := H0 q = none ∧ ∃ rows : List Addr, H q = some (.lst (rows.map V.ref)) ∧ Paired (fun a (l : List Int) => H a = some (.lst (l.map V.int)) ∧ H0 a = none) rows ls
/-- lists of lists, in one heap -/
def Flat (H0 H : Hp) (D : Addr) (row : Addr) (ls : List (List Int)) : Prop := ∃ rows : List Addr, H row = some (.lst (rows.map V.ref)) ∧ row ≠ D ∧ Paired (fun a (l : List Int) => H a = some (.lst (l.map V.int)) ∧ a ≠ D ∧ H0 a = none) rows ls
theorem flat_all {H0 H : Hp} {D : Addr} : ∀ {rs : List Addr} {lss : List (List (List Int))}, Paired (Flat H0 H D) rs lss → ∃ parts : List (List Addr), Paired (fun r (ns : List V) => H r = some (.lst ns)) rs (parts.map fun p => p.map V.ref) ∧ Paired (fun a (l : List Int) => H a = some (.lst (l.map V.int)) ∧ H0 a = none) parts.flatten lss.flatten
  | _, _, .nil => ⟨[], .nil, .nil⟩
  | _, _, .cons ⟨rows, e, _, p⟩ t => by
    obtain ⟨parts, h1, h2⟩ := flat_all t
    refine ⟨rows :: parts, .cons e h1, ?_⟩
    rw [List.flatten_cons, List.flatten_cons]
    exact Paired.app (Paired.mapP p fun _ _ h => ⟨h.1, h.2.2⟩) h2
theorem flat_put {H0 H H' : Hp} {D row : Addr} {ls : List (List Int)} {xs : List V} (h : Flat H0 H D row ls) (s : Same H H') : Flat H0 (upd H' D (.lst xs)) D row ls := by
  obtain ⟨rows, e, n, p⟩ := h
  exact ⟨rows, by rw [upd_ne n]; exact s _ _ e, n, Paired.mapP p fun a l h => ⟨by rw [upd_ne h.2.1]; exact s _ _ h.1, h.2⟩⟩
end HSP
namespace HSP
open PySem PySem.Spec PyProof.Rows L2
/-! ## all patterns: lists that rise by at most one -/
def stepA (r : List Int) : List (List Int) := [r ++ [r.getLastD 0 + 0], r ++ [r.getLastD 0 + 1]]
def rowsA : Nat → List (List Int)
  | 0 => [[0]]
  | k + 1 => (rowsA k).flatMap stepA
def rowsN (n : Nat) : List (List Int) := if n = 0 then [[]] else rowsA (n - 1)
theorem rowsA_len : ∀ k, (rowsA k).length = 2 ^ k ∧ ∀ r, r ∈ rowsA k → r.length = k + 1 ∧ ∀ v, v ∈ r → 0 ≤ v ∧ v ≤ (k : Int)
  | 0 => ⟨rfl, fun r hr => by
    rw [List.mem_singleton.mp hr]
    exact ⟨rfl, fun v hv => by rw [List.mem_singleton.mp hv]; exact ⟨Int.le_refl _, Int.le_refl _⟩⟩⟩
  | k + 1 => by
    obtain ⟨h1, h2⟩ := rowsA_len k
    refine ⟨?_, fun r hr => ?_⟩
    · show ((rowsA k).flatMap stepA).length = 2 ^ k * 2
      rw [← h1]
      generalize rowsA k = l
      induction l with
      | nil => rfl
      | cons a r ih => rw [List.flatMap_cons, List.length_append, ih, List.length_cons]; show 2 + _ = _; omega
    · obtain ⟨s, hs, h3⟩ := List.mem_flatMap.mp hr
      obtain ⟨l, b⟩ := h2 s hs
      have lst : 0 ≤ s.getLastD 0 ∧ s.getLastD 0 ≤ (k : Int) := by
        rcases List.eq_nil_or_concat s with e | ⟨s0, z, e⟩
        · rw [e]
          exact ⟨Int.le_refl 0, Int.natCast_nonneg k⟩
        · rw [e, List.concat_eq_append, List.getLastD_concat]
          exact b z (by rw [e, List.concat_eq_append]; exact List.mem_append_right _ (List.mem_singleton.mpr rfl))
      have all : ∀ d : Int, 0 ≤ d → d ≤ 1 → (s ++ [s.getLastD 0 + d]).length = k + 1 + 1 ∧ ∀ v, v ∈ s ++ [s.getLastD 0 + d] → 0 ≤ v ∧ v ≤ ((k + 1 : Nat) : Int) := fun d d0 d1 => by
        refine ⟨by rw [List.length_append, l]; rfl, fun v hv => ?_⟩
        rcases List.mem_append.mp hv with g | g
        · have := b v g
          omega
        · rw [List.mem_singleton.mp g]
          omega
      rcases List.mem_cons.mp h3 with e | e
      · rw [e]
        exact all 0 (by decide) (by decide)
      · rw [List.mem_singleton.mp e]
        exact all 1 (by decide) (by decide)
section
variable {P : Program} {w : World} {K : PySem.W.Frag} {mg : Str → Option Value} {base : Heap}
theorem sc_all_patterns : FnScope n_all_patterns ["tree"] (defScope s_all_patterns) := ⟨rfl, rfl, rfl, by decide +kernel, rfl, by decide +kernel, by decide +kernel⟩
theorem yes_lcA {σ : L2.St} {H : Hp} {A C : Hp → Prop} (h : A H) : tYes σ H fun b H3 => if b = true then A H3 else C H3 := by
  show if true = true then A H else C H
  exact iteT h
/-- patterns stand at q, one for each row -/
def PatsAt (H : Hp) (q : Addr) (t : Tr) (rows : List (List Int)) : Prop := ∃ as : List Addr, H q = some (.lst (as.map V.ref)) ∧ Paired (fun a (r : List Int) => H a = some (.lst (labsV (valAt r) t t.size))) as rows
def spAllP : Sp := fun vs H Q _ => ∃ (v : V) (t : Tr), vs = [v] ∧ TrAt H v t ∧ t.size ≤ 12 ∧ ∀ (H' : Hp) (q : Addr), Same H H' → H q = none → PatsAt H' q t (rowsN t.size) → Q (.ref q) H'
theorem ok_allP (B : Bl mg) (Co : Df P w K mg base "count_nodes" 1 ["tree"] spCount) (Lf : Df P w K mg base "labels_of" 4 ["tree", "values"] spLabels) (a : At K mg "all_patterns" s_all_patterns) : Df P w K mg base "all_patterns" 5 ["tree"] spAllP := by
  refine Df.mk' a sc_all_patterns (fun vs H Q E h => ?_) (fun _ _ _ _ _ _ us hl => match us, hl with | [_], _ => rfl) (fun f cdv A outer s H vs Q E hr h => ?_)
  · obtain ⟨_, _, rfl, _⟩ := h
    rfl
  obtain ⟨v, t, rfl, ht, hz, q⟩ := h
  have zero : 0 ≤ sizeLine := by show 0 ≤ sizeLine; decide
  have one : 1 ≤ sizeLine := by show 1 ≤ sizeLine; decide
  have two : 2 ≤ sizeLine := by show 2 ≤ sizeLine; decide
  refine ⟨_, (pss_cons (ps_set (i := 1) sc_all_patterns.nd rfl (.inl rfl) (pe_df Co (hr.mono (by decide)) (pa_cons (pv 0) pa_nil)))
 (C8.pss_cut (ps_set (i := 2) sc_all_patterns.nd rfl (.inl rfl) (pe_ifExp (pt_cmpR op_gt (pv 1) pe_int (nomark _)) (pe_lst (pa_cons (pe_lst (pa_cons pe_int pa_nil)) pa_nil)) (pe_lst (pa_cons (pe_lst pa_nil) pa_nil))))
 (pss_cons (ps_for PassesOwn.never rfl (pi_range1 (by rfl) B.range (pa_cons (pe_op op_sub (pv 1) pe_int) pa_nil)) (pg_name (i := 3) sc_all_patterns.nd rfl (.inl rfl)) (pss_one (ps_setLc2 (i := 2) (own := [("row", 4), ("step", 5)]) (vs1 := [5]) (g := (gName 4)) (g1 := (gName 5)) (tt := tYes) (tt1 := tYes) (by rfl) sc_all_patterns.nd rfl rfl (sw_true rfl rfl rfl (by decide +kernel)) (pi_list (pv 2)) (blkOk_by (N := n_all_patterns) (sc := defScope s_all_patterns) (by decide +kernel)) (by decide) (fun _ _ _ _ _ => (pg_name (i := 4) sc_all_patterns.nd rfl (.inl rfl))) (fun _ _ _ _ _ => pts_nil) (fun _ _ _ _ _ => by exact (show PI _ _ _ (iTup K _) from pi_tup (pe_tup (pa_cons pe_int (pa_cons pe_int pa_nil))))) (fun _ _ _ _ _ => (pg_name (i := 5) sc_all_patterns.nd rfl (.inl rfl))) (fun _ _ _ _ _ => pts_nil) (fun _ _ _ _ _ => (pe_op op_cat (pv 4) (pe_lst (pa_cons (pe_op op_add (pe_ix (show IxR _ (rIxL K) from ix_list) (pv 4) (pe_un un_neg pe_int) (fun _ _ => rfl)) (pv 5)) pa_nil)))))))
 (pss_one (ps_ret (pe_lc (own := [("row", 4)]) (g := (gName 4)) (tt := tYes) (by rfl) sc_all_patterns.nd (pi_list (pv 2)) (blkOk_by (N := n_all_patterns) (sc := defScope s_all_patterns) (by decide +kernel)) (fun _ _ _ _ _ => (pg_name (i := 4) sc_all_patterns.nd rfl (.inl rfl))) (fun _ _ _ _ _ => pts_nil) (fun _ _ _ _ _ => (pe_df Lf hr (pa_cons (pv 0) (pa_cons (pv 4) pa_nil)))))))))), ?_⟩
  refine ⟨v, rfl, v, t, rfl, ht, by omega, fun H0 s0 => ?_⟩
  refine ⟨fun σ H' => ∃ R : Addr, (∃ y3 y4 y5 : Option V, σ = [some v, some (natV t.size), some (.ref R), y3, y4, y5]) ∧ Same H H' ∧ RowsAt H H' R (if t.size = 0 then [[]] else [[0]]), ?_, fun σ H1 hX => ?_⟩
  · refine ⟨_, rfl, _, _, rfl, rfl, _, rfl, ite2 (fun c => ?_) (fun c => ?_)⟩
    · have c : (0 : Int) < (t.size : Int) := of_decide_eq_true c
      refine ⟨one, fun E0 hE0 => ⟨one, fun R hR => ?_⟩⟩
      have sE := Same.new (o := .lst [V.int 0]) hE0
      have sR := Same.new (o := .lst [V.ref E0]) hR
      refine ⟨R, ⟨none, none, none, rfl⟩, s0.trans (sE.trans sR), s0.free (sE.free hR), [E0], upd_same, ?_⟩
      rw [if_neg (by omega)]
      exact .cons ⟨sR _ _ upd_same, s0.free hE0⟩ .nil
    · have c : ¬ (0 : Int) < (t.size : Int) := fun z => c (decide_eq_true z)
      refine ⟨zero, fun E0 hE0 => ⟨one, fun R hR => ?_⟩⟩
      have sE := Same.new (o := .lst []) hE0
      have sR := Same.new (o := .lst [V.ref E0]) hR
      refine ⟨R, ⟨none, none, none, rfl⟩, s0.trans (sE.trans sR), s0.free (sE.free hR), [E0], upd_same, ?_⟩
      rw [if_pos (by omega)]
      exact .cons ⟨sR _ _ upd_same, s0.free hE0⟩ .nil
  obtain ⟨R, ⟨y3, y4, y5, rfl⟩, s1, rR⟩ := hX
  refine ⟨_, rfl, _, _, rfl, rfl, _, rfl, by omega, by omega, for_range (lo := 0) (n := (((t.size : Nat) : Int) - 1).toNat) (fun k σ H' => ∃ R : Addr, (∃ y3 y4 y5 : Option V, σ = [some v, some (natV t.size), some (.ref R), y3, y4, y5]) ∧ Same H H' ∧ RowsAt H H' R (if t.size = 0 then [[]] else rowsA k)) ⟨R, ⟨_, _, _, rfl⟩, s1, rR⟩ (fun k σ H2 hk h2 => ?_) (fun σ H2 h2 => ?_)⟩
  · obtain ⟨R, ⟨y3, y4, y5, rfl⟩, s2, nR, rows, eR, pR⟩ := h2
    have tn : ¬ t.size = 0 := by omega
    rw [if_neg tn] at pR
    obtain ⟨lk, rk⟩ := rowsA_len k
    have lr := Paired.length pR
    have k11 : k < 11 := by omega
    have few : 2 ^ k ≤ 2 ^ 11 := Nat.pow_le_pow_right (by decide) (by omega)
    refine ⟨_, rfl, R, rfl, ⟨_, .of eR⟩, fun D hD => ?_⟩
    have sD := Same.new (o := .lst []) hD
    have e1 : rowsA (k + 1) = ((rowsA k).map stepA).flatten := List.flatMap_def
    refine lc2_it (walk_list (K := K) (a := R) (xs := rows.map V.ref)) (fun i H' => Same H2 H' ∧ ∃ as : List Addr, H' D = some (.lst (as.map V.ref)) ∧ as.length = 2 * i ∧ Paired (fun a (l : List Int) => (H' a = some (.lst (l.map V.int)) ∧ a ≠ D) ∧ H a = none) as (((rowsA k).take i).map stepA).flatten) ⟨sD, [], upd_same, rfl, .nil⟩ (fun i H' _ h' => .of (h'.1 _ _ eR)) (fun i x H3 H4 hi h3 hy => ?_) (fun H3 h3 => ?_)
    · obtain ⟨s3, as, e3, l3, p3⟩ := h3
      obtain ⟨rfl, hx⟩ := hy
      rw [List.getElem?_map] at hx
      obtain ⟨c, hc, rfl⟩ := Option.map_eq_some_iff.mp hx
      obtain ⟨row, hrow, ec, _⟩ := Paired.getL pR hc
      have hi : i < rows.length := (List.getElem?_eq_some_iff.mp hc).1
      obtain ⟨rl, rb⟩ := rk row (List.mem_of_getElem? hrow)
      have et : (((rowsA k).take (i + 1)).map stepA).flatten = (((rowsA k).take i).map stepA).flatten ++ stepA row := by
        rw [List.take_add_one, hrow, List.map_append, List.flatten_append]
        show _ ++ [stepA row].flatten = _
        simp
      refine ⟨rfl, ?_⟩
      refine yes_lcA ?_
      refine ⟨two, fun T hT => ?_⟩
      have sT := Same.new (o := .tup [V.int 0, V.int 1]) hT
      have nTD : T ≠ D := (ne_of_none e3 hT).symm
      have eT : (upd H4 T (.tup [V.int 0, V.int 1])) T = some (.tup ([0, 1].map V.int)) := upd_same
      have ec3 := sT _ _ (s3 _ _ ec)
      have e33 := sT _ _ e3
      have p33 := Paired.mapP p3 fun a l h => (show ((upd H4 T (.tup [V.int 0, V.int 1])) a = some (.lst (l.map V.int)) ∧ a ≠ D) ∧ H a = none from ⟨⟨sT _ _ h.1.1, h.1.2⟩, h.2⟩)
      have s23 := s3.trans sT
      generalize upd H4 T (.tup [V.int 0, V.int 1]) = H5 at eT ec3 e33 p33 s23 ⊢
      refine ⟨T, rfl, ⟨_, .of eT⟩, ?_⟩
      have ll : atI (row.map V.int) (-1) = some (V.int (row.getLastD 0)) := by
        rcases List.eq_nil_or_concat row with e | ⟨r0, z, e⟩
        · rw [e] at rl
          cases rl
        · rw [e, List.concat_eq_append, List.getLastD_concat, List.map_append]
          exact atI_last _ _
      refine in_it (walk_tup (K := K) (a := T) (xs := ([0, 1] : List Int).map V.int)) (fun j H' => Same H2 H' ∧ H' T = some (.tup (([0, 1] : List Int).map V.int)) ∧ ∃ as : List Addr, H' D = some (.lst (as.map V.ref)) ∧ as.length = 2 * i + j ∧ Paired (fun a (l : List Int) => (H' a = some (.lst (l.map V.int)) ∧ a ≠ D) ∧ H a = none) as ((((rowsA k).take i).map stepA).flatten ++ (stepA row).take j)) ⟨s23, eT, as, e33, by omega, by rw [List.take_zero, List.append_nil]; exact p33⟩ (fun j H' _ h' => .of h'.2.1) (fun j x H6 H7 hj h6 hy => ?_) (fun H6 h6 => ?_)
      · obtain ⟨s6, eT6, as6, e6, l6, p6⟩ := h6
        obtain ⟨rfl, hx⟩ := hy
        have hj : j < 2 := hj
        rw [List.getElem?_map] at hx
        obtain ⟨d, hd, rfl⟩ := Option.map_eq_some_iff.mp hx
        have hs : (stepA row)[j]? = some (row ++ [row.getLastD 0 + d]) := by
          match j, hj, hd with
          | 0, _, h => rw [← Option.some.inj (show some (0 : Int) = some d from h)]; rfl
          | 1, _, h => rw [← Option.some.inj (show some (1 : Int) = some d from h)]; rfl
        have ec6 := s6 _ _ ec
        refine ⟨rfl, yes_lcA ?_⟩
        refine ⟨_, rfl, _, rfl, _, rfl, c, _, _, _, rfl, rfl, .of ec6, ll, _, rfl, _, _, rfl, rfl, one, fun Y hY => ⟨c, Y, _, _, rfl, rfl, Same.new hY _ _ ec6, upd_same, ?_, fun C hC => ?_⟩⟩
        · rw [List.length_map, rl]
          show k + 1 + 1 ≤ 16777216
          omega
        have sY := Same.new (o := .lst [V.int (row.getLastD 0 + d)]) hY
        have sC := Same.new (o := .lst (row.map V.int ++ [V.int (row.getLastD 0 + d)])) hC
        have sYC := sY.trans sC
        have nC : C ≠ D := (ne_of_none (sY _ _ e6) hC).symm
        refine ⟨_, sYC _ _ e6, ?_, fun b o eb => ?_, ?_, as6 ++ [C], ?_, ?_, ?_⟩
        · rw [List.length_map]
          show _ < 16777216
          omega
        · rw [upd_ne (ne_of_none eb hD)]
          exact sYC _ _ (s6 _ _ eb)
        · rw [upd_ne nTD]
          exact sYC _ _ eT6
        · rw [upd_same, List.map_append]
          rfl
        · rw [List.length_append, List.length_singleton, l6]
          omega
        · rw [List.take_add_one, hs, ← List.append_assoc]
          refine Paired.app (Paired.mapP p6 fun a l h => ⟨⟨?_, h.1.2⟩, h.2⟩) (.cons ⟨⟨?_, nC⟩, s2.free (s6.free (sY.free hC))⟩ .nil)
          · rw [upd_ne h.1.2]
            exact sYC _ _ h.1.1
          · rw [upd_ne nC, upd_same, List.map_append]
            rfl
      · obtain ⟨s6, eT6, as6, e6, l6, p6⟩ := h6
        exact ⟨s6, as6, e6, by rw [l6]; rfl, by rw [et]; exact p6⟩
    · obtain ⟨s3, as, e3, l3, p3⟩ := h3
      rw [List.length_map, lr, List.take_length, ← e1] at p3
      refine ⟨D, ⟨_, _, _, rfl⟩, s2.trans s3, s2.free hD, as, e3, ?_⟩
      rw [if_neg tn]
      exact Paired.mapP p3 fun _ _ h => ⟨h.1.1, h.2⟩
  · obtain ⟨R, ⟨y3, y4, y5, rfl⟩, s2, nR, rows, eR, pR⟩ := h2
    have er : (if t.size = 0 then [[]] else rowsA (((t.size : Nat) : Int) - 1).toNat) = rowsN t.size := by
      unfold rowsN
      by_cases c : t.size = 0
      · rw [if_pos c, if_pos c]
      · rw [if_neg c, if_neg c, show (((t.size : Nat) : Int) - 1).toNat = t.size - 1 by omega]
    rw [er] at pR
    have lr := Paired.length pR
    have good : (rowsN t.size).length ≤ 2048 ∧ ∀ r, r ∈ rowsN t.size → r.length = t.size := by
      unfold rowsN
      by_cases c : t.size = 0
      · rw [if_pos c, c]
        exact ⟨by decide, fun r hr => by rw [List.mem_singleton.mp hr]; rfl⟩
      · rw [if_neg c]
        obtain ⟨l, b⟩ := rowsA_len (t.size - 1)
        have few : 2 ^ (t.size - 1) ≤ 2 ^ 11 := Nat.pow_le_pow_right (by decide) (by omega)
        exact ⟨by rw [l]; omega, fun r hr => by have := (b r hr).1; omega⟩
    refine ⟨_, rfl, R, rfl, ⟨_, .of eR⟩, fun D hD => ?_⟩
    refine lc_list (xs := rows.map V.ref) (fun i H' => Same H2 H' ∧ ∃ as : List Addr, H' D = some (.lst (as.map V.ref)) ∧ as.length = i ∧ Paired (fun a (r : List Int) => H' a = some (.lst (labsV (valAt r) t t.size)) ∧ a ≠ D) as ((rowsN t.size).take i)) ⟨Same.new hD, [], upd_same, rfl, .nil⟩ (fun i H' _ h' => .of (h'.1 _ _ eR)) (fun i x H3 hx h3 => ?_) (fun H3 h3 => ?_)
    · obtain ⟨s3, as, e3, l3, p3⟩ := h3
      rw [List.getElem?_map] at hx
      obtain ⟨c, hc, rfl⟩ := Option.map_eq_some_iff.mp hx
      obtain ⟨row, hrow, ec, _⟩ := Paired.getL pR hc
      have hi := (List.getElem?_eq_some_iff.mp hc).1
      refine ⟨rfl, ?_⟩
      refine ⟨_, rfl, _, rfl, v, t, c, row, rfl, ht.same (s2.trans s3), by omega, s3 _ _ ec, good.2 row (List.mem_of_getElem? hrow), fun H4 q4 s4 n4 e4 => ?_⟩
      have e34 := s4 _ _ e3
      have nq : q4 ≠ D := fun z => by rw [z, e3] at n4; cases n4
      refine ⟨_, e34, ?_, fun b o eb => ?_, as ++ [q4], ?_, ?_, ?_⟩
      · rw [List.length_map]
        show _ < 16777216
        omega
      · rw [upd_ne (ne_of_none eb hD)]
        exact s4 _ _ (s3 _ _ eb)
      · rw [upd_same, List.map_append]
        rfl
      · rw [List.length_append, List.length_singleton, l3]
      · rw [List.take_add_one, hrow]
        refine Paired.app (Paired.mapP p3 fun a r h => ⟨?_, h.2⟩) (.cons ⟨?_, nq⟩ .nil)
        · rw [upd_ne h.2]
          exact s4 _ _ h.1
        · rw [upd_ne nq]
          exact e4
    · obtain ⟨s3, as, e3, l3, p3⟩ := h3
      rw [List.length_map, lr, List.take_length] at p3
      have s23 := s2.trans s3
      exact q H3 D s23 (s2.free hD) ⟨as, e3, Paired.mapP p3 fun _ _ h => h.1⟩
end
end HSP
namespace HSP
open PySem PySem.Spec PyProof.Rows L2
/-! ## orders with a pattern, counted block by block -/
theorem found_one {g : Nat → Int} {t : Tr} {o o' : Nat} (ho : o < t.size) (ho' : o' < t.size) (f : labAt g t o = .found) (f' : labAt g t o' = .found) (e : g o = g o') : o = o' := by
  have h1 := (lab_found g ho).mp f
  have h2 := (lab_found g ho').mp f'
  rw [e, h2] at h1
  exact (congrArg Prod.snd h1).symm
theorem owns_iff {g : Nat → Int} {t : Tr} {n o o' : Nat} (O : Owns g t n o') (ho : o < t.size) (f : labAt g t o = .found) : o' = o ↔ g o = repAt g (pOf t 0 n) n :=
  ⟨fun z => by rw [← z]; exact O.val, fun z => found_one O.lt ho O.found f (O.val.trans z.symm)⟩
/-- one node of a block -/
def wNode (g : Nat → Int) (t : Tr) (o : Nat) (ws : List Nat) (n : Nat) : List Nat :=
  if g o = repAt g (pOf t 0 n) n ∧ labAt g t n = .low then withL ws else if g o = repAt g (pOf t 0 n) n ∧ labAt g t n = .high then withH ws else ws
/-- one block -/
def wOwner (g : Nat → Int) (t : Tr) (ws : List Nat) (o : Nat) : List Nat := if labAt g t o = .found then (List.range t.size).foldl (wNode g t o) (withF ws) else ws
def waysOf (g : Nat → Int) (t : Tr) : List Nat := (List.range t.size).foldl (wOwner g t) [1]
def ordersN (g : Nat → Int) (t : Tr) : Nat := (waysOf g t).sum * placesP t.size (t.size + 1 - (waysOf g t).length) (waysOf g t).length
/-- how large the ways become -/
theorem sum_le {b : Nat} : ∀ {ws : List Nat}, (∀ w, w ∈ ws → w ≤ b) → ws.sum ≤ ws.length * b
  | [], _ => Nat.zero_le _
  | w :: r, h => by
    have ih := sum_le (ws := r) fun x hx => h x (List.mem_cons_of_mem _ hx)
    have h1 := h w List.mem_cons_self
    rw [List.sum_cons, List.length_cons, Nat.succ_mul]
    omega
theorem getD_le {b : Nat} {ws : List Nat} (h : ∀ w, w ∈ ws → w ≤ b) (i : Nat) : ws.getD i 0 ≤ b := by
  rw [List.getD_eq_getElem?_getD]
  cases e : ws[i]? with
  | none => exact Nat.zero_le _
  | some w => exact h w (List.mem_of_getElem? e)
theorem withF_le {b : Nat} {ws : List Nat} (h : ∀ w, w ∈ ws → w ≤ b) : ∀ w, w ∈ withF ws → w ≤ ws.length * b := fun w hw => by
  obtain ⟨i, _, rfl⟩ := List.mem_map.mp hw
  have h1 := sum_le (ws := ws.take i) fun x hx => h x (List.mem_of_mem_take hx)
  exact Nat.le_trans h1 (Nat.mul_le_mul_right _ (by rw [List.length_take]; omega))
theorem withL_le {b : Nat} {ws : List Nat} (h : ∀ w, w ∈ ws → w ≤ b) : ∀ w, w ∈ withL ws → w ≤ ws.length * b := fun w hw => by
  rcases List.mem_cons.mp hw with e | e
  · rw [e]
    exact Nat.zero_le _
  · obtain ⟨i, hi, rfl⟩ := List.mem_map.mp e
    exact Nat.mul_le_mul (Nat.le_of_lt (List.mem_range.mp hi)) (getD_le h i)
theorem withH_le {b : Nat} {ws : List Nat} (h : ∀ w, w ∈ ws → w ≤ b) : ∀ w, w ∈ withH ws → w ≤ ws.length * b := fun w hw => by
  rcases List.mem_append.mp hw with e | e
  · obtain ⟨i, hi, rfl⟩ := List.mem_map.mp e
    exact Nat.mul_le_mul (Nat.sub_le _ _) (getD_le h i)
  · rw [List.mem_singleton.mp e]
    exact Nat.zero_le _
end HSP
namespace HSP
open PySem PySem.Spec PyProof.Rows L2
/-! ## the orders with given labels are counted by `ordersN` -/
def nodeK (lab : Nat → Lb) (t : Tr) (o i : Nat) : Option (Kd × Nat) := if lab i = .low ∧ boundOf (lbStr lab) true (pOf t 0 i) none = some o then some (.L, i) else if lab i = .high ∧ boundOf (lbStr lab) false (pOf t 0 i) none = some o then some (.H, i) else none
def insideK (lab : Nat → Lb) (t : Tr) (o : Nat) : List (Kd × Nat) := (List.range t.size).filterMap (nodeK lab t o)
def blkK (lab : Nat → Lb) (t : Tr) (o : Nat) : List (Kd × Nat) := if lab o = .found then (.F, o) :: insideK lab t o else []
def stepsK (lab : Nat → Lb) (t : Tr) (k : Nat) : List (Kd × Nat) := (List.range k).flatMap (blkK lab t)
theorem stepsK_succ (lab : Nat → Lb) (t : Tr) (k : Nat) : stepsK lab t (k + 1) = stepsK lab t k ++ blkK lab t k := by
  unfold stepsK
  rw [List.range_succ, List.flatMap_append]
  simp
theorem foldl_same {α β : Type} {f g : β → α → β} : ∀ {l : List α} {a : β}, (∀ x, x ∈ l → ∀ b, f b x = g b x) → l.foldl f a = l.foldl g a
  | [], _, _ => rfl
  | x :: r, a, h => by
    rw [List.foldl_cons, List.foldl_cons, h x List.mem_cons_self]
    exact foldl_same fun y hy => h y (List.mem_cons_of_mem _ hy)
theorem foldl_flat {α β γ : Type} {f : α → List β} {g : γ → β → γ} : ∀ {l : List α} {a : γ}, (l.flatMap f).foldl g a = l.foldl (fun a x => (f x).foldl g a) a
  | [], _ => rfl
  | x :: r, a => by
    rw [List.flatMap_cons, List.foldl_append, List.foldl_cons]
    exact foldl_flat
theorem foldl_fm {α β γ : Type} {f : α → Option β} {g : γ → β → γ} : ∀ {l : List α} {a : γ}, (l.filterMap f).foldl g a = l.foldl (fun a x => match f x with | none => a | some y => g a y) a
  | [], _ => rfl
  | x :: r, a => by
    rw [List.filterMap_cons, List.foldl_cons]
    cases f x with
    | none => exact foldl_fm
    | some y => rw [List.foldl_cons]; exact foldl_fm
def stpW (ws : List Nat) (c : Kd × Nat) : List Nat := stepW c.1 ws
theorem node_step {g : Nat → Int} {t : Tr} {o i : Nat} (f : labAt g t o = .found) (ho : o < t.size) (hi : i < t.size) (vs : List Nat) : wNode g t o vs i = match nodeK (labAt g t) t o i with | none => vs | some c => stpW vs c := by
  have e1 : (g o = repAt g (pOf t 0 i) i ∧ labAt g t i = .low) ↔ (labAt g t i = .low ∧ boundOf (lbStr (labAt g t)) true (pOf t 0 i) none = some o) := by
    rw [And.comm]
    refine and_congr_right fun l => ?_
    obtain ⟨o', eb, O⟩ := owns_low hi l
    have eb : boundOf (lbStr (labAt g t)) true (pOf t 0 i) none = some o' := eb
    rw [eb, ← owns_iff O ho f]
    exact ⟨fun h => congrArg some h, fun h => Option.some.inj h⟩
  have e2 : (g o = repAt g (pOf t 0 i) i ∧ labAt g t i = .high) ↔ (labAt g t i = .high ∧ boundOf (lbStr (labAt g t)) false (pOf t 0 i) none = some o) := by
    rw [And.comm]
    refine and_congr_right fun l => ?_
    obtain ⟨o', eb, O⟩ := owns_high hi l
    have eb : boundOf (lbStr (labAt g t)) false (pOf t 0 i) none = some o' := eb
    rw [eb, ← owns_iff O ho f]
    exact ⟨fun h => congrArg some h, fun h => Option.some.inj h⟩
  unfold wNode nodeK
  by_cases c1 : g o = repAt g (pOf t 0 i) i ∧ labAt g t i = .low
  · rw [if_pos c1, if_pos (e1.mp c1)]
    rfl
  · rw [if_neg c1, if_neg fun z => c1 (e1.mpr z)]
    by_cases c2 : g o = repAt g (pOf t 0 i) i ∧ labAt g t i = .high
    · rw [if_pos c2, if_pos (e2.mp c2)]
      rfl
    · rw [if_neg c2, if_neg fun z => c2 (e2.mpr z)]
theorem inner_is {g : Nat → Int} {t : Tr} {o : Nat} (f : labAt g t o = .found) (ho : o < t.size) {j : Nat} (hj : j ≤ t.size) (ws : List Nat) : (List.range j).foldl (wNode g t o) ws = ((List.range j).filterMap (nodeK (labAt g t) t o)).foldl stpW ws := by
  rw [foldl_fm]
  exact foldl_same fun i hi vs => (node_step (i := i) f ho (Nat.lt_of_lt_of_le (List.mem_range.mp hi) hj) vs).trans (by cases nodeK (labAt g t) t o i <;> rfl)
theorem outer_is (g : Nat → Int) (t : Tr) {k : Nat} (hk : k ≤ t.size) : (List.range k).foldl (wOwner g t) [1] = (stepsK (labAt g t) t k).foldl stpW [1] := by
  unfold stepsK
  rw [foldl_flat]
  refine foldl_same fun o ho ws => ?_
  have ho := List.mem_range.mp ho
  unfold wOwner blkK
  by_cases f : labAt g t o = .found
  · rw [if_pos f, if_pos f, List.foldl_cons]
    unfold insideK
    exact inner_is f (by omega) (Nat.le_refl _) _
  · rw [if_neg f, if_neg f]
    rfl
theorem ways_steps (g : Nat → Int) (t : Tr) : waysOf g t = waysS (stepsK (labAt g t) t t.size).reverse := by
  unfold waysS
  rw [List.foldr_reverse]
  exact outer_is g t (Nat.le_refl _)
/-! ### good steps -/
def okK (o : Nat) (s : Nat → Nat) (c : Kd × Nat) : Prop := match c.1 with
  | .F => False
  | .L => s c.2 < s o
  | .H => s o < s c.2
theorem rk_inside (o : Nat) (s : Nat → Nat) (r : List (Kd × Nat)) : ∀ m : List (Kd × Nat), (∀ c, c ∈ m → c.1 ≠ .F) → rkS (m ++ (.F, o) :: r) s = s o + 1
  | [], _ => rfl
  | (.F, _) :: _, h => absurd rfl (h _ List.mem_cons_self)
  | (.L, _) :: m, h => rk_inside o s r m fun c hc => h c (List.mem_cons_of_mem _ hc)
  | (.H, _) :: m, h => rk_inside o s r m fun c hc => h c (List.mem_cons_of_mem _ hc)
theorem good_inside (o : Nat) (s : Nat → Nat) (r : List (Kd × Nat)) : ∀ m : List (Kd × Nat), (∀ c, c ∈ m → c.1 ≠ .F) → (goodS (m ++ (.F, o) :: r) s = true ↔ goodS ((.F, o) :: r) s = true ∧ ∀ c, c ∈ m → okK o s c)
  | [], _ => ⟨fun h => ⟨h, fun _ z => (nomatch z)⟩, fun h => h.1⟩
  | (.F, _) :: _, h => absurd rfl (h _ List.mem_cons_self)
  | (.L, x) :: m, h => by
    have h' : ∀ c, c ∈ m → c.1 ≠ .F := fun c hc => h c (List.mem_cons_of_mem _ hc)
    show (goodS (m ++ (.F, o) :: r) s && decide (s x + 1 < rkS (m ++ (.F, o) :: r) s)) = true ↔ _
    rw [Bool.and_eq_true, good_inside o s r m h', rk_inside o s r m h', decide_eq_true_iff, and_assoc, List.forall_mem_cons]
    refine and_congr_right fun _ => ⟨fun z => ⟨show s x < s o by omega, z.1⟩, fun z => ⟨z.2, ?_⟩⟩
    have : s x < s o := z.1
    omega
  | (.H, x) :: m, h => by
    have h' : ∀ c, c ∈ m → c.1 ≠ .F := fun c hc => h c (List.mem_cons_of_mem _ hc)
    show (goodS (m ++ (.F, o) :: r) s && decide (rkS (m ++ (.F, o) :: r) s ≤ s x)) = true ↔ _
    rw [Bool.and_eq_true, good_inside o s r m h', rk_inside o s r m h', decide_eq_true_iff, and_assoc, List.forall_mem_cons]
    refine and_congr_right fun _ => ⟨fun z => ⟨show s o < s x by omega, z.1⟩, fun z => ⟨z.2, ?_⟩⟩
    have : s o < s x := z.1
    omega
theorem inside_mem {lab : Nat → Lb} {t : Tr} {o : Nat} {c : Kd × Nat} : c ∈ insideK lab t o ↔ c.2 < t.size ∧ (c.1 = .L ∧ lab c.2 = .low ∧ boundOf (lbStr lab) true (pOf t 0 c.2) none = some o ∨ c.1 = .H ∧ lab c.2 = .high ∧ boundOf (lbStr lab) false (pOf t 0 c.2) none = some o) := by
  unfold insideK
  rw [List.mem_filterMap]
  constructor
  · rintro ⟨i, hi, e⟩
    unfold nodeK at e
    by_cases c1 : lab i = .low ∧ boundOf (lbStr lab) true (pOf t 0 i) none = some o
    · rw [if_pos c1] at e
      cases e
      exact ⟨List.mem_range.mp hi, .inl ⟨rfl, c1⟩⟩
    · rw [if_neg c1] at e
      by_cases c2 : lab i = .high ∧ boundOf (lbStr lab) false (pOf t 0 i) none = some o
      · rw [if_pos c2] at e
        cases e
        exact ⟨List.mem_range.mp hi, .inr ⟨rfl, c2⟩⟩
      · rw [if_neg c2] at e
        cases e
  · rintro ⟨h, h1 | h1⟩
    · refine ⟨c.2, List.mem_range.mpr h, ?_⟩
      unfold nodeK
      rw [if_pos h1.2]
      exact congrArg some (Prod.ext h1.1.symm rfl)
    · refine ⟨c.2, List.mem_range.mpr h, ?_⟩
      unfold nodeK
      rw [if_neg (fun z => by rw [h1.2.1] at z; cases z.1), if_pos h1.2]
      exact congrArg some (Prod.ext h1.1.symm rfl)
theorem inside_notF {lab : Nat → Lb} {t : Tr} {o : Nat} {c : Kd × Nat} (h : c ∈ insideK lab t o) : c.1 ≠ .F := by
  rcases (inside_mem.mp h).2 with e | e <;> (rw [e.1]; exact fun z => nomatch z)
/-- the rank behind the first k nodes -/
def RkAt (lab : Nat → Lb) (s : Nat → Nat) (k r : Nat) : Prop := (r = 0 ∧ ∀ a, a < k → lab a ≠ .found) ∨ ∃ l, l < k ∧ lab l = .found ∧ r = s l + 1 ∧ ∀ a, a < k → lab a = .found → a ≤ l
theorem rk_steps (lab : Nat → Lb) (t : Tr) (s : Nat → Nat) : ∀ k, RkAt lab s k (rkS (stepsK lab t k).reverse s)
  | 0 => .inl ⟨rfl, fun _ h => absurd h (Nat.not_lt_zero _)⟩
  | k + 1 => by
    rw [stepsK_succ, List.reverse_append]
    unfold blkK
    by_cases f : lab k = .found
    · rw [if_pos f, List.reverse_cons, List.append_assoc]
      show RkAt lab s (k + 1) (rkS ((insideK lab t k).reverse ++ (.F, k) :: _) s)
      rw [rk_inside k s _ _ fun c hc => inside_notF (List.mem_reverse.mp hc)]
      exact .inr ⟨k, Nat.lt_succ_self k, f, rfl, fun a ha _ => Nat.le_of_lt_succ ha⟩
    · rw [if_neg f]
      rcases rk_steps lab t s k with ⟨h1, h2⟩ | ⟨l, h1, h2, h3, h4⟩
      · exact .inl ⟨h1, fun a ha e => if c : a = k then f (c ▸ e) else h2 a (by omega) e⟩
      · exact .inr ⟨l, by omega, h2, h3, fun a ha e => if c : a = k then absurd (c ▸ e) f else h4 a (by omega) e⟩
theorem good_steps (lab : Nat → Lb) (t : Tr) (s : Nat → Nat) : ∀ k, goodS (stepsK lab t k).reverse s = true ↔ (∀ a b, a < b → b < k → lab a = .found → lab b = .found → s a < s b) ∧ ∀ o, o < k → lab o = .found → ∀ c, c ∈ insideK lab t o → okK o s c
  | 0 => ⟨fun _ => ⟨fun _ _ _ h => absurd h (Nat.not_lt_zero _), fun _ h => absurd h (Nat.not_lt_zero _)⟩, fun _ => rfl⟩
  | k + 1 => by
    rw [stepsK_succ, List.reverse_append]
    unfold blkK
    by_cases f : lab k = .found
    · rw [if_pos f, List.reverse_cons, List.append_assoc]
      show goodS ((insideK lab t k).reverse ++ (.F, k) :: _) s = true ↔ _
      rw [good_inside k s _ _ fun c hc => inside_notF (List.mem_reverse.mp hc)]
      show ((goodS (stepsK lab t k).reverse s && decide (rkS (stepsK lab t k).reverse s ≤ s k)) = true ∧ _) ↔ _
      rw [Bool.and_eq_true, good_steps lab t s k, decide_eq_true_iff]
      have rk := rk_steps lab t s k
      generalize rkS (stepsK lab t k).reverse s = r at rk ⊢
      constructor
      · rintro ⟨⟨⟨h1, h2⟩, h3⟩, h4⟩
        refine ⟨fun a b ab bk fa fb => ?_, fun o ok fo c hc => ?_⟩
        · by_cases e : b = k
          · subst e
            rcases rk with ⟨_, n⟩ | ⟨l, l1, l2, l3, l4⟩
            · exact absurd fa (n a ab)
            · have := l4 a ab fa
              by_cases e2 : a = l
              · subst e2
                omega
              · have := h1 a l (by omega) l1 fa l2
                omega
          · exact h1 a b ab (by omega) fa fb
        · by_cases e : o = k
          · subst e
            exact h4 c (List.mem_reverse.mpr hc)
          · exact h2 o (by omega) fo c hc
      · rintro ⟨h1, h2⟩
        refine ⟨⟨⟨fun a b ab bk => h1 a b ab (by omega), fun o ok => h2 o (by omega)⟩, ?_⟩, fun c hc => h2 k (Nat.lt_succ_self k) f c (List.mem_reverse.mp hc)⟩
        rcases rk with ⟨e, _⟩ | ⟨l, l1, l2, l3, l4⟩
        · omega
        · have := h1 l k l1 (Nat.lt_succ_self k) l2 f
          omega
    · rw [if_neg f]
      show goodS (stepsK lab t k).reverse s = true ↔ _
      rw [good_steps lab t s k]
      constructor
      · rintro ⟨h1, h2⟩
        exact ⟨fun a b ab bk fa fb => h1 a b ab (by have : b ≠ k := fun e => f (e ▸ fb); omega) fa fb, fun o ok fo => h2 o (by have : o ≠ k := fun e => f (e ▸ fo); omega) fo⟩
      · rintro ⟨h1, h2⟩
        exact ⟨fun a b ab bk => h1 a b ab (by omega), fun o ok => h2 o (by omega)⟩
/-- labels that are possible -/
def PossL (lab : Nat → Lb) (t : Tr) : Prop := ∀ n, n < t.size → possAt (lbStr lab) (pOf t 0 n) n = true
theorem bound_lt {lab : Nat → Lb} {t : Tr} {c : Bool} {n o : Nat} (hn : n < t.size) (e : boundOf (lbStr lab) c (pOf t 0 n) none = some o) : o < t.size ∧ lab o = .found := by
  obtain ⟨h1, h2⟩ := bound_in e
  exact ⟨by have h3 : o < 0 + t.size := (pOf_in t 0 n _ h1).2; omega, h2⟩
theorem poss_low {lab : Nat → Lb} {t : Tr} (po : PossL lab t) {n : Nat} (hn : n < t.size) (l : lab n = .low) : ∃ o, boundOf (lbStr lab) true (pOf t 0 n) none = some o := by
  have p0 := po n hn
  have e : lbStr lab n = ("low" : Str) := (str_low _).mpr l
  unfold possAt at p0
  by_cases c : (killerOf (lbStr lab) (pOf t 0 n)).isSome = true
  · rw [if_pos c, e] at p0
    exact absurd p0 (by decide +kernel)
  · rw [if_neg c, if_pos e] at p0
    exact Option.isSome_iff_exists.mp p0
theorem poss_high {lab : Nat → Lb} {t : Tr} (po : PossL lab t) {n : Nat} (hn : n < t.size) (l : lab n = .high) : ∃ o, boundOf (lbStr lab) false (pOf t 0 n) none = some o := by
  have p0 := po n hn
  have e : lbStr lab n = ("high" : Str) := (str_high _).mpr l
  unfold possAt at p0
  by_cases c : (killerOf (lbStr lab) (pOf t 0 n)).isSome = true
  · rw [if_pos c, e] at p0
    exact absurd p0 (by decide +kernel)
  · rw [if_neg c, if_neg (by rw [e]; decide +kernel), if_pos e] at p0
    exact Option.isSome_iff_exists.mp p0
theorem good_keeps {lab : Nat → Lb} {t : Tr} (s : Nat → Nat) (i : Nat → Int) (e : ∀ n, n < t.size → i n = (s n : Int)) : goodS (stepsK lab t t.size).reverse s = true ↔ Keeps lab t i := by
  rw [good_steps]
  constructor
  · rintro ⟨h1, h2⟩
    refine ⟨fun a b ab bk fa fb => ?_, fun n o hn l eb => ?_, fun n o hn l eb => ?_⟩
    · have := h1 a b ab bk fa fb
      rw [e a (by omega), e b bk]
      omega
    · obtain ⟨h3, h4⟩ := bound_lt hn eb
      have := h2 o h3 h4 (.L, n) (inside_mem.mpr ⟨hn, .inl ⟨rfl, l, eb⟩⟩)
      have : s n < s o := this
      rw [e n hn, e o h3]
      omega
    · obtain ⟨h3, h4⟩ := bound_lt hn eb
      have := h2 o h3 h4 (.H, n) (inside_mem.mpr ⟨hn, .inr ⟨rfl, l, eb⟩⟩)
      have : s o < s n := this
      rw [e n hn, e o h3]
      omega
  · intro k
    refine ⟨fun a b ab bk fa fb => ?_, fun o ok fo c hc => ?_⟩
    · have := k.up a b ab bk fa fb
      rw [e a (by omega), e b bk] at this
      omega
    · obtain ⟨h1, h2 | h2⟩ := inside_mem.mp hc
      · have := k.low c.2 o h1 h2.2.1 h2.2.2
        rw [e _ h1, e o ok] at this
        unfold okK
        rw [h2.1]
        show s c.2 < s o
        omega
      · have := k.high c.2 o h1 h2.2.1 h2.2.2
        rw [e _ h1, e o ok] at this
        unfold okK
        rw [h2.1]
        show s o < s c.2
        omega
/-! ### which nodes are put in -/
def ownK (lab : Nat → Lb) (t : Tr) (i : Nat) : Option Nat := match lab i with
  | .found => some i
  | .low => boundOf (lbStr lab) true (pOf t 0 i) none
  | .high => boundOf (lbStr lab) false (pOf t 0 i) none
  | .dead => none
theorem blk_nodes {lab : Nat → Lb} {t : Tr} {o i : Nat} (h : i ∈ (blkK lab t o).map (·.2)) : ownK lab t i = some o := by
  obtain ⟨c, hc, rfl⟩ := List.mem_map.mp h
  unfold blkK at hc
  by_cases f : lab o = .found
  · rw [if_pos f] at hc
    rcases List.mem_cons.mp hc with e | e
    · rw [e]
      unfold ownK
      rw [f]
    · unfold ownK
      rcases (inside_mem.mp e).2 with ⟨_, e2, e3⟩ | ⟨_, e2, e3⟩
      · rw [e2]
        exact e3
      · rw [e2]
        exact e3
  · rw [if_neg f] at hc
    cases hc
theorem inside_nodes (lab : Nat → Lb) (t : Tr) (o : Nat) : (insideK lab t o).map (·.2) = (List.range t.size).filter fun i => (nodeK lab t o i).isSome := by
  unfold insideK
  generalize List.range t.size = l
  induction l with
  | nil => rfl
  | cons x r ih =>
    rw [List.filterMap_cons, List.filter_cons]
    cases e : nodeK lab t o x with
    | none => exact ih
    | some c =>
      rw [if_pos (show (some c).isSome = true from rfl), List.map_cons, ih]
      congr 1
      unfold nodeK at e
      split at e
      · cases e; rfl
      · split at e
        · cases e; rfl
        · cases e
theorem steps_nodup (lab : Nat → Lb) (t : Tr) (k : Nat) : ((stepsK lab t k).map (·.2)).Nodup := by
  unfold stepsK
  rw [List.map_flatMap]
  refine nodup_flatMap (fun o _ => ?_) (List.nodup_range.imp fun {a b} ne i ha hb => ne (Option.some.inj ((blk_nodes ha).symm.trans (blk_nodes hb))))
  unfold blkK
  by_cases f : lab o = .found
  · rw [if_pos f, List.map_cons, inside_nodes]
    refine List.nodup_cons.mpr ⟨fun h => ?_, List.nodup_range.filter _⟩
    have := (List.mem_filter.mp h).2
    unfold nodeK at this
    rw [if_neg (fun z => by rw [f] at z; cases z.1), if_neg (fun z => by rw [f] at z; cases z.1)] at this
    cases this
  · rw [if_neg f]
    exact List.nodup_nil
theorem steps_mem {lab : Nat → Lb} {t : Tr} (po : PossL lab t) {i : Nat} : i ∈ (stepsK lab t t.size).map (·.2) ↔ i < t.size ∧ lab i ≠ .dead := by
  unfold stepsK
  rw [List.map_flatMap, List.mem_flatMap]
  constructor
  · rintro ⟨o, ho, hi⟩
    have ho := List.mem_range.mp ho
    have own := blk_nodes hi
    obtain ⟨c, hc, rfl⟩ := List.mem_map.mp hi
    refine ⟨?_, fun e => by unfold ownK at own; rw [e] at own; cases own⟩
    unfold blkK at hc
    by_cases f : lab o = .found
    · rw [if_pos f] at hc
      rcases List.mem_cons.mp hc with e | e
      · rw [e]; exact ho
      · exact (inside_mem.mp e).1
    · rw [if_neg f] at hc
      cases hc
  · rintro ⟨hi, nd⟩
    cases e : lab i with
    | dead => exact absurd e nd
    | found =>
      refine ⟨i, List.mem_range.mpr hi, ?_⟩
      unfold blkK
      rw [if_pos e]
      exact List.mem_cons_self
    | low =>
      obtain ⟨o, eb⟩ := poss_low po hi e
      obtain ⟨h3, h4⟩ := bound_lt hi eb
      refine ⟨o, List.mem_range.mpr h3, ?_⟩
      unfold blkK
      rw [if_pos h4]
      exact List.mem_cons_of_mem _ (List.mem_map.mpr ⟨(.L, i), inside_mem.mpr ⟨hi, .inl ⟨rfl, e, eb⟩⟩, rfl⟩)
    | high =>
      obtain ⟨o, eb⟩ := poss_high po hi e
      obtain ⟨h3, h4⟩ := bound_lt hi eb
      refine ⟨o, List.mem_range.mpr h3, ?_⟩
      unfold blkK
      rw [if_pos h4]
      exact List.mem_cons_of_mem _ (List.mem_map.mpr ⟨(.H, i), inside_mem.mpr ⟨hi, .inr ⟨rfl, e, eb⟩⟩, rfl⟩)
theorem steps_few {lab : Nat → Lb} {t : Tr} (po : PossL lab t) : (stepsK lab t t.size).length ≤ t.size := by
  have nd := steps_nodup lab t t.size
  have h : (((List.range t.size).filter fun i => decide (lab i ≠ .dead))).Perm ((stepsK lab t t.size).map (·.2)) := (List.perm_ext_iff_of_nodup (List.nodup_range.filter _) nd).mpr fun i => by
    rw [steps_mem po, List.mem_filter, List.mem_range, decide_eq_true_iff]
  have l := h.length_eq
  have := List.length_filter_le (fun i => decide (lab i ≠ .dead)) (List.range t.size)
  rw [List.length_range] at this
  rw [List.length_map] at l
  omega
theorem steps_part {lab : Nat → Lb} {t : Tr} {k : Nat} (hk : k ≤ t.size) : (stepsK lab t k).length ≤ (stepsK lab t t.size).length := by
  have key : ∀ d, (stepsK lab t k).length ≤ (stepsK lab t (k + d)).length := fun d => by
    induction d with
    | zero => exact Nat.le_refl _
    | succ d ih =>
      have e := stepsK_succ lab t (k + d)
      rw [← Nat.add_assoc, e, List.length_append]
      omega
  have := key (t.size - k)
  rw [show k + (t.size - k) = t.size by omega] at this
  exact this
theorem inside_part {lab : Nat → Lb} {t : Tr} {o j : Nat} (hj : j ≤ t.size) (ho : o < t.size) (f : lab o = .found) : (stepsK lab t o).length + 1 + ((List.range j).filterMap (nodeK lab t o)).length ≤ (stepsK lab t t.size).length := by
  have h := steps_part (lab := lab) (t := t) (k := o + 1) (by omega)
  rw [stepsK_succ, List.length_append] at h
  unfold blkK at h
  rw [if_pos f, List.length_cons] at h
  have e : ((List.range j).filterMap (nodeK lab t o)).length ≤ (insideK lab t o).length := by
    unfold insideK
    refine List.Sublist.length_le (List.Sublist.filterMap _ ?_)
    exact List.range_sublist.mpr hj
  omega
/-- the values of an order -/
def valN (o : List Nat) (i : Nat) : Int := ((o.getD i 0 : Nat) : Int)
theorem count_steps {lab : Nat → Lb} {t : Tr} (po : PossL lab t) : (ordersOf t.size t.size).countP (fun o => (List.range t.size).all fun i => decide (labAt (valN o) t i = lab i)) = (waysS (stepsK lab t t.size).reverse).sum * placesP 0 (t.size - (stepsK lab t t.size).length) ((stepsK lab t t.size).length + 1) := by
  have nd := steps_nodup lab t t.size
  have nd2 : ((stepsK lab t t.size).reverse.map (·.2)).Nodup := by
    rw [List.map_reverse]
    exact List.pairwise_reverse.mpr (nd.imp fun h e => h e.symm)
  have ndD : ((List.range t.size).filter fun i => decide (lab i = .dead)).Nodup := List.nodup_range.filter _
  have pm : (((List.range t.size).filter fun i => decide (lab i = .dead)) ++ (stepsK lab t t.size).reverse.map (·.2)).Perm (List.range t.size) := by
    refine (List.perm_ext_iff_of_nodup (List.nodup_append.mpr ⟨ndD, nd2, fun a ha b hb e => ?_⟩) List.nodup_range).mpr fun i => ?_
    · have h1 := of_decide_eq_true (List.mem_filter.mp ha).2
      rw [List.map_reverse, List.mem_reverse, ← e] at hb
      exact ((steps_mem po).mp hb).2 h1
    · rw [List.mem_append, List.mem_filter, List.map_reverse, List.mem_reverse, steps_mem po, List.mem_range, decide_eq_true_iff]
      constructor
      · rintro (h | h)
        · exact h.1
        · exact h.1
      · intro h
        by_cases c : lab i = .dead
        · exact .inl ⟨h, c⟩
        · exact .inr ⟨h, c⟩
  have len : ((List.range t.size).filter fun i => decide (lab i = .dead)).length = t.size - (stepsK lab t t.size).length := by
    have := pm.length_eq
    rw [List.length_append, List.length_map, List.length_reverse, List.length_range] at this
    omega
  rw [orders_count pm, ways_sum _ nd2]
  have dd := arrs_dead (stepsK lab t t.size).reverse _ (pm.nodup_iff.mpr List.nodup_range)
  rw [len, List.length_reverse] at dd
  rw [← dd]
  refine List.countP_congr fun s hs => ?_
  have ndA := pm.nodup_iff.mpr List.nodup_range
  have memA : ∀ x, x < t.size → x ∈ ((List.range t.size).filter fun i => decide (lab i = .dead)) ++ (stepsK lab t t.size).reverse.map (·.2) := fun x hx => pm.mem_iff.mpr (List.mem_range.mpr hx)
  obtain ⟨_, inj⟩ := arrs_val ndA hs
  have ev : ∀ n, n < t.size → valN ((List.range t.size).map s) n = (s n : Int) := fun n hn => by
    unfold valN
    rw [List.getD_eq_getElem?_getD, List.getElem?_map, List.getElem?_range hn]
    rfl
  rw [good_keeps s (valN ((List.range t.size).map s)) ev, ← keeps_iff po fun a b ha hb e => inj a b (memA a ha) (memA b hb) (by rw [ev a ha, ev b hb] at e; omega), List.all_eq_true]
  exact ⟨fun h n hn => of_decide_eq_true (h n (List.mem_range.mpr hn)), fun h n hn => decide_eq_true (h n (List.mem_range.mp hn))⟩
theorem orders_labs (g : Nat → Int) (t : Tr) : ordersN g t = (ordersOf t.size t.size).countP fun o => (List.range t.size).all fun i => decide (labAt (valN o) t i = labAt g t i) := by
  have po : PossL (labAt g t) t := fun n hn => labs_poss g t hn
  have nd := steps_nodup (labAt g t) t t.size
  have nd2 : ((stepsK (labAt g t) t t.size).reverse.map (·.2)).Nodup := by
    rw [List.map_reverse]
    exact List.pairwise_reverse.mpr (nd.imp fun h e => h e.symm)
  rw [count_steps po]
  unfold ordersN
  have e := (ways_cnt _ nd2).1
  rw [List.length_reverse] at e
  rw [ways_steps, e, placesP_any t.size 0]
  congr 2
  omega
end HSP
namespace HSP
open PySem PySem.Spec PyProof.Rows L2
/-! ## one value changed: the representative stays just if the value is held at the same bound -/
theorem rep_change {g g' : Nat → Int} {i : Nat} (other : ∀ j, j ≠ i → g' j = g j) : ∀ (t : Tr) (f : Nat) (lo hi : Option Int), (f ≤ i → i < f + t.size → clamp (stOf g lo hi (pOf t f i)).1 (stOf g lo hi (pOf t f i)).2 (g' i) = clamp (stOf g lo hi (pOf t f i)).1 (stOf g lo hi (pOf t f i)).2 (g i)) → repOf g' t f lo hi = repOf g t f lo hi
  | .nil, _, _, _, _ => rfl
  | .nod l r, f, lo, hi, h => by
    rw [size_nod, pOf_nod] at h
    rw [repOf_nod, repOf_nod]
    by_cases c : i = f + l.size
    · rw [if_pos c] at h
      have e : clamp lo hi (g' i) = clamp lo hi (g i) := h (by omega) (by omega)
      rw [← c, e, rep_change other l f lo _ (fun h1 h2 => by omega), rep_change other r (i + 1) _ hi (fun h1 h2 => by omega)]
    · rw [if_neg c] at h
      rw [other (f + l.size) (fun z => c z.symm)]
      by_cases d : i < f + l.size
      · rw [if_pos d] at h
        rw [rep_change other l f lo _ (fun h1 h2 => h h1 (by omega)), rep_change other r (f + l.size + 1) _ hi (fun h1 h2 => by omega)]
      · rw [if_neg d] at h
        rw [rep_change other l f lo _ (fun h1 h2 => by omega), rep_change other r (f + l.size + 1) _ hi (fun h1 h2 => h (by omega) (by omega))]
theorem st_congr {g g' : Nat → Int} : ∀ (p : List (Nat × Bool)) (lo hi : Option Int), (∀ z, z ∈ p → g' z.1 = g z.1) → stOf g' lo hi p = stOf g lo hi p
  | [], _, _, _ => rfl
  | (n, true) :: r, lo, hi, h => by
    show stOf g' (some (clamp lo hi (g' n))) hi r = stOf g (some (clamp lo hi (g n))) hi r
    rw [h (n, true) List.mem_cons_self, st_congr r _ _ fun z hz => h z (List.mem_cons_of_mem _ hz)]
  | (n, false) :: r, lo, hi, h => by
    show stOf g' lo (some (clamp lo hi (g' n))) r = stOf g lo (some (clamp lo hi (g n))) r
    rw [h (n, false) List.mem_cons_self, st_congr r _ _ fun z hz => h z (List.mem_cons_of_mem _ hz)]
theorem path_not : ∀ (t : Tr) (f i : Nat) (z : Nat × Bool), z ∈ pOf t f i → z.1 ≠ i
  | .nil, f, i, z, h => by
    cases h
  | .nod l r, f, i, z, h => by
    rw [pOf_nod] at h
    by_cases c : i = f + l.size
    · rw [if_pos c] at h
      cases h
    · rw [if_neg c] at h
      by_cases d : i < f + l.size
      · rw [if_pos d] at h
        rcases List.mem_cons.mp h with q | q
        · rw [q]
          exact fun e => c e.symm
        · exact path_not l f i z q
      · rw [if_neg d] at h
        rcases List.mem_cons.mp h with q | q
        · rw [q]
          exact fun e => c e.symm
        · exact path_not r (f + l.size + 1) i z q
/-- the other way: equal representatives hold the value at the same bound -/
theorem rep_changed {g g' : Nat → Int} {i : Nat} {t : Tr} (hi : i < t.size) (other : ∀ j, j ≠ i → g' j = g j) : repOf g' t 0 none none = repOf g t 0 none none ↔ clamp (stOf g none none (pOf t 0 i)).1 (stOf g none none (pOf t 0 i)).2 (g' i) = clamp (stOf g none none (pOf t 0 i)).1 (stOf g none none (pOf t 0 i)).2 (g i) := by
  constructor
  · intro h
    have h1 := repOf_at g t 0 none none i (Nat.zero_le _) (by omega)
    have h2 := repOf_at g' t 0 none none i (Nat.zero_le _) (by omega)
    rw [h, h1, st_congr (g := g) (g' := g') (pOf t 0 i) none none fun z hz => other _ (path_not t 0 i z hz)] at h2
    exact (Option.some.inj h2).symm
  · exact fun h => rep_change other t 0 none none fun _ _ => h
end HSP
namespace HSP
open PySem PySem.Spec PyProof.Rows L2
def omax : Option Int → Option Int → Option Int
  | none, b => b
  | some a, none => some a
  | some a, some b => some (max a b)
def omin : Option Int → Option Int → Option Int
  | none, b => b
  | some a, none => some a
  | some a, some b => some (min a b)
theorem st_dead (g : Nat → Int) (c : Int) : ∀ p : List (Nat × Bool), stOf g (some c) (some c) p = (some c, some c)
  | [] => rfl
  | (n, b) :: r => by
    have e : clamp (some c) (some c) (g n) = c := by
      show (if g n ≤ c then c else if g n ≥ c then c else g n) = c
      split
      · rfl
      · split
        · rfl
        · omega
    cases b with
    | true =>
      show stOf g (some (clamp (some c) (some c) (g n))) (some c) r = _
      rw [e]
      exact st_dead g c r
    | false =>
      show stOf g (some c) (some (clamp (some c) (some c) (g n))) r = _
      rw [e]
      exact st_dead g c r
theorem low_cons (g : Nat → Int) (n : Nat) (r : List (Nat × Bool)) (lo : Option Int) : omax lo (lowOf g ((n, true) :: r)) = omax (omax lo (some (g n))) (lowOf g r) := by
  have e : lowOf g ((n, true) :: r) = match lowOf g r with | none => some (g n) | some m => some (max (g n) m) := rfl
  rw [e]
  cases lo <;> cases lowOf g r
  · rfl
  · rfl
  · rfl
  · exact congrArg some (Int.max_assoc _ _ _).symm
theorem high_cons (g : Nat → Int) (n : Nat) (r : List (Nat × Bool)) (hi : Option Int) : omin hi (highOf g ((n, false) :: r)) = omin (omin hi (some (g n))) (highOf g r) := by
  have e : highOf g ((n, false) :: r) = match highOf g r with | none => some (g n) | some m => some (min (g n) m) := rfl
  rw [e]
  cases hi <;> cases highOf g r
  · rfl
  · rfl
  · rfl
  · exact congrArg some (Int.min_assoc _ _ _).symm
/-- bounds that leave room between them -/
def Room2 (lo hi : Option Int) : Prop := ∀ l h, lo = some l → hi = some h → l < h
/-- the bounds on a path: those of the values above, or one number for both -/
theorem st_bounds (g : Nat → Int) : ∀ (p : List (Nat × Bool)) (lo hi : Option Int), Room2 lo hi →
    (Room2 (omax lo (lowOf g p)) (omin hi (highOf g p)) ∧ stOf g lo hi p = (omax lo (lowOf g p), omin hi (highOf g p))) ∨ (¬ Room2 (omax lo (lowOf g p)) (omin hi (highOf g p)) ∧ ∃ c, stOf g lo hi p = (some c, some c))
  | [], lo, hi, s => by
    have e1 : omax lo (lowOf g []) = lo := by cases lo <;> rfl
    have e2 : omin hi (highOf g []) = hi := by cases hi <;> rfl
    rw [e1, e2]
    exact .inl ⟨s, rfl⟩
  | (n, true) :: r, lo, hi, s => by
    have eh : highOf g ((n, true) :: r) = highOf g r := rfl
    rw [low_cons, eh]
    have es : stOf g lo hi ((n, true) :: r) = stOf g (some (clamp lo hi (g n))) hi r := rfl
    rw [es]
    by_cases c : ∀ h, hi = some h → g n < h
    · have ec : some (clamp lo hi (g n)) = omax lo (some (g n)) := by
        cases lo with
        | none => cases hi with
          | none => rfl
          | some h =>
            have := c h rfl
            show some (if g n ≥ h then h else g n) = some (g n)
            rw [if_neg (by omega)]
        | some l => cases hi with
          | none =>
            show some (if g n ≤ l then l else g n) = some (max l (g n))
            congr 1
            split <;> omega
          | some h =>
            have := c h rfl
            have := s l h rfl rfl
            show some (if g n ≤ l then l else if g n ≥ h then h else g n) = some (max l (g n))
            congr 1
            split <;> (try split) <;> omega
      rw [ec]
      refine st_bounds g r _ hi fun l h e1 e2 => ?_
      have k := c h e2
      cases lo with
      | none => cases e1; exact k
      | some l0 =>
        have := s l0 h rfl e2
        have e1 : some (max l0 (g n)) = some l := e1
        have e1 := Option.some.inj e1
        omega
    · obtain ⟨h, eh2, k⟩ : ∃ h, hi = some h ∧ h ≤ g n := by
        cases hi with
        | none => exact absurd (fun h e => by cases e) c
        | some h => exact ⟨h, rfl, by by_cases q : g n < h; exact absurd (fun h' e => by cases e; exact q) c; omega⟩
      subst eh2
      have ec : clamp lo (some h) (g n) = h := by
        cases lo with
        | none =>
          show (if g n ≥ h then h else g n) = h
          rw [if_pos k]
        | some l =>
          have := s l h rfl rfl
          show (if g n ≤ l then l else if g n ≥ h then h else g n) = h
          rw [if_neg (by omega), if_pos k]
      rw [ec, st_dead]
      refine .inr ⟨fun q => ?_, h, rfl⟩
      obtain ⟨x, ex, hx⟩ : ∃ x, omax (omax lo (some (g n))) (lowOf g r) = some x ∧ g n ≤ x := by
        cases lo <;> cases lowOf g r
        · exact ⟨_, rfl, Int.le_refl _⟩
        · exact ⟨_, rfl, by omega⟩
        · exact ⟨_, rfl, by omega⟩
        · exact ⟨_, rfl, by omega⟩
      obtain ⟨y, ey, hy⟩ : ∃ y, omin (some h) (highOf g r) = some y ∧ y ≤ h := by
        cases highOf g r
        · exact ⟨_, rfl, Int.le_refl _⟩
        · exact ⟨_, rfl, by omega⟩
      have := q x y ex ey
      omega
  | (n, false) :: r, lo, hi, s => by
    have el : lowOf g ((n, false) :: r) = lowOf g r := rfl
    rw [high_cons, el]
    have es : stOf g lo hi ((n, false) :: r) = stOf g lo (some (clamp lo hi (g n))) r := rfl
    rw [es]
    by_cases c : ∀ l, lo = some l → l < g n
    · have ec : some (clamp lo hi (g n)) = omin hi (some (g n)) := by
        cases lo with
        | none => cases hi with
          | none => rfl
          | some h =>
            show some (if g n ≥ h then h else g n) = some (min h (g n))
            refine congrArg some ?_
            split <;> omega
        | some l => cases hi with
          | none =>
            have := c l rfl
            show some (if g n ≤ l then l else g n) = some (g n)
            rw [if_neg (by omega)]
          | some h =>
            have := c l rfl
            have := s l h rfl rfl
            show some (if g n ≤ l then l else if g n ≥ h then h else g n) = some (min h (g n))
            congr 1
            split <;> (try split) <;> omega
      rw [ec]
      refine st_bounds g r lo _ fun l h e1 e2 => ?_
      have k := c l e1
      cases hi with
      | none => cases e2; exact k
      | some h0 =>
        have := s l h0 e1 rfl
        have e2 : some (min h0 (g n)) = some h := e2
        have e2 := Option.some.inj e2
        omega
    · obtain ⟨l, el2, k⟩ : ∃ l, lo = some l ∧ g n ≤ l := by
        cases lo with
        | none => exact absurd (fun h e => by cases e) c
        | some l => exact ⟨l, rfl, by by_cases q : l < g n; exact absurd (fun h' e => by cases e; exact q) c; omega⟩
      subst el2
      have ec : clamp (some l) hi (g n) = l := by
        cases hi with
        | none =>
          show (if g n ≤ l then l else g n) = l
          rw [if_pos k]
        | some h =>
          show (if g n ≤ l then l else if g n ≥ h then h else g n) = l
          rw [if_pos k]
      rw [ec, st_dead]
      refine .inr ⟨fun q => ?_, l, rfl⟩
      obtain ⟨x, ex, hx⟩ : ∃ x, omax (some l) (lowOf g r) = some x ∧ l ≤ x := by
        cases lowOf g r
        · exact ⟨_, rfl, Int.le_refl _⟩
        · exact ⟨_, rfl, by omega⟩
      obtain ⟨y, ey, hy⟩ : ∃ y, omin (omin hi (some (g n))) (highOf g r) = some y ∧ y ≤ g n := by
        cases hi <;> cases highOf g r
        · exact ⟨_, rfl, Int.le_refl _⟩
        · exact ⟨_, rfl, by omega⟩
        · exact ⟨_, rfl, by omega⟩
        · exact ⟨_, rfl, by omega⟩
      have := q x y ex ey
      omega
end HSP
namespace HSP
open PySem PySem.Spec PyProof.Rows L2
/-! ## equal representatives, equal labels -/
theorem st_rep {g g' : Nat → Int} {i : Nat} : ∀ (t : Tr) (f : Nat) (lo hi : Option Int), repOf g' t f lo hi = repOf g t f lo hi → stOf g' lo hi (pOf t f i) = stOf g lo hi (pOf t f i)
  | .nil, _, _, _, _ => rfl
  | .nod l r, f, lo, hi, h => by
    rw [repOf_nod, repOf_nod] at h
    have l1 := repOf_len g' l f lo (some (clamp lo hi (g' (f + l.size))))
    have l2 := repOf_len g l f lo (some (clamp lo hi (g (f + l.size))))
    obtain ⟨h1, h2⟩ := List.append_inj h (by rw [l1, l2])
    obtain ⟨e, h3⟩ := List.cons.inj h2
    rw [e] at h1 h3
    rw [pOf_nod]
    by_cases c : i = f + l.size
    · rw [if_pos c]
      rfl
    · rw [if_neg c]
      by_cases d : i < f + l.size
      · rw [if_pos d]
        show stOf g' lo (some (clamp lo hi (g' (f + l.size)))) (pOf l f i) = stOf g lo (some (clamp lo hi (g (f + l.size)))) (pOf l f i)
        rw [e]
        exact st_rep l f lo _ h1
      · rw [if_neg d]
        show stOf g' (some (clamp lo hi (g' (f + l.size)))) hi (pOf r (f + l.size + 1) i) = stOf g (some (clamp lo hi (g (f + l.size)))) hi (pOf r (f + l.size + 1) i)
        rw [e]
        exact st_rep r (f + l.size + 1) _ hi h3
/-- the label, told by the bounds and the value of the representative -/
def labSt : Option Int × Option Int → Int → Lb
  | (none, none), _ => .found
  | (some l, none), r => if r = l then .low else .found
  | (none, some h), r => if r = h then .high else .found
  | (some l, some h), r => if l ≥ h then .dead else if r = l then .low else if r = h then .high else .found
theorem lab_st (g : Nat → Int) (t : Tr) (i : Nat) : labAt g t i = labSt (stOf g none none (pOf t 0 i)) (clamp (stOf g none none (pOf t 0 i)).1 (stOf g none none (pOf t 0 i)).2 (g i)) := by
  have ea : labAt g t i = lbOf (bndOf g (pOf t 0 i)) (g i) := rfl
  rw [ea]
  generalize pOf t 0 i = p
  generalize g i = v
  have e1 : omax none (lowOf g p) = lowOf g p := rfl
  have e2 : omin none (highOf g p) = highOf g p := rfl
  rcases st_bounds g p none none (fun l h e => by cases e) with ⟨rm, e⟩ | ⟨no, c, e⟩
  · rw [e1, e2] at rm e
    rw [e]
    have eb : bndOf g p = some (lowOf g p, highOf g p) := by
      unfold bndOf
      cases el : lowOf g p with
      | none => rfl
      | some a => cases eh : highOf g p with
        | none => rfl
        | some b =>
          have := rm a b el eh
          show (if a ≥ b then none else some (some a, some b)) = _
          rw [if_neg (by omega)]
    rw [eb]
    generalize lowOf g p = lo at rm
    generalize highOf g p = hi at rm
    cases lo with
    | none => cases hi with
      | none => rfl
      | some h =>
        show (if v ≥ h then Lb.high else .found) = if (if v ≥ h then h else v) = h then .high else .found
        by_cases c : v ≥ h
        · rw [if_pos c, if_pos c, if_pos rfl]
        · rw [if_neg c, if_neg c, if_neg (by omega)]
    | some l => cases hi with
      | none =>
        show (if v ≤ l then Lb.low else .found) = if (if v ≤ l then l else v) = l then .low else .found
        by_cases c : v ≤ l
        · rw [if_pos c, if_pos c, if_pos rfl]
        · rw [if_neg c, if_neg c, if_neg (by omega)]
      | some h =>
        have lh := rm l h rfl rfl
        show (if v ≤ l then Lb.low else if v ≥ h then .high else .found) = if l ≥ h then .dead else if (if v ≤ l then l else if v ≥ h then h else v) = l then .low else if (if v ≤ l then l else if v ≥ h then h else v) = h then .high else .found
        rw [if_neg (show ¬ l ≥ h by omega)]
        by_cases c : v ≤ l
        · rw [if_pos c, if_pos c, if_pos rfl]
        · rw [if_neg c, if_neg c]
          by_cases d : v ≥ h
          · rw [if_pos d, if_pos d, if_neg (by omega), if_pos rfl]
          · rw [if_neg d, if_neg d, if_neg (by omega), if_neg (by omega)]
  · rw [e]
    have eb : bndOf g p = none := by
      unfold bndOf
      rw [e1, e2] at no
      cases el : lowOf g p with
      | none => exact absurd (fun l h e => by rw [el] at e; cases e) no
      | some a => cases eh : highOf g p with
        | none => exact absurd (fun l h _ e => by rw [eh] at e; cases e) no
        | some b =>
          show (if a ≥ b then none else some (some a, some b)) = none
          by_cases q : a ≥ b
          · rw [if_pos q]
          · exact absurd (fun l h e1 e2 => by rw [el] at e1; rw [eh] at e2; cases e1; cases e2; omega) no
    rw [eb]
    show Lb.dead = if c ≥ c then .dead else _
    rw [if_pos (Int.le_refl c)]
/-- lists that act alike have the same labels -/
theorem lab_same {g g' : Nat → Int} {t : Tr} (h : repOf g' t 0 none none = repOf g t 0 none none) {i : Nat} (hi : i < t.size) : labAt g' t i = labAt g t i := by
  have h1 := repOf_at g t 0 none none i (Nat.zero_le _) (by omega)
  have h2 := repOf_at g' t 0 none none i (Nat.zero_le _) (by omega)
  rw [h, h1] at h2
  have e := Option.some.inj h2
  rw [lab_st, lab_st, ← e, st_rep t 0 none none h]
end HSP
namespace HSP
open PySem PySem.Spec PyProof.Rows L2
/-! ## each list has the labels of one row that rises by at most one -/
theorem low_cmp {g g' : Nat → Int} {n : Nat} (h : ∀ a b, a < n → b < n → (g a < g b ↔ g' a < g' b)) : ∀ p : List (Nat × Bool), (∀ z, z ∈ p → z.1 < n) → (lowOf g p = none ∧ lowOf g' p = none) ∨ ∃ a, a < n ∧ lowOf g p = some (g a) ∧ lowOf g' p = some (g' a)
  | [], _ => .inl ⟨rfl, rfl⟩
  | (m, false) :: r, hp => low_cmp h r fun z hz => hp z (List.mem_cons_of_mem _ hz)
  | (m, true) :: r, hp => by
    have hm : m < n := hp _ List.mem_cons_self
    have el : ∀ f : Nat → Int, lowOf f ((m, true) :: r) = match lowOf f r with | none => some (f m) | some x => some (max (f m) x) := fun _ => rfl
    rw [el, el]
    rcases low_cmp h r fun z hz => hp z (List.mem_cons_of_mem _ hz) with ⟨e1, e2⟩ | ⟨a, ha, e1, e2⟩
    · rw [e1, e2]
      exact .inr ⟨m, hm, rfl, rfl⟩
    · rw [e1, e2]
      have := h m a hm ha
      by_cases c : g m < g a
      · exact .inr ⟨a, ha, congrArg some (by omega), congrArg some (by omega)⟩
      · exact .inr ⟨m, hm, congrArg some (by omega), congrArg some (by omega)⟩
theorem high_cmp {g g' : Nat → Int} {n : Nat} (h : ∀ a b, a < n → b < n → (g a < g b ↔ g' a < g' b)) : ∀ p : List (Nat × Bool), (∀ z, z ∈ p → z.1 < n) → (highOf g p = none ∧ highOf g' p = none) ∨ ∃ a, a < n ∧ highOf g p = some (g a) ∧ highOf g' p = some (g' a)
  | [], _ => .inl ⟨rfl, rfl⟩
  | (m, true) :: r, hp => high_cmp h r fun z hz => hp z (List.mem_cons_of_mem _ hz)
  | (m, false) :: r, hp => by
    have hm : m < n := hp _ List.mem_cons_self
    have el : ∀ f : Nat → Int, highOf f ((m, false) :: r) = match highOf f r with | none => some (f m) | some x => some (min (f m) x) := fun _ => rfl
    rw [el, el]
    rcases high_cmp h r fun z hz => hp z (List.mem_cons_of_mem _ hz) with ⟨e1, e2⟩ | ⟨a, ha, e1, e2⟩
    · rw [e1, e2]
      exact .inr ⟨m, hm, rfl, rfl⟩
    · rw [e1, e2]
      have := h a m ha hm
      by_cases c : g a < g m
      · exact .inr ⟨a, ha, congrArg some (by omega), congrArg some (by omega)⟩
      · exact .inr ⟨m, hm, congrArg some (by omega), congrArg some (by omega)⟩
/-- labels hang on which values are less than which -/
theorem lab_cmp {g g' : Nat → Int} {t : Tr} (h : ∀ a b, a < t.size → b < t.size → (g a < g b ↔ g' a < g' b)) {i : Nat} (hi : i < t.size) : labAt g t i = labAt g' t i := by
  have hp : ∀ z, z ∈ pOf t 0 i → z.1 < t.size := fun z hz => by have h3 : z.1 < 0 + t.size := (pOf_in t 0 i _ hz).2; omega
  show lbOf (bndOf g (pOf t 0 i)) (g i) = lbOf (bndOf g' (pOf t 0 i)) (g' i)
  unfold bndOf
  have ge : ∀ {a b}, a < t.size → b < t.size → (g a ≥ g b ↔ g' a ≥ g' b) := fun {a b} ha hb => by
    have := h a b ha hb
    omega
  rcases low_cmp h _ hp with ⟨e1, e2⟩ | ⟨a, ha, e1, e2⟩ <;> rcases high_cmp h _ hp with ⟨e3, e4⟩ | ⟨b, hb, e3, e4⟩ <;> rw [e1, e2, e3, e4]
  · rfl
  · show (if g i ≥ g b then Lb.high else .found) = if g' i ≥ g' b then Lb.high else .found
    exact ite_congr (propext (ge hi hb)) (fun _ => rfl) fun _ => rfl
  · show (if g i ≤ g a then Lb.low else .found) = if g' i ≤ g' a then Lb.low else .found
    exact ite_congr (propext (ge ha hi)) (fun _ => rfl) fun _ => rfl
  · show lbOf (if g a ≥ g b then none else some (some (g a), some (g b))) (g i) = lbOf (if g' a ≥ g' b then none else some (some (g' a), some (g' b))) (g' i)
    by_cases c : g a ≥ g b
    · rw [if_pos c, if_pos ((ge ha hb).mp c)]
      rfl
    · rw [if_neg c, if_neg fun z => c ((ge ha hb).mpr z)]
      show (if g i ≤ g a then Lb.low else if g i ≥ g b then .high else .found) = if g' i ≤ g' a then Lb.low else if g' i ≥ g' b then .high else .found
      exact ite_congr (propext (ge ha hi)) (fun _ => rfl) fun _ => ite_congr (propext (ge hi hb)) (fun _ => rfl) fun _ => rfl
theorem lab_congr {g g' : Nat → Int} {t : Tr} (h : ∀ a, a < t.size → g a = g' a) {i : Nat} (hi : i < t.size) : labAt g t i = labAt g' t i := lab_cmp (fun a b ha hb => by rw [h a ha, h b hb]) hi
/-- a list has the labels of its representative -/
theorem lab_rep (g : Nat → Int) {t : Tr} {i : Nat} (hi : i < t.size) : labAt (valAt (repOf g t 0 none none)) t i = labAt g t i :=
  lab_same (rep_sorted (repOf_len g t 0 none none) (rep_up g t)) hi
/-! ### rows -/
def rwOf (f : Nat → Int) : Nat → Int
  | 0 => 0
  | i + 1 => rwOf f i + if f i = f (i + 1) then 0 else 1
theorem rw_cmp {f : Nat → Int} {n : Nat} (up : ∀ i, i + 1 < n → f i ≤ f (i + 1)) : ∀ (d a : Nat), a + d < n → f a ≤ f (a + d) ∧ rwOf f a ≤ rwOf f (a + d) ∧ (f a = f (a + d) ↔ rwOf f a = rwOf f (a + d))
  | 0, a, _ => ⟨Int.le_refl _, Int.le_refl _, ⟨fun _ => rfl, fun _ => rfl⟩⟩
  | d + 1, a, h => by
    obtain ⟨h1, h2, h3⟩ := rw_cmp up d a (by omega)
    have h4 := up (a + d) (by omega)
    have e : rwOf f (a + (d + 1)) = rwOf f (a + d) + if f (a + d) = f (a + d + 1) then 0 else 1 := rfl
    rw [e, ← Nat.add_assoc]
    by_cases c : f (a + d) = f (a + d + 1)
    · rw [if_pos c]
      omega
    · rw [if_neg c]
      omega
theorem rw_lt {f : Nat → Int} {n : Nat} (up : ∀ i, i + 1 < n → f i ≤ f (i + 1)) {a b : Nat} (ha : a < n) (hb : b < n) : rwOf f a < rwOf f b ↔ f a < f b := by
  by_cases c : a ≤ b
  · have := rw_cmp up (b - a) a (by omega)
    rw [show a + (b - a) = b by omega] at this
    omega
  · have := rw_cmp up (a - b) b (by omega)
    rw [show b + (a - b) = a by omega] at this
    omega
/-- one step more -/
def Steps (r : List Int) : Prop := r.head? = some 0 ∧ ∀ i, i + 1 < r.length → valAt r (i + 1) = valAt r i ∨ valAt r (i + 1) = valAt r i + 1
theorem rowsA_mem : ∀ (k : Nat) (r : List Int), r ∈ rowsA k ↔ r.length = k + 1 ∧ Steps r
  | 0, r => by
    show r ∈ [[0]] ↔ _
    rw [List.mem_singleton]
    constructor
    · rintro rfl
      exact ⟨rfl, rfl, fun i h => absurd h (by show ¬ i + 1 < 1; omega)⟩
    · rintro ⟨l, h, _⟩
      match r, l, h with
      | [x], _, h => rw [Option.some.inj h]
  | k + 1, r => by
    show r ∈ (rowsA k).flatMap stepA ↔ _
    rw [List.mem_flatMap]
    constructor
    · rintro ⟨s, hs, hr⟩
      obtain ⟨l, h1, h2⟩ := (rowsA_mem k s).mp hs
      have key : ∀ d : Int, d = 0 ∨ d = 1 → (s ++ [s.getLastD 0 + d]).length = k + 1 + 1 ∧ Steps (s ++ [s.getLastD 0 + d]) := fun d hd => by
        refine ⟨by rw [List.length_append, l]; rfl, ?_, fun i hi => ?_⟩
        · cases s with
          | nil => cases l
          | cons x y => exact h1
        · rw [List.length_append, l] at hi
          have hi : i + 1 < k + 1 + 1 := hi
          have e : ∀ j, j < k + 1 → valAt (s ++ [s.getLastD 0 + d]) j = valAt s j := fun j hj => by
            unfold valAt
            rw [List.getD_eq_getElem?_getD, List.getD_eq_getElem?_getD, List.getElem?_append_left (by omega)]
          by_cases c : i + 1 < k + 1
          · rw [e _ c, e _ (by omega)]
            exact h2 i (by omega)
          · have el : valAt (s ++ [s.getLastD 0 + d]) (i + 1) = s.getLastD 0 + d := by
              unfold valAt
              rw [List.getD_eq_getElem?_getD, List.getElem?_append_right (by omega), l, show i + 1 - (k + 1) = 0 by omega]
              rfl
            have eg : s.getLastD 0 = valAt s i := by
              unfold valAt
              rw [List.getD_eq_getElem?_getD, List.getLastD_eq_getLast?, List.getLast?_eq_getElem?, l, show k + 1 - 1 = i by omega]
            rw [el, e i (by omega), eg]
            rcases hd with e | e <;> rw [e]
            · exact .inl (Int.add_zero _)
            · exact .inr rfl
      rcases List.mem_cons.mp hr with e | e
      · rw [e]
        exact key 0 (.inl rfl)
      · rw [List.mem_singleton.mp e]
        exact key 1 (.inr rfl)
    · rintro ⟨l, h1, h2⟩
      rcases List.eq_nil_or_concat r with e | ⟨s, x, e⟩
      · rw [e] at l
        cases l
      rw [List.concat_eq_append] at e
      subst e
      have ls : s.length = k + 1 := by rw [List.length_append] at l; exact Nat.succ.inj l
      have ev : ∀ j, j < k + 1 → valAt (s ++ [x]) j = valAt s j := fun j hj => by
        unfold valAt
        rw [List.getD_eq_getElem?_getD, List.getD_eq_getElem?_getD, List.getElem?_append_left (by omega)]
      refine ⟨s, (rowsA_mem k s).mpr ⟨ls, ?_, fun i hi => ?_⟩, ?_⟩
      · cases s with
        | nil => cases ls
        | cons y z => exact h1
      · have := h2 i (by rw [List.length_append]; omega)
        rw [ev _ (by omega), ev _ (by omega)] at this
        exact this
      · have h3 := h2 k (by rw [List.length_append, ls]; exact Nat.lt_succ_self _)
        have el : valAt (s ++ [x]) (k + 1) = x := by
          unfold valAt
          rw [List.getD_eq_getElem?_getD, List.getElem?_append_right (by omega), ls, Nat.sub_self]
          rfl
        have eg : s.getLastD 0 = valAt s k := by
          unfold valAt
          rw [List.getD_eq_getElem?_getD, List.getLastD_eq_getLast?, List.getLast?_eq_getElem?, ls]
          rfl
        rw [el, ev k (by omega), ← eg] at h3
        rcases h3 with e | e <;> rw [e]
        · exact List.mem_cons.mpr (.inl (by rw [Int.add_zero]))
        · exact List.mem_cons_of_mem _ List.mem_cons_self
theorem rowsA_nodup : ∀ k, (rowsA k).Nodup
  | 0 => List.nodup_cons.mpr ⟨fun h => (nomatch h), List.nodup_nil⟩
  | k + 1 => by
    show ((rowsA k).flatMap stepA).Nodup
    refine nodup_flatMap (fun s _ => ?_) ((rowsA_nodup k).imp fun {s s'} ne b hb hc => ne ?_)
    · refine List.nodup_cons.mpr ⟨fun h => ?_, List.nodup_cons.mpr ⟨fun h => (nomatch h), List.nodup_nil⟩⟩
      have := (List.cons.inj (List.append_cancel_left (List.mem_singleton.mp h))).1
      omega
    · have e : ∀ {s : List Int} {b}, b ∈ stepA s → ∃ x, b = s ++ [x] := fun {s b} h => by
        rcases List.mem_cons.mp h with e | e
        · exact ⟨_, e⟩
        · exact ⟨_, List.mem_singleton.mp e⟩
      obtain ⟨x, e1⟩ := e hb
      obtain ⟨y, e2⟩ := e hc
      exact (List.append_inj' (e1.symm.trans e2) rfl).1
theorem rowsN_nodup (n : Nat) : (rowsN n).Nodup := by
  unfold rowsN
  split
  · exact List.nodup_cons.mpr ⟨fun h => (nomatch h), List.nodup_nil⟩
  · exact rowsA_nodup _
theorem rowsN_len {n : Nat} {r : List Int} (h : r ∈ rowsN n) : r.length = n := by
  unfold rowsN at h
  by_cases c : n = 0
  · rw [if_pos c] at h
    rw [List.mem_singleton.mp h, c]
    rfl
  · rw [if_neg c] at h
    have := ((rowsA_mem _ _).mp h).1
    omega
theorem rowsN_steps {n : Nat} {r : List Int} (h : r ∈ rowsN n) : ∀ i, i + 1 < n → valAt r (i + 1) = valAt r i ∨ valAt r (i + 1) = valAt r i + 1 := fun i hi => by
  unfold rowsN at h
  rw [if_neg (by omega)] at h
  obtain ⟨l, _, s⟩ := (rowsA_mem _ _).mp h
  exact s i (by omega)
theorem rowsN_zero {n : Nat} {r : List Int} (h : r ∈ rowsN n) (hn : 0 < n) : valAt r 0 = 0 := by
  unfold rowsN at h
  rw [if_neg (by omega)] at h
  obtain ⟨l, s, _⟩ := (rowsA_mem _ _).mp h
  match r, s with
  | x :: _, s => exact Option.some.inj s
theorem up_pair {r : List Int} (h : ∀ i, i + 1 < r.length → valAt r i ≤ valAt r (i + 1)) : r.Pairwise (· ≤ ·) := by
  rw [List.pairwise_iff_getElem]
  intro i j hi hj ij
  have key : ∀ d, i + d < r.length → valAt r i ≤ valAt r (i + d) := fun d => by
    induction d with
    | zero => exact fun _ => Int.le_refl _
    | succ d ih =>
      intro hd
      have h1 := ih (by omega)
      have h2 := h (i + d) (by omega)
      show valAt r i ≤ valAt r (i + d + 1)
      omega
  have := key (j - i) (by omega)
  rw [show i + (j - i) = j by omega] at this
  unfold valAt at this
  rw [List.getD_eq_getElem?_getD, List.getD_eq_getElem?_getD, List.getElem?_eq_getElem hi, List.getElem?_eq_getElem hj] at this
  exact this
theorem rowsN_up {n : Nat} {r : List Int} (h : r ∈ rowsN n) : r.Pairwise (· ≤ ·) := up_pair fun i hi => by
  have := rowsN_steps h i (by rw [rowsN_len h] at hi; exact hi)
  omega
theorem valAt_range (f : Nat → Int) {n i : Nat} (h : i < n) : valAt ((List.range n).map f) i = f i := by
  unfold valAt
  rw [List.getD_eq_getElem?_getD, List.getElem?_map, List.getElem?_range h]
  rfl
/-- each list has the labels of a row -/
theorem row_there (g : Nat → Int) (t : Tr) : ∃ r, r ∈ rowsN t.size ∧ ∀ i, i < t.size → labAt (valAt r) t i = labAt g t i := by
  have up : ∀ i, i + 1 < t.size → valAt (repOf g t 0 none none) i ≤ valAt (repOf g t 0 none none) (i + 1) := fun i hi => by
    have h := List.pairwise_iff_getElem.mp (rep_up g t) i (i + 1) (by rw [repOf_len]; omega) (by rw [repOf_len]; omega) (Nat.lt_succ_self i)
    unfold valAt
    rw [List.getD_eq_getElem?_getD, List.getD_eq_getElem?_getD, List.getElem?_eq_getElem (by rw [repOf_len]; omega), List.getElem?_eq_getElem (by rw [repOf_len]; omega)]
    exact h
  refine ⟨(List.range t.size).map (rwOf (valAt (repOf g t 0 none none))), ?_, fun i hi => ?_⟩
  · unfold rowsN
    by_cases c : t.size = 0
    · rw [if_pos c, c]
      exact List.mem_singleton.mpr rfl
    · rw [if_neg c]
      refine (rowsA_mem _ _).mpr ⟨by rw [List.length_map, List.length_range]; omega, ?_, fun i hi => ?_⟩
      · rw [List.head?_map, show t.size = t.size - 1 + 1 by omega, List.range_succ_eq_map]
        rfl
      · rw [List.length_map, List.length_range] at hi
        rw [valAt_range _ hi, valAt_range _ (by omega)]
        have e : ∀ f : Nat → Int, rwOf f (i + 1) = rwOf f i + if f i = f (i + 1) then 0 else 1 := fun _ => rfl
        rw [e]
        split
        · exact .inl (Int.add_zero _)
        · exact .inr rfl
  · rw [← lab_rep g hi]
    refine lab_cmp (fun a b ha hb => ?_) hi
    rw [valAt_range _ ha, valAt_range _ hb]
    exact rw_lt up ha hb
/-- and one alone -/
theorem own_both {g g' : Nat → Int} {t : Tr} (e : ∀ i, i < t.size → labAt g t i = labAt g' t i) : ∀ (m n : Nat), (pOf t 0 n).length < m → n < t.size → ∃ o, Owns g t n o ∧ Owns g' t n o
  | 0, _, h, _ => absurd h (Nat.not_lt_zero _)
  | m + 1, n, hm, hn => by
    have bd : ∀ c, boundOf (fun i => (labAt g t i).str) c (pOf t 0 n) none = boundOf (fun i => (labAt g' t i).str) c (pOf t 0 n) none := fun c => by
      have key : ∀ (p : List (Nat × Bool)) (z : Option Nat), (∀ y, y ∈ p → y.1 < t.size) → boundOf (fun i => (labAt g t i).str) c p z = boundOf (fun i => (labAt g' t i).str) c p z := fun p => by
        induction p with
        | nil => exact fun _ _ => rfl
        | cons y r ih =>
          intro z hy
          have e := e y.1 (hy y List.mem_cons_self)
          show boundOf (fun i => (labAt g t i).str) c r (if y.2 = c ∧ (labAt g t y.1).str = ("found" : Str) then some y.1 else z) = boundOf (fun i => (labAt g' t i).str) c r (if y.2 = c ∧ (labAt g' t y.1).str = ("found" : Str) then some y.1 else z)
          rw [e]
          exact ih _ fun x hx => hy x (List.mem_cons_of_mem _ hx)
      exact key _ _ fun y hy => by have h3 : y.1 < 0 + t.size := (pOf_in t 0 n _ hy).2; omega
    have kl : killerOf (fun i => (labAt g t i).str) (pOf t 0 n) = killerOf (fun i => (labAt g' t i).str) (pOf t 0 n) := by
      have key : ∀ (p : List (Nat × Bool)), (∀ y, y ∈ p → y.1 < t.size) → killerOf (fun i => (labAt g t i).str) p = killerOf (fun i => (labAt g' t i).str) p := fun p => by
        induction p with
        | nil => exact fun _ => rfl
        | cons y r ih =>
          intro hy
          have e := e y.1 (hy y List.mem_cons_self)
          show (if kills (labAt g t y.1).str y.2 = true then some y.1 else killerOf _ r) = if kills (labAt g' t y.1).str y.2 = true then some y.1 else killerOf _ r
          rw [e, ih fun x hx => hy x (List.mem_cons_of_mem _ hx)]
      exact key _ fun y hy => by have h3 : y.1 < 0 + t.size := (pOf_in t 0 n _ hy).2; omega
    have en := e n hn
    cases l : labAt g t n with
    | found => exact ⟨n, owns_found hn l, owns_found hn (en.symm.trans l)⟩
    | low =>
      obtain ⟨o, e1, O⟩ := owns_low hn l
      obtain ⟨o', e2, O'⟩ := owns_low hn (en.symm.trans l)
      rw [bd, e2] at e1
      cases e1
      exact ⟨_, O, O'⟩
    | high =>
      obtain ⟨o, e1, O⟩ := owns_high hn l
      obtain ⟨o', e2, O'⟩ := owns_high hn (en.symm.trans l)
      rw [bd, e2] at e1
      cases e1
      exact ⟨_, O, O'⟩
    | dead =>
      obtain ⟨k, e1, ⟨b, hb⟩, O⟩ := owns_dead hn l
      obtain ⟨k', e2, _, O'⟩ := owns_dead hn (en.symm.trans l)
      rw [kl, e2] at e1
      cases e1
      obtain ⟨q, r, eq⟩ := List.append_of_mem hb
      obtain ⟨_, h2, h3⟩ := pOf_short t n hn eq
      obtain ⟨o, P, P'⟩ := own_both e m _ (by omega) h2
      exact ⟨o, O o P, O' o P'⟩
theorem owner_row {r : List Int} {t : Tr} {n o : Nat} (up : r.Pairwise (· ≤ ·)) (l : r.length = t.size) (hn : n < t.size) (O : Owns (valAt r) t n o) : valAt r o = valAt r n := by
  have h := rep_get (valAt r) t hn
  rw [rep_sorted l up] at h
  have h2 : r[n]? = some (valAt r n) := by
    unfold valAt
    rw [List.getD_eq_getElem?_getD, List.getElem?_eq_getElem (by omega)]
    rfl
  rw [h2] at h
  exact O.val.trans (Option.some.inj h).symm
theorem same_blocks {r r' : List Int} {t : Tr} (up : r.Pairwise (· ≤ ·)) (l : r.length = t.size) (up' : r'.Pairwise (· ≤ ·)) (l' : r'.length = t.size) (e : ∀ i, i < t.size → labAt (valAt r) t i = labAt (valAt r') t i) {i j : Nat} (hi : i < t.size) (hj : j < t.size) : valAt r i = valAt r j ↔ valAt r' i = valAt r' j := by
  obtain ⟨o, O, O'⟩ := own_both e _ i (Nat.lt_succ_self _) hi
  obtain ⟨p, Q, Q'⟩ := own_both e _ j (Nat.lt_succ_self _) hj
  rw [← owner_row up l hi O, ← owner_row up l hj Q, ← owner_row up' l' hi O', ← owner_row up' l' hj Q']
  constructor
  · intro h
    rw [found_one O.lt Q.lt O.found Q.found h]
  · intro h
    rw [found_one O'.lt Q'.lt O'.found Q'.found h]
theorem row_one {t : Tr} {r r' : List Int} (h : r ∈ rowsN t.size) (h' : r' ∈ rowsN t.size) (e : ∀ i, i < t.size → labAt (valAt r) t i = labAt (valAt r') t i) : r = r' := by
  have l := rowsN_len h
  have l' := rowsN_len h'
  have key : ∀ i, i < t.size → valAt r i = valAt r' i := fun i => by
    induction i with
    | zero => exact fun hi => (rowsN_zero h hi).trans (rowsN_zero h' hi).symm
    | succ i ih =>
      intro hi
      have h1 := ih (by omega)
      have h2 := rowsN_steps h i hi
      have h3 := rowsN_steps h' i hi
      have h4 := same_blocks (rowsN_up h) l (rowsN_up h') l' e (i := i + 1) (j := i) hi (by omega)
      omega
  refine List.ext_getElem (l.trans l'.symm) fun i h1 h2 => ?_
  have := key i (by omega)
  unfold valAt at this
  rw [List.getD_eq_getElem?_getD, List.getD_eq_getElem?_getD, List.getElem?_eq_getElem h1, List.getElem?_eq_getElem h2] at this
  exact this
end HSP
namespace HSP
open PySem PySem.Spec PyProof.Rows L2
/-! ## the blocks of the labels of a list -/
abbrev repL (g : Nat → Int) (t : Tr) : List Int := repOf g t 0 none none
def founds (g : Nat → Int) (t : Tr) : List Nat := (List.range t.size).filter fun i => decide (labAt g t i = .found)
def blocksN (g : Nat → Int) (t : Tr) : List Nat := (founds g t).map fun o => (repL g t).countP fun x => decide (x = g o)
section
variable {g : Nat → Int} {t : Tr}
theorem isF_mem {o : Nat} : o ∈ founds g t ↔ o < t.size ∧ labAt g t o = .found := by
  unfold founds
  rw [List.mem_filter, List.mem_range, decide_eq_true_iff]
theorem repL_get {i : Nat} (h : i < t.size) : (repL g t)[i]? = some (repAt g (pOf t 0 i) i) := rep_get g t h
theorem repL_len : (repL g t).length = t.size := repOf_len g t 0 none none
theorem found_rep {o : Nat} (h : o ∈ founds g t) : (repL g t)[o]? = some (g o) := by
  obtain ⟨h1, h2⟩ := isF_mem.mp h
  rw [repL_get h1, (owns_found h1 h2).val]
theorem founds_rise : ((founds g t).map g).Pairwise (· < ·) := by
  rw [List.pairwise_map]
  have h1 : (founds g t).Pairwise (· < ·) := List.pairwise_lt_range.filter _
  refine List.Pairwise.imp_of_mem (fun {a b} ha hb lt => ?_) h1
  have ea := found_rep ha
  have eb := found_rep hb
  obtain ⟨a1, a2⟩ := isF_mem.mp ha
  obtain ⟨b1, b2⟩ := isF_mem.mp hb
  have la : a < (repL g t).length := by rw [repL_len]; exact a1
  have lb : b < (repL g t).length := by rw [repL_len]; exact b1
  rw [List.getElem?_eq_getElem la] at ea
  rw [List.getElem?_eq_getElem lb] at eb
  have le := List.pairwise_iff_getElem.mp (rep_up g t) a b la lb lt
  rw [show (repOf g t 0 none none)[a] = g a from Option.some.inj ea, show (repOf g t 0 none none)[b] = g b from Option.some.inj eb] at le
  have ne : g a ≠ g b := fun z => by
    have := found_one a1 b1 a2 b2 z
    omega
  omega
theorem rep_owned {x : Int} (h : x ∈ repL g t) : x ∈ (founds g t).map g := by
  obtain ⟨i, hi, rfl⟩ := List.getElem_of_mem h
  have hi' : i < t.size := by rw [repL_len] at hi; exact hi
  obtain ⟨o, O, _⟩ := own_both (g := g) (g' := g) (t := t) (fun _ _ => rfl) _ i (Nat.lt_succ_self _) hi'
  refine List.mem_map.mpr ⟨o, isF_mem.mpr ⟨O.lt, O.found⟩, ?_⟩
  have := repL_get (g := g) hi'
  rw [List.getElem?_eq_getElem hi] at this
  rw [O.val]
  exact (Option.some.inj this).symm
theorem found_there {v : Int} (h : v ∈ (founds g t).map g) : v ∈ repL g t := by
  obtain ⟨o, ho, rfl⟩ := List.mem_map.mp h
  exact List.mem_of_getElem? (found_rep ho)
/-- what the law adds up -/
theorem blocks_diffs : diffsN (cutsL (repL g t) ((founds g t).map g)) = (blocksN g t).map fun n => ((n : Nat) : Int) := by
  rw [cuts_diffs founds_rise fun x hx => .inl (rep_owned hx), List.map_map]
  unfold blocksN
  rw [List.map_map]
  rfl
theorem max_there : ∀ {l : List Int}, l ≠ [] → ∃ m, m ∈ l ∧ ∀ x, x ∈ l → x ≤ m
  | [], h => absurd rfl h
  | [a], _ => ⟨a, List.mem_cons_self, fun x hx => by rw [List.mem_singleton.mp hx]; exact Int.le_refl _⟩
  | a :: b :: r, _ => by
    obtain ⟨m, hm, h⟩ := max_there (l := b :: r) (by simp)
    by_cases c : m ≤ a
    · exact ⟨a, List.mem_cons_self, fun x hx => by
        rcases List.mem_cons.mp hx with e | e
        · rw [e]; exact Int.le_refl _
        · have := h x e; omega⟩
    · exact ⟨m, List.mem_cons_of_mem _ hm, fun x hx => by
        rcases List.mem_cons.mp hx with e | e
        · rw [e]; omega
        · exact h x e⟩
theorem gap_below {tw : Int} (h1 : (sEnd g tw .fin t 0).1 = false) : below (repL g t) tw = upto (repL g t) tw ∧ (sEnd g tw .fin t 0).2 = below (repL g t) tw := by
  obtain ⟨_, _, e1, e2⟩ := ends_rep (g := g) (t := t) (tw := tw)
  have le : below (repL g t) tw ≤ upto (repL g t) tw := by
    unfold below upto
    rw [← List.countP_eq_length_filter, ← List.countP_eq_length_filter]
    exact List.countP_mono_left fun x _ z => decide_eq_true (by have := of_decide_eq_true z; omega)
  have eq : below (repL g t) tw = upto (repL g t) tw := by
    rcases Nat.lt_or_eq_of_le le with h | h
    · have := (e2 h).1
      rw [h1] at this
      cases this
    · exact h
  exact ⟨eq, by rw [e1 eq]⟩
theorem gap_rise {tw tw' : Int} (le : tw ≤ tw') (h : (sEnd g tw .fin t 0).1 = false) (h' : (sEnd g tw' .fin t 0).1 = false) : (sEnd g tw .fin t 0).2 ≤ (sEnd g tw' .fin t 0).2 := by
  rw [(gap_below h).2, (gap_below h').2, below_count, below_count]
  exact List.countP_mono_left fun x _ z => decide_eq_true (by have := of_decide_eq_true z; omega)
/-- the gaps that some probe ends at -/
theorem gaps_cuts {ps : List Int} (mem : ∀ k, k = 0 ∨ (∃ i, i < t.size ∧ (k = 2 * g i - 1 ∨ k = 2 * g i + 1)) → k ∈ ps) (x : Nat) : (∃ tw, tw ∈ ps ∧ (sEnd g tw .fin t 0).1 = false ∧ (sEnd g tw .fin t 0).2 = x) ↔ x ∈ cutsL (repL g t) ((founds g t).map g) := by
  constructor
  · rintro ⟨tw, _, h1, rfl⟩
    obtain ⟨eq, e⟩ := gap_below h1
    rw [e]
    refine below_cut (fun x hx z => ?_) founds_rise (fun v hv => found_there hv) (fun x hx n => absurd (rep_owned hx) n)
    have step : ∀ M : List Int, x ∈ M → below M tw < upto M tw := fun M hM => by
      unfold below upto
      rw [← List.countP_eq_length_filter, ← List.countP_eq_length_filter]
      induction M with
      | nil => cases hM
      | cons a r ih =>
        rw [List.countP_cons, List.countP_cons]
        have mono : r.countP (fun v => decide (2 * v < tw)) ≤ r.countP (fun v => decide (2 * v ≤ tw)) := List.countP_mono_left fun x _ z => decide_eq_true (by have := of_decide_eq_true z; omega)
        by_cases c : a = x
        · rw [if_neg (fun z => by have := of_decide_eq_true z; omega), if_pos (decide_eq_true (by omega))]
          omega
        · have ih := ih ((List.mem_cons.mp hM).resolve_left fun z => c z.symm)
          by_cases d : 2 * a < tw
          · rw [if_pos (decide_eq_true d), if_pos (decide_eq_true (by omega))]
            omega
          · rw [if_neg (fun z => d (of_decide_eq_true z))]
            omega
    have := step _ hx
    omega
  · intro h
    rcases List.mem_append.mp h with h | h
    · obtain ⟨v, hv, rfl⟩ := List.mem_map.mp h
      obtain ⟨o, ho, rfl⟩ := List.mem_map.mp hv
      have e := odd_below (g := g) (t := t) (tw := 2 * g o - 1) (by omega)
      refine ⟨2 * g o - 1, mem _ (.inr ⟨o, (isF_mem.mp ho).1, .inl rfl⟩), by rw [e], ?_⟩
      rw [e, below_count]
      refine List.countP_congr fun x _ => ?_
      rw [decide_eq_true_iff, decide_eq_true_iff]
      omega
    · rw [List.mem_singleton.mp h]
      by_cases c : repL g t = []
      · obtain ⟨_, _, e1, _⟩ := ends_rep (g := g) (t := t) (tw := 0)
        have e := e1 (by rw [show repOf g t 0 none none = [] from c]; rfl)
        refine ⟨0, mem _ (.inl rfl), by rw [e], ?_⟩
        rw [e, show repOf g t 0 none none = [] from c, show repL g t = [] from c]
        rfl
      · obtain ⟨m, hm, mx⟩ := max_there c
        obtain ⟨o, ho, rfl⟩ := List.mem_map.mp (rep_owned hm)
        have e := odd_below (g := g) (t := t) (tw := 2 * g o + 1) (by omega)
        refine ⟨2 * g o + 1, mem _ (.inr ⟨o, (isF_mem.mp ho).1, .inr rfl⟩), by rw [e], ?_⟩
        rw [e, below_count]
        exact List.countP_eq_length.mpr fun x hx => decide_eq_true (by have := mx x hx; omega)
end
end HSP
namespace HSP
open PySem PySem.Spec PyProof.Rows L2
/-! ## defs that are also called by name, the names the other way round -/
structure DfB (P : Program) (w : World) (K : PySem.W.Frag) (mg : Str → Option Value) (base : Heap) (x : Str) (n : Nat) (ps ks : List Str) (sp : Sp) : Prop where
  ex : ∃ (f : Addr) (fd : FuncData), mg x = some (.ref f) ∧ PySem.W.keepIn K (.ref f) = true ∧ Binds K fd ps [] ∧ KBn K fd ps 0 ks (fun _ ws => ws.reverse) (fun _ zs => zs.reverse) ∧ FnOk P w K mg base CX0 n f fd ps sp
section
variable {P : Program} {w : World} {K : PySem.W.Frag} {mg : Str → Option Value} {base : Heap}
theorem DfB.df {x : Str} {n : Nat} {ps ks : List Str} {sp : Sp} (D : DfB P w K mg base x n ps ks sp) : Df P w K mg base x n ps sp := by
  obtain ⟨f, fd, h1, h2, h3, _, h5⟩ := D.ex
  exact ⟨f, fd, h1, h2, h3, h5⟩
theorem Vals.rev {vs : List V} {us : List Value} (r : Vals vs us) : Vals vs.reverse us.reverse := by
  induction r with
  | nil => exact .nil
  | cons h t ih =>
    rw [List.reverse_cons, List.reverse_cons]
    exact ih.append (.cons h .nil)
theorem DfB.mk' {x : Str} {st : Stmt} {N ps ks : List Str} {k : Nat} {sp : Sp} (a : At K mg x st) (S : FnScope N ps (defScope st)) (len : ∀ vs H Q E, sp vs H Q E → vs.length = ps.length)
    (hb : ∀ (kV doc pm : Value) (an : Option Addr) (cdv ct : Value) (us : List Value), us.length = ps.length → bindArgs (PySem.W.fnOf x x (defArgs st) (defBody st) (defScope st) .none kV doc pm an cdv ct) ⟨us, []⟩ = pure (ps.zip us))
    (hk : ∀ (kV doc pm : Value) (an : Option Addr) (cdv ct : Value) (ws : List Value), ws.length = ks.length → bindArgs (PySem.W.fnOf x x (defArgs st) (defBody st) (defScope st) .none kV doc pm an cdv ct) ⟨[], ks.zip ws⟩ = pure (ps.zip ws.reverse))
    (body : ∀ (f : Addr) (cdv : Value) (A : Around) (outer : List Env) (s : Shared) (H : Hp) (vs : List V) (Q : VK) (E : XK), Room k (A.deeper (envOfC x (defScope st) s.heap.objs.size f cdv)) → sp vs H Q E →
      ∃ t, PSs (cxOf CX0 P w K mg base N x (defScope st) f cdv A outer s H E).nox (defBody st) t ∧ t { nx := fun _ H' => Q .non H', rt := Q } (start N vs) H) : DfB P w K mg base x (k + 1) ps ks sp := by
  obtain ⟨f, fd, hm, F⟩ := a
  refine ⟨f, fd, hm, F.kp, F.binds hb, ⟨fun s us ws _ h1 h2 => ?_, fun _ r => HSP.Vals.rev r⟩, F.ok S len (body f)⟩
  obtain ⟨oc, od, kV, doc, pm, an, cdv, ct, osl, rfl, _⟩ := F.ex
  rw [List.length_eq_zero_iff.mp h1]
  exact .of_eq (hk kV doc pm an cdv ct ws h2)
end
section
variable {X : Cx} {k : Nat} {ps ks : List Str} {sp : Sp} {x : Str} {p pos : Pos} {kws : List Keyword} {tk : TA}
theorem pe_dfK (D : DfB X.prog X.w X.K X.mg X.base x k ps ks sp) (hr : Room k X.A) (hkw : PK X kws tk) (hg : Gl X x := by rfl) (hall : (backToKw pos (keywordEach kws X.env)).all (·.1.isSome) = true := by rfl) (hks : (backToKw pos (keywordEach kws X.env)).filterMap (·.1) = ks := by rfl)
    (hdb : (x == ("__debug__" : Str)) = false := by decide) (hpl : (backToKw pos (keywordEach kws X.env)).any (·.1.isNone) = false := by rfl) : PE X (.Call (.Name x p) [] kws pos) (tCallN 0 ks.length sp (fun _ zs => zs.reverse) E0 tNil tk) := by
  obtain ⟨f, fd, hm, hk, _, kb, F⟩ := D.ex
  exact pe_callK0 F hr hg hm hk kb pass0 hkw hall hks hdb hpl
end
end HSP
namespace HSP
open PySem PySem.Spec PyProof.Rows L2
/-! ## pattern_of, lengths that fit -/
def flatOf : List Nat → Nat → List Int
  | [], _ => []
  | l :: r, k => List.replicate l (k : Int) ++ flatOf r (k + 1)
theorem flatOf_len : ∀ (ls : List Nat) (k : Nat), (flatOf ls k).length = ls.sum
  | [], _ => rfl
  | l :: r, k => by
    show (List.replicate l (k : Int) ++ flatOf r (k + 1)).length = _
    rw [List.length_append, List.length_replicate, flatOf_len r, List.sum_cons]
theorem flatOf_snoc : ∀ (ls : List Nat) (k l : Nat), flatOf (ls ++ [l]) k = flatOf ls k ++ List.replicate l ((k + ls.length : Nat) : Int)
  | [], k, l => by
    show List.replicate l (k : Int) ++ [] = [] ++ _
    rw [List.append_nil, List.nil_append]
    rfl
  | x :: r, k, l => by
    show List.replicate x (k : Int) ++ flatOf (r ++ [l]) (k + 1) = (List.replicate x (k : Int) ++ flatOf r (k + 1)) ++ _
    rw [flatOf_snoc r (k + 1) l, List.append_assoc, show k + 1 + r.length = k + (x :: r).length by rw [List.length_cons]; omega]
theorem sum_take_le : ∀ (ls : List Nat) (i : Nat), (ls.take i).sum ≤ ls.sum
  | [], i => by rw [List.take_nil]; exact Nat.le_refl _
  | x :: r, 0 => Nat.zero_le _
  | x :: r, i + 1 => by
    rw [List.take_succ_cons, List.sum_cons, List.sum_cons]
    have := sum_take_le r i
    omega
section
variable {P : Program} {w : World} {K : PySem.W.Frag} {mg : Str → Option Value} {base : Heap}
theorem sc_check_lengths : FnScope n_check_lengths ["tree", "lengths"] (defScope s_check_lengths) := ⟨rfl, rfl, rfl, by decide +kernel, rfl, by decide +kernel, by decide +kernel⟩
def spChkLG : Sp := fun vs H Q _ => ∃ (v : V) (t : Tr) (p : Addr) (ls : List Nat), vs = [v, .ref p] ∧ TrAt H v t ∧ t.size ≤ 300 ∧ H p = some (.lst (ls.map natV)) ∧ ls.sum = t.size ∧ (∀ l, l ∈ ls → 0 < l) ∧ ∀ H', Same H H' → Q .non H'
theorem ok_chkLG (B : Bl mg) (Wh : Df P w K mg base "is_whole" 1 ["thing"] spWhole) (Co : Df P w K mg base "count_nodes" 1 ["tree"] spCount) (a : At K mg "check_lengths" s_check_lengths) : Df P w K mg base "check_lengths" 2 ["tree", "lengths"] spChkLG := by
  refine Df.mk' a sc_check_lengths (fun vs H Q E h => ?_) (fun _ _ _ _ _ _ us hl => match us, hl with | [_, _], _ => rfl) (fun f cdv A outer s H vs Q E hr h => ?_)
  · obtain ⟨_, _, _, _, rfl, _⟩ := h
    rfl
  obtain ⟨v, t, p, ls, rfl, ht, hz, ep, sm, pos, q⟩ := h
  refine ⟨_, (pss_cons (ps_if (pt_not (pt_val (pe_callB call_isi (by rfl) B.isinstance (by decide +kernel) (pa_cons (pv 1) (pa_cons (pe_bltn (v := .ty "list") (by rfl) B.list (by decide +kernel) rfl) pa_nil))))) (pss_one ps_never) pss_nil)
 (pss_cons (ps_for PassesOwn.never rfl (pi_list (pv 1)) (pg_name (i := 2) sc_check_lengths.nd rfl (.inl rfl)) (pss_one (ps_if (PW.pt (pw_or (pt_not (pt_val (pe_df Wh (hr.mono (by decide)) (pa_cons (pv 2) pa_nil)))) (pw_or1 (pt_cmpR op_lt (pv 2) pe_int (nomark _))))) (pss_one ps_never) pss_nil)))
 (pss_one (ps_if (pt_cmpR op_ne (pe_callB (cr_sum rfl) (by rfl) B.sum (by decide +kernel) (pa_cons (pv 1) pa_nil)) (pe_df Co (hr.mono (by decide)) (pa_cons (pv 0) pa_nil)) (nomark _)) (pss_one ps_never) pss_nil)))), ?_⟩
  refine ⟨_, rfl, _, _, _, _, true, rfl, .ty "list", .base (.lst ep), rfl, true, rfl, iteF ?_⟩
  refine ⟨_, rfl, p, rfl, ⟨_, .of ep⟩, for_list (xs := ls.map natV) (fun i σ H' => (∃ y2 : Option V, σ = [some v, some (.ref p), y2]) ∧ Same H H') ⟨⟨none, rfl⟩, Same.refl _⟩ (fun i σ H' _ h' => .of (h'.2 _ _ ep)) (fun i x σ H2 hx h2 => ?_) (fun σ H2 h2 => ?_)⟩
  · obtain ⟨⟨y2, rfl⟩, s2⟩ := h2
    rw [List.getElem?_map] at hx
    obtain ⟨l, hl, rfl⟩ := Option.map_eq_some_iff.mp hx
    have lp := pos l (List.mem_of_getElem? hl)
    refine ⟨_, rfl, (l : Int), rfl, true, rfl, iteF ⟨_, rfl, _, _, rfl, rfl, _, rfl, ?_⟩⟩
    rw [decide_eq_false (show ¬ (l : Int) < 1 by omega)]
    exact iteF ⟨⟨_, rfl⟩, s2⟩
  · obtain ⟨⟨y2, rfl⟩, s2⟩ := h2
    have e2 : H2 p = some (.lst ((ls.map Int.ofNat).map V.int)) := by
      rw [s2 _ _ ep, List.map_map]
      rfl
    have sumI : ∀ l : List Nat, (l.map Int.ofNat).sum = ((l.sum : Nat) : Int) := fun l => by
      induction l with
      | nil => rfl
      | cons x r ih =>
        rw [List.map_cons, List.sum_cons, List.sum_cons, ih, Int.natCast_add]
        rfl
    refine ⟨_, rfl, p, _, rfl, .of e2, ?_⟩
    dsimp only
    rw [sumI, sm]
    refine ⟨_, rfl, v, t, rfl, ht.same s2, by omega, fun H3 s3 => ⟨rfl, _, rfl, ?_⟩⟩
    rw [decide_eq_true rfl]
    exact iteF (q _ (s2.trans s3))
theorem sc_pattern_of : FnScope n_pattern_of ["tree", "lengths"] (defScope s_pattern_of) := ⟨rfl, rfl, rfl, by decide +kernel, rfl, by decide +kernel, by decide +kernel⟩
def spPatOf : Sp := fun vs H Q _ => ∃ (v : V) (t : Tr) (p : Addr) (ls : List Nat), vs = [v, .ref p] ∧ TrAt H v t ∧ t.size ≤ 300 ∧ H p = some (.lst (ls.map natV)) ∧ ls.sum = t.size ∧ (∀ l, l ∈ ls → 0 < l) ∧ ∀ (H' : Hp) (q : Addr), Same H H' → H q = none → H' q = some (.lst (labsV (valAt (flatOf ls 0)) t t.size)) → Q (.ref q) H'
theorem okB_patOf (B : Bl mg) (Ct : Df P w K mg base "check_tree" 2 ["tree"] spChkT) (Cl : Df P w K mg base "check_lengths" 2 ["tree", "lengths"] spChkLG) (Lf : Df P w K mg base "labels_of" 4 ["tree", "values"] spLabels) (a : At K mg "pattern_of" s_pattern_of) : DfB P w K mg base "pattern_of" 5 ["tree", "lengths"] ["lengths", "tree"] spPatOf := by
  refine DfB.mk' a sc_pattern_of (fun vs H Q E h => ?_) (fun _ _ _ _ _ _ us hl => match us, hl with | [_, _], _ => rfl) (fun _ _ _ _ _ _ us hl => match us, hl with | [_, _], _ => rfl) (fun f cdv A outer s H vs Q E hr h => ?_)
  · obtain ⟨_, _, _, _, rfl, _⟩ := h
    rfl
  obtain ⟨v, t, p, ls, rfl, ht, hz, ep, sm, pos, q⟩ := h
  refine ⟨_, (pss_cons (ps_expr (pe_df Ct (hr.mono (by decide)) (pa_cons (pv 0) pa_nil)))
 (pss_cons (ps_expr (pe_df Cl (hr.mono (by decide)) (pa_cons (pv 0) (pa_cons (pv 1) pa_nil))))
 (pss_one (ps_ret (pe_df Lf hr (pa_cons (pv 0) (pa_cons (pe_lc2 (own := [("at", 2), ("length", 3), ("_", 4)]) (vs1 := [4]) (g := (gTup K 2 (gCons (gName 2) (gCons (gName 3) gNil)))) (g1 := (gName 4)) (tt := tYes) (tt1 := tYes) (by rfl) sc_pattern_of.nd (pi_enum (by rfl) B.enumerate (pa_cons (pv 1) pa_nil)) (blkOk_by (N := n_pattern_of) (sc := defScope s_pattern_of) (by decide +kernel)) (by decide) (fun _ _ _ _ _ => (pg_tup rfl (pgs_cons (pg_name (i := 2) sc_pattern_of.nd rfl (.inl rfl)) (pgs_cons (pg_name (i := 3) sc_pattern_of.nd rfl (.inl rfl)) pgs_nil)))) (fun _ _ _ _ _ => pts_nil) (fun _ _ _ _ _ => by exact (pi_range1 (by rfl) B.range (pa_cons (pv 3) pa_nil))) (fun _ _ _ _ _ => (pg_name (i := 4) sc_pattern_of.nd rfl (.inl rfl))) (fun _ _ _ _ _ => pts_nil) (fun _ _ _ _ _ => (pv 2))) pa_nil))))))), ?_⟩
  refine ⟨_, rfl, v, t, rfl, ht, by omega, fun H1 s1 => ?_⟩
  refine ⟨_, rfl, _, rfl, v, t, p, ls, rfl, ht.same s1, hz, s1 _ _ ep, sm, pos, fun H2 s2 => ?_⟩
  have ep2 := s2 _ _ (s1 _ _ ep)
  have s02 := s1.trans s2
  refine ⟨_, rfl, _, rfl, p, _, rfl, .of ep2, fun D hD => ?_⟩
  have sD := Same.new (o := .lst []) hD
  refine lc2_it (walk_enum (K := K) (a := p) (xs := ls.map natV)) (fun i H' => Same H2 H' ∧ H' D = some (.lst ((flatOf (ls.take i) 0).map V.int))) ⟨sD, upd_same⟩ (fun i H' _ h' => .of (h'.1 _ _ ep2)) (fun i x H3 H4 hi h3 hy => ?_) (fun H3 h3 => ?_)
  · obtain ⟨s3, e3⟩ := h3
    obtain ⟨T, x1, x2, rfl, nT, rfl, g1, g2⟩ := hy
    rw [List.length_map] at hi
    have hl : ls[i]? = some ls[i] := List.getElem?_eq_getElem hi
    have g2 : (ls.map natV)[i]? = some x2 := g2
    rw [List.getElem?_map, hl] at g2
    cases g2
    cases (show some (V.int ((i : Nat) : Int)) = some x1 from g1)
    generalize ls[i] = l at hl
    have et : flatOf (ls.take (i + 1)) 0 = flatOf (ls.take i) 0 ++ List.replicate l ((i : Nat) : Int) := by
      rw [List.take_add_one, hl]
      show flatOf (ls.take i ++ [l]) 0 = _
      rw [flatOf_snoc, List.length_take, Nat.min_eq_left (by omega), Nat.zero_add]
    have lt : (flatOf (ls.take (i + 1)) 0).length ≤ 300 := by
      have := sum_take_le ls (i + 1)
      rw [flatOf_len]
      omega
    rw [et, List.length_append, List.length_replicate] at lt
    have sT := Same.new (o := .tup [V.int ((i : Nat) : Int), natV l]) nT
    have e4 := sT _ _ e3
    have eT : (upd H3 T (.tup [V.int ((i : Nat) : Int), natV l])) T = some (.tup [V.int ((i : Nat) : Int), natV l]) := upd_same
    have s34 := s3.trans sT
    generalize upd H3 T (.tup [V.int ((i : Nat) : Int), natV l]) = H4 at e4 eT s34 ⊢
    refine ⟨T, _, rfl, .of eT, rfl, _, _, rfl, _, [], rfl, rfl, ?_⟩
    refine ⟨rfl, yes_lcA ?_⟩
    refine ⟨_, rfl, _, rfl, by omega, by omega, ?_⟩
    refine in_it (walk_range (lo := 0) (n := l)) (fun j H' => Same H2 H' ∧ H' D = some (.lst ((flatOf (ls.take i) 0 ++ List.replicate j ((i : Nat) : Int)).map V.int))) ⟨s34, by rw [List.replicate_zero, List.append_nil]; exact e4⟩ (fun _ _ _ _ => trivial) (fun j x H5 H6 hj h5 hy => ?_) (fun H5 h5 => ?_)
    · obtain ⟨s5, e5⟩ := h5
      obtain ⟨rfl, rfl⟩ := hy
      refine ⟨rfl, yes_lcA ?_⟩
      refine ⟨_, rfl, _, e5, ?_, fun b o eb => ?_, ?_⟩
      · rw [List.length_map, List.length_append, List.length_replicate]
        exact small1000 (by omega)
      · rw [upd_ne (ne_of_none eb hD)]
        exact s5 _ _ eb
      · rw [upd_same, List.replicate_succ']
        simp only [List.map_append, List.append_assoc]
        rfl
    · obtain ⟨s5, e5⟩ := h5
      refine ⟨s5, ?_⟩
      rw [et]
      exact e5
  · obtain ⟨s3, e3⟩ := h3
    rw [List.length_map, List.take_length] at e3
    refine ⟨v, t, D, flatOf ls 0, rfl, (ht.same s02).same s3, by omega, e3, by rw [flatOf_len, sm], fun H4 q4 s4 n4 e4 => ?_⟩
    exact q _ _ (s02.trans (s3.trans s4)) (s02.free (s3.free n4)) e4
end
end HSP
set_option maxHeartbeats 2000000
namespace HSP
open PySem PySem.Spec PyProof.Rows L2
/-! ### try: body, except (A, B) as n: suite -/
section
variable {X : Cx}
/-- a class's name is read, the state stays -/
theorem ld_name {x : Str} {c : Value} {pins : List (Addr × Obj)} {s : Shared} {σ : L2.St} {H : Hp} {q0 : Pos} {Q : Value → Shared → Prop} {E : Value → Shared → Prop} (hc : Names X x c) (I : Inv X pins σ H s) (q : Q c s) : wpAny (model X.prog X.w) X.A (eval (.Name x q0) X.env) Q E s := by
  obtain ⟨g, nd, m | ⟨m, v, n⟩⟩ := hc
  · exact ld_glob I g m q nd
  · exact ld_blt I g m v q n nd
/-- (A, B) is made anew, the heap grows by it alone -/
theorem ld_pair {x1 x2 : Str} {c1 c2 : Value} {pins : List (Addr × Obj)} {s : Shared} {σ : L2.St} {H : Hp} {p1 p2 p3 : Pos} {kk : Nat} {Q : Value → Shared → Prop} {E : Value → Shared → Prop} (h1 : Names X x1 c1) (h2 : Names X x2 c2) (I : Inv X pins σ H s)
    (q : Q (.ref s.heap.objs.size) { s with heap := s.heap.push { cls := .type "tuple", data := .seq [c1, c2].toArray } }) : wpAny (model X.prog X.w) X.A (eval (.Tuple [.Name x1 p1, .Name x2 p2] kk p3) X.env) Q E s := by
  refine wpAny_Tuple_spliced ?_
  show wpAny _ _ (spliced ((false, eval (.Name x1 p1) X.env) :: backTo p3 (starEach [.Name x2 p2] X.env))) _ _ s
  refine Calls.spliced_cons (ld_name h1 I ?_)
  show wpAny _ _ (spliced ((false, eval (.Name x2 p2) X.env) :: backTo p3 (starEach [] X.env))) _ _ s
  refine Calls.spliced_cons (ld_name h2 I ?_)
  exact Calls.spliced_nil ⟨(by show 2 ≤ sizeLine; decide), q⟩
theorem flying_push {B : Heap} {l : List Env} {e : Addr} {Z : Obj → Prop} {h : Heap} (o : Obj) (f : HandSPX.FlyingZ B l e Z h) : HandSPX.FlyingZ B l e Z (h.push o) := by
  obtain ⟨f1, f2, f3, oe, vs, T, oT, ts, g1, g2, g3, g4, g5, g6, g7, g8, g9⟩ := f
  exact ⟨fun b u z => Heap.get?_push_of_some _ (f1 b u z), f2, Heap.FunFrames.of_keeps (fun b u z _ => ⟨u, Heap.get?_push_of_some _ z, rfl⟩) f3, oe, vs, T, oT, ts, Heap.get?_push_of_some _ g1, g2, g3, g4, g5, g6, Heap.get?_push_of_some _ g7, g8, g9⟩
end
/-- a caught exception that is kept: its class, its dict -/
def exK (cls : Value) (d : Option Addr) (e : Addr) : HO := .ext fun h => ∃ (o : Obj) (vs : Array Value), h.get? e = some o ∧ Zc cls d o ∧ o.data = .fields vs
theorem exK_ok {P : Program} {w : World} {H : Hp} {h : Heap} {e : Addr} {cls : Value} {d : Option Addr} {o : Obj} {vs : Array Value} (g : h.get? e = some o) (z : Zc cls d o) (f : o.data = .fields vs) : ObjOk P w H h e (exK cls d e) :=
  ⟨⟨o, vs, g, z, f⟩, ⟨o, g⟩, fun h1 h2 q same => by
    obtain ⟨o1, v1, g1, z1, f1⟩ := q
    exact ⟨o1, v1, same o1 g1, z1, f1⟩⟩
theorem exK_at {P : Program} {w : World} {H : Hp} {h : Heap} {e : Addr} {cls : Value} {d : Option Addr} (ok : HOk P w H h) (q : H e = some (exK cls d e)) : ∃ (o : Obj) (vs : Array Value), h.get? e = some o ∧ Zc cls d o ∧ o.data = .fields vs := (ok e _ q).1
/-- what the clause wishes, the exception kept in the heap -/
def wKeep2 (K : PySem.W.Frag) (c1 c2 : Value) (i : Nat) (ts : Addr → TS) (Wo : WX) (D : Ends) : WX := fun cls d σ H =>
  ∃ b, PySem.W.exmAny K cls [c1, c2] = some b ∧
    (b = true → ∀ a, H a = none → ts a ⟨fun τ G => D.nx (τ.set i none) G, D.rt, fun τ G => D.bk (τ.set i none) G, fun τ G => D.ct (τ.set i none) G⟩ (σ.set i (some (.ref a))) (upd H a (exK cls d a))) ∧ (b = false → Wo cls d σ H)
section
variable {X : Cx} {pins : List (Addr × Obj)} {σ : L2.St} {H : Hp} {s s' sI : Shared} {B : Heap}
theorem _root_.L2.Inv.bareSuite (I : L2.Inv X pins σ H s) (e : Addr) : L2.Inv (X.suite e (X.pn ++ pins)) [] σ H s :=
  ⟨I.ok.suite _ _, I.os, I.bare, I.base, I.loc, I.cell, I.free, I.freeC, fun p hp => I.pin p (by rw [List.append_nil] at hp; exact hp), I.hok, I.len⟩
theorem _root_.L2.Inv.offSuite {e : Addr} {pn' : List (Addr × Obj)} (I : L2.Inv (X.suite e (X.pn ++ pins)) pn' σ H s) (ok : X.Ok) : L2.Inv X pins σ H s :=
  ⟨ok, I.os, I.bare, I.base, I.loc, I.cell, I.free, I.freeC, fun p hp => I.pin p (List.mem_append_left _ hp), I.hok, I.len⟩
/-- back on the ground, and the exception is of our heap -/
theorem _root_.L2.Inv.keptNew {e : Addr} {o : HO} (I : L2.Inv X pins σ H sI) (nb : ∀ b u, sI.heap.get? b = some u → b ∉ frs X.stack → B.get? b = some u) (st : B.StaysIn s'.heap) (up : sI.heap.UpToSlots s'.heap) (os : s'.os = sI.os) (ag : AllBare s'.gens)
    (new : sI.heap.get? e = none) (ne : H e = none) (k : ObjOk X.prog X.w (upd H e o) s'.heap e o) : L2.Inv X pins σ (upd H e o) s' := by
  have frame : ∀ b ∈ frs X.stack, ∀ u, sI.heap.get? b = some u → ∃ sl, s'.heap.get? b = some { u with slots := sl } := fun b m u g => by
    obtain ⟨_, u', g', plain⟩ := I.stack.mem m
    rw [g] at g'
    cases g'
    exact up b u g plain
  have other : ∀ b u, sI.heap.get? b = some u → b ≠ e := fun b u g z => by rw [z, new] at g; cases g
  have was : HOk X.prog X.w H s'.heap := (I.inGround nb).kept st
  have J := I.call (ch := []) (h' := s'.heap) (g' := s'.gens) (t' := s'.toks) (d' := s'.drawn) (H' := upd H e o)
    ⟨fun b u g _ m _ => st b u (nb b u g m), fun b u g _ m _ => frame b m u g, fun b u g n _ => by rw [upd_ne (other b u g)]; exact n, fun b u g _ => by
      by_cases m : b ∈ frs X.stack
      · exact ⟨_, (frame b m u g).choose_spec⟩
      · exact ⟨u, st b u (nb b u g m)⟩, fun b xs q => by rw [upd_ne (ne_of_none q ne)]; exact q, fun b u xs q => by rw [upd_ne (ne_of_none q ne)]; exact q, fun b ps q => ⟨#[], by rw [upd_ne (ne_of_none q ne), q]; simp⟩⟩
    (was.laidN (fun _ _ q => q) ne k) ag (fun _ z => nomatch z)
  obtain ⟨a1, a2, a3, a4, a5⟩ := s'
  have e5 : a5 = sI.os := os
  subst e5
  exact J
end
section
variable {X : Cx}
variable {x1 x2 n : Str} {c1 c2 : Value} {i kk : Nat} {body suite : List Stmt} {b₀ : Stmt} {p1 p2 p3 pos pos' : Pos} {tb : WX → TS} {ts : Addr → TS} {Wo : WX}
theorem ps_try_keep2 (stk : X.stack = X.env :: X.outer) (fr : X.env.frame = some X.env.locals) (nod : X.N.Nodup) (at_i : X.N[i]? = some n) (lc : X.env.kindOf n = some .local) (nm1 : Names X x1 c1) (nm2 : Names X x2 c2) (out : Takes X Wo)
    (does : ∀ (W : WX) (pn : List (Addr × Obj)) (xe : Value → Shared → Prop), Takes (X.tr pn xe) W → PassesOwn (model X.prog X.w) X.A X.env xe → PSs (X.tr pn xe) body (tb W))
    (then_ : ∀ (e : Addr) (pn : List (Addr × Obj)), PSs (X.suite e pn) (b₀ :: suite) (ts e)) :
    PS X (.Try body [.ExceptHandler (some (.Tuple [.Name x1 p1, .Name x2 p2] kk p3)) (some n) (b₀ :: suite) pos'] [] [] pos) (fun D σ H => tb (wKeep2 X.K c1 c2 i ts Wo D) D σ H) := by
  refine ⟨fun pins s σ H D I rd => ?_⟩
  have okX := I.ok
  have frs0 : X.A.frames = some (X.env :: X.outer) := okX.frames.trans (congrArg some stk)
  refine wpAny_Try_except ?_
  have run := (does (wKeep2 X.K c1 c2 i ts Wo D) (X.pn ++ pins) (fun v z => wpAny (model X.prog X.w) X.A (noteFrame v X.env) (fun _ z2 => wpAny (model X.prog X.w) X.A (setFlight v none) (fun _ z3 =>
    wpAny (model X.prog X.w) X.A (handleBy v X.env [.ExceptHandler (some (.Tuple [.Name x1 p1, .Name x2 p2] kk p3)) (some n) (b₀ :: suite) pos']) (SP X pins D) X.xe z3) X.xe z2) X.xe z)
    (fun u z flown => ?caught) PassesOwn.looking).run [] s σ H D (I.toTry _) rd
  case caught =>
    obtain ⟨e, B, z0, pins', τ, G, cls, d, rfl, J0, nb, up0, sky0, ne, os0, bare0, b, hit, yes, no⟩ := flown
    have J := J0.ofTry okX
    rw [show (X.tr (X.pn ++ pins) _).stack = X.env :: X.outer from stk] at sky0
    refine Sky.land Zc.steady frs0 fr sky0 fun g fl upg => ?_
    have Jg := J.landed (s' := { z with heap := g }) nb fl.1 (up0.trans upg) os0 bare0
    obtain ⟨o3, v3, got3, z3, dat3⟩ := fl.there
    have off : ∀ {h : Heap} {o : Obj} {vs : Array Value}, h.FunFrames B (X.env :: X.outer) → h.get? e = some o → o.data = .fields vs → ¬ e ∈ frs (X.env :: X.outer) := fun {h o vs} ff ge dd m => by
      obtain ⟨_, o', ge', bad⟩ := ff.mem m
      rw [ge] at ge'
      cases ge'
      exact bad vs dd
    have none_of := off fl.2.2.1 got3 dat3
    have n1 : e ≠ X.env.locals := fun z => none_of (List.mem_filterMap.mpr ⟨X.env, List.mem_cons_self, fr.trans (congrArg some z.symm)⟩)
    have n2 : e ∉ X.fs := fun m => by
      obtain ⟨y, my, ey⟩ := List.mem_filterMap.mp m
      exact none_of (List.mem_filterMap.mpr ⟨y, List.mem_cons_of_mem _ my, ey⟩)
    have Sg := Jg.suite got3 dat3 ne n1 n2
    refine wpAny_handleBy_cons (codeAny_handlers_test ?_) (fun q => by cases q)
    refine ld_pair (X := X.suite e ((e, o3) :: (X.pn ++ pins))) nm1 nm2 Sg ?_
    have keeps : ∀ b o, g.get? b = some o → (g.push { cls := .type "tuple", data := .seq [c1, c2].toArray }).get? b = some o := fun b o q => Heap.get?_push_of_some _ q
    have fl' := flying_push { cls := .type "tuple", data := .seq [c1, c2].toArray } fl
    have upg' : z.heap.UpToSlots (g.push { cls := .type "tuple", data := .seq [c1, c2].toArray }) := upg.trans (fun b o q _ => ⟨o.slots, keeps b o q⟩)
    have looks : PySem.W.Looks (model X.prog X.w) (g.push { cls := .type "tuple", data := .seq [c1, c2].toArray }) (typeOf (.ref e)) cls := fun _ _ _ _ k q => wpAny_typeOf_ref (k _ _ (keeps _ _ got3)) (by rw [z3.1]; exact q)
    have hits := PySem.W.exm_tup2 (M := model X.prog X.w) (Jg.kIn.keeps keeps) looks (Heap.get?_push_size _ rfl) hit
    refine hits.here ?_
    generalize g.push { cls := .type "tuple", data := .seq [c1, c2].toArray } = g' at keeps fl' upg' hits ⊢
    cases b with
    | true =>
      refine codeAny_handlers_suite_as ?_
      refine HandSPX.lands_againZ fl' fun g4 fl4 up4 => ?_
      have J4 := J.landed (s' := { z with heap := g4 }) nb fl4.1 ((up0.trans upg').trans up4) os0 bare0
      obtain ⟨o4, v4, got4, z4, dat4⟩ := fl4.there
      have new0 : z0.heap.get? e = none := by
        cases q : z0.heap.get? e with
        | none => rfl
        | some o =>
          have := nb e o q (by rw [show (X.tr (X.pn ++ pins) _).stack = X.env :: X.outer from stk]; exact none_of)
          rw [fl.2.1] at this
          cases this
      have K4 := J.keptNew (s' := { z with heap := g4 }) nb fl4.1 ((up0.trans upg').trans up4) os0 bare0 new0 ne (exK_ok got4 z4 dat4)
      have S4 := K4.bareSuite e
      refine store_ok (X := X.suite e (X.pn ++ pins)) (v := .ref e) S4 nod at_i (.inl lc) rfl (fun z5 S5 => ?_) (.inr lc)
      refine wpAny_mono ((then_ e (X.pn ++ pins)).run [] z5 _ (upd G e (exK cls d e)) _ S5 (yes rfl e ne)) (fun fw z6 fin => ?_) (fun _ _ q => q.elim)
      have over : ∀ {τ6 : L2.St} {G6 : Hp} {Q : Shared → Prop}, L2.Inv (X.suite e (X.pn ++ pins)) [] τ6 G6 z6 → (∀ z7, L2.Inv X pins (τ6.set i none) G6 z7 → Q z7) → wpAny (model X.prog X.w) X.A (do bindName X.env n .none; unbindBehindTheSuite X.env n pos') (fun _ z7 => Q z7) X.xe z6 :=
        fun {τ6 G6 Q} S6 q => gone_ok (S6.offSuite okX) nod at_i lc q
      cases fw with
      | ret u =>
        obtain ⟨v6, τ6, G6, S6, r6, q6⟩ := fin
        exact over S6 fun z7 J7 => ⟨_, _, _, J7, r6, q6⟩
      | _ =>
        obtain ⟨τ6, G6, S6, q6⟩ := fin
        exact over S6 fun z7 J7 => ⟨_, _, J7, q6⟩
    | false =>
      show wpAny _ X.A (handleBy (.ref e) X.env []) _ _ _
      refine wpAny_handleBy_nil ?_
      obtain ⟨_, _, _, o5, v5, T, oT, w5, got5, _, dat5, tr5, _⟩ := id fl'
      unfold PySem.passOn
      refine wpAny_bind (wpAny_field got5 dat5 tr5 ?_)
      rw [if_neg (by simp : ¬ ((Value.ref T == Value.none) = true))]
      have flies : wpAny (model X.prog X.w) X.A (setFlight (.ref e) X.env.frame) (fun _ z4 => wpAny (model X.prog X.w) X.A (throw (.ref e) : Sem Flow) (SP X pins D) X.xe z4) X.xe { z with heap := g' } := by
        rw [fr]
        exact HandSPX.setFlight_upZ fl' fun g4 held up4 => wpAny_throw (out _ _ ⟨e, B, z0, pins, τ, G, cls, d, rfl, J, nb, (up0.trans upg').trans up4, .inr (.inr (by rw [stk]; exact held)), ne, os0, bare0, no rfl⟩)
      first
        | exact wpAny_bind (wpAny_pure (wpAny_bind flies))
        | exact wpAny_bind flies
  refine wpAny_mono run (fun fw z6 fin => ?_) (fun v z6 q => q)
  cases fw with
  | next =>
    obtain ⟨τ, G, J, q⟩ := fin
    exact wpAny_execs_nil ⟨τ, G, J.ofTry okX, q⟩
  | ret u =>
    obtain ⟨v, τ, G, J, r, q⟩ := fin
    exact ⟨v, τ, G, J.ofTry okX, r, q⟩
  | _ =>
    obtain ⟨τ, G, J, q⟩ := fin
    exact ⟨τ, G, J.ofTry okX, q⟩
end
end HSP
set_option maxHeartbeats 2000000
namespace HSP
open PySem PySem.Spec PyProof.Rows L2
/-! ### a kept exception: its fields, its class -/
/-! the class of an exception that has its dict -/
section
open PySem.W PySem.Calls
variable {prog : Program} {w : World} {A : Around} {E : Value → Shared → Prop} {z : Shared} {K : Frag} {x D : Addr} {o : Obj} {od : Option Obj}
theorem found_class (C : ExcC K D) : findObj K D od "__class__" = some (.bind (.builtin "getset_descriptor.__get__") (.builtin "object.__class__")) := by
  obtain ⟨cd, hc, _⟩ := any_some C.hd
  unfold findObj
  rw [hc, Option.bind_some, C.ha, Option.bind_some]
  dsimp only
  rw [C.hn, Option.bind_some]
  dsimp only
  rw [C.ht, Option.bind_some]
theorem asked_class {Q : Option Value → Shared → Prop} (C : ExcC K D) (I : K.In z.heap) (J : InstAt z.heap x o D od) (q : Q (some (.ref D)) { z with toks := z.toks + 1 }) : wpAny (model prog w) A (getAttr? (.ref x) "__class__") Q E z := by
  have found := found_class (od := od) C
  obtain ⟨h, gs, dr, tk, os⟩ := z
  have type := J.type (M := model prog w)
  have by1 := looks_findIn (M := model prog w) I C.hg
  have by2 := looks_findIn (M := model prog w) I C.hk
  have by3 := looks_find (M := model prog w) I J found
  have isExc : Looks (model prog w) h (isInstance (.ref x) (.type "BaseException")) true := type.andThen (looks_subIn I C.hs)
  have no1 : (Value.builtin "BaseException.__getattribute__" == Value.builtin "object.__getattribute__") = false := by decide +kernel
  have no2 : (onTheHeap (Value.ref D) && Value.builtin "BaseException.__getattribute__" == Value.builtin "object.__getattribute__") = false := by rw [no1] <;> rfl
  have no3 : (false && onTheHeap (Value.builtin "BaseException.__getattribute__")) = false := rfl
  unfold getAttr? getAttrBy? getAttrBy
  refine wpAny_bind (wpAny_mkText (wpAny_bind (wpAny_attempt (wpAny_holding (wpAny_bind (type.at (wpAny_bind (by1.at ?_))))))))
  show wpAny _ _ (if (onTheHeap (Value.ref D) && Value.builtin "BaseException.__getattribute__" == Value.builtin "object.__getattribute__") = true then _ else _) _ _ _
  rw [no2, if_neg (fun q => nomatch q)]
  unfold getAttrByItsOwn hookBefore
  refine wpAny_bind ?_
  rw [if_pos (by rfl : onTheHeap (Value.ref D) = true)]
  refine by2.at (wpAny_bind (wpAny_attempt (wpAny_holding ?_)))
  unfold callGetattribute
  rw [no3, if_neg (fun q => nomatch q)]
  unfold boundAndCalled
  rw [PySem.F.excAttr_ValueError.ga.bind (Value.ref x)]
  refine wpAny_bind (wpAny_pure (show wpAny _ _ (call (.builtin "BaseException.__getattribute__") [.ref x, .str "__class__" tk]) _ _ _ from wpAny_call (codeAny_call_builtin PySem.F.excAttr_ValueError.ga.plain PySem.F.entry_bexc_ga ?_)))
  have kind := PySem.F.args_bexc_ga (.ref x) (.str "__class__" tk)
  refine @check_slot (model prog w) _ _ ⟨h, gs, dr, tk + 1, os⟩
    "BaseException.__getattribute__" "BaseException"
    "__getattribute__" (.ref x)
    [.str "__class__" tk] [] _ (by decide +kernel) (by decide +kernel)
    isExc kind ?_
  unfold Builtin.«object.__getattribute__»
  refine wpAny_bind (wpAny_of_eq (a := ((Value.ref x : Value), [Value.str "__class__" tk])) (by first | rfl | (simp only [slotArgs]; rfl)) (wpAny_bind (wpAny_pure (wpAny_bind (type.at (wpAny_bind (by3.at ?_)))))))
  show wpAny _ _ (holding [Value.builtin "object.__class__"] (call (.builtin "getset_descriptor.__get__") [.builtin "object.__class__", .ref x, .ref D]) >>= ret) _ _ _
  refine wpAny_bind (wpAny_holding (wpAny_call (class_get (s := ⟨h, gs, dr, tk + 1, os⟩) (ox := o) (od := od) I J C.hm (wpAny_pure ?_))))
  show wpAny _ _ (handedOut (.ref D)) _ _ _
  rw [handedOut_of (v := Value.ref D) rfl]
  first
    | exact wpAny_pure (wpAny_pure q)
    | exact wpAny_pure q
    | exact wpAny_pure (wpAny_bind (wpAny_pure (wpAny_pure q)))
theorem kitK (C : ExcC K D) : KitX K (.ref x) (.ref D) (fun h => InstAt h x o D od) where
  ty := fun _ _ _ J => J.type
  it := fun _ _ I _ => by
    obtain ⟨cd, is, _⟩ := any_some C.hd
    unfold clsIn at is
    split at is
    case h_2 => cases is
    case h_1 there =>
      intro A0 Q0 E0 s0 k q
      unfold isType loadHead
      exact wpAny_bind (wpAny_loadPart (k _ _ (I _ _ there)) (wpAny_pure q))
  ne := (handS_kitx_exc (x := x) (ox := o) C.hg C.hk C.hs C.hd C.ha C.hn C.ht C.hm).ne
  ca := fun I J q => asked_class C I J q
end
section
variable {X : Cx}
/-- e.f of a kept exception of the class C -/
def tXfK (K : PySem.W.Frag) (f : Str) (te : TE) : TE := fun σ H Q => te σ H fun x G => ∃ (e C dd : Addr) (fs : List (Str × V)) (v : V), x = .ref e ∧ G e = some (exK (.ref C) (some dd) e) ∧ XfC K C ∧ PySem.W.findIn K (.ref C) f = some none ∧ G dd = some (.xd fs) ∧ fs.lookup f = some v ∧ Q v G
theorem pe_xfK {b : Expr} {te : TE} {pos : Pos} {f : Str} (hb : PE X b te) (base : attributeBase b f X.env (eval b X.env) = eval b X.env := by rfl) : PE X (.Attribute b f pos) (tXfK X.K f te) := by
  refine ⟨fun pins s σ H Q I rd => ?_⟩
  refine attr_of base (thn (hb.run pins s σ H _ I rd) fun u z got => ?_)
  obtain ⟨x, G, J, ru, e, C, dd, fs, v, rfl, here, T, free, own, has, q⟩ := got
  cases (show u = Value.ref e from ru)
  obtain ⟨o, vs, go, ⟨cl, di⟩, da⟩ := exK_at J.hok here
  obtain ⟨mA, ns, vals⟩ : ObjOk X.prog X.w G z.heap dd (.xd fs) := J.hok dd _ own
  obtain ⟨od, god, look⟩ := lookIn_ns ns
  obtain ⟨y, ey, ry⟩ := RelO.some_of (v := v) (o := mA f) (has ▸ vals f)
  have inst : PySem.W.InstAt z.heap e o C (some od) := ⟨go, cl, by unfold PySem.W.notCls; rw [da] <;> rfl, by rw [di]; exact god⟩
  exact HandSPX.exc_get J.kIn inst T.ga T.gg T.exC (PySem.W.findObj_own T.hdC free rfl ((look f).trans (congrArg some ey))) (handed_of ry) ⟨v, G, J.tok _, ry, q⟩
/-- isinstance(e, c) of a kept exception of the class D; a dict that it has is in our heap -/
def rIsK (K : PySem.W.Frag) : List V → Hp → VK → Prop := fun xs H Q => ∃ (e D : Addr) (c : V) (cv : Value) (b : Bool), xs = [.ref e, c] ∧ (∃ d, H e = some (exK (.ref D) d e) ∧ ∀ dd, d = some dd → ∃ fs, H dd = some (.xd fs)) ∧ ExcC K D ∧ (∀ u, RelV c u → u = cv) ∧ PySem.W.kitOne K (.ref D) cv = some b ∧ Q (.bl b) H
theorem call_isK : CallR X (.builtin "isinstance") (rIsK X.K) := by
  intro pins s σ H xs us Q I r rd
  obtain ⟨e, D, c, cv, b, rfl, ⟨d, here, own⟩, C, only, says, q⟩ := rd
  obtain ⟨u1, u2, rfl, r1, r2⟩ := vals2 r
  cases (show u1 = Value.ref e from r1)
  cases only _ r2
  obtain ⟨o, vs, go, ⟨cl, di⟩, da⟩ := exK_at I.hok here
  obtain ⟨od, inst⟩ : ∃ od, PySem.W.InstAt s.heap e o D od := by
    cases d with
    | none => exact ⟨none, go, cl, by unfold PySem.W.notCls; rw [da] <;> rfl, by rw [di]; trivial⟩
    | some dd =>
      obtain ⟨fs, has⟩ := own dd rfl
      obtain ⟨mA, ns, _⟩ : ObjOk X.prog X.w H s.heap dd (.xd fs) := I.hok dd _ has
      obtain ⟨od, god, _⟩ := lookIn_ns ns
      exact ⟨some od, go, cl, by unfold PySem.W.notCls; rw [da] <;> rfl, by rw [di]; exact god⟩
  exact PySem.W.kia_one (kitK C) I.kIn inst says (fun z => nomatch z) fun tk => ⟨.bl b, H, I.kept (t' := tk) fun _ _ z => z, rfl, q⟩
end
end HSP
namespace HSP
open PySem PySem.Spec PyProof.Rows L2
/-! ## a def that may raise, called by its name -/
structure DfX (P : Program) (w : World) (K : PySem.W.Frag) (mg : Str → Option Value) (base : Heap) (x : Str) (n : Nat) (ps : List Str) (sp : Sp) : Prop where
  ex : ∃ (f : Addr) (fd : FuncData), mg x = some (.ref f) ∧ PySem.W.keepIn K (.ref f) = true ∧ Binds K fd ps [] ∧ FnOk P w K mg base (L2.CX P w) n f fd ps sp
section
variable {P : Program} {w : World} {K : PySem.W.Frag} {mg : Str → Option Value} {base : Heap}
theorem DfX.mk' {x : Str} {st : Stmt} {N ps : List Str} {k : Nat} {sp : Sp} (a : At K mg x st) (S : FnScope N ps (defScope st)) (len : ∀ vs H Q E, sp vs H Q E → vs.length = ps.length)
    (hb : ∀ (kV doc pm : Value) (an : Option Addr) (cdv ct : Value) (us : List Value), us.length = ps.length → bindArgs (PySem.W.fnOf x x (defArgs st) (defBody st) (defScope st) .none kV doc pm an cdv ct) ⟨us, []⟩ = pure (ps.zip us))
    (body : ∀ (f : Addr) (cdv : Value) (A : Around) (outer : List Env) (s : Shared) (H : Hp) (vs : List V) (Q : VK) (E : XK), Room k (A.deeper (envOfC x (defScope st) s.heap.objs.size f cdv)) → sp vs H Q E →
      ∃ t, PSs (cxOf (L2.CX P w) P w K mg base N x (defScope st) f cdv A outer s H E) (defBody st) t ∧ t { nx := fun _ H' => Q .non H', rt := Q } (start N vs) H) : DfX P w K mg base x (k + 1) ps sp := by
  obtain ⟨f, fd, named, F⟩ := a
  exact ⟨f, fd, named, F.kp, F.binds hb, F.okX S len (body f)⟩
theorem DfX.mono {x : Str} {j k : Nat} {ps : List Str} {sp : Sp} (D : DfX P w K mg base x j ps sp) (h : j ≤ k) : DfX P w K mg base x k ps sp := by
  obtain ⟨f, fd, a, b, c, d⟩ := D.ex
  exact ⟨f, fd, a, b, c, d.mono h⟩
end
section
variable {X : Cx} {k : Nat} {ps : List Str} {sp : Sp} {x : Str} {p pos : Pos} {e : Expr} {es : List Expr} {t : TA} {W : WX}
theorem pe_dfX (D : DfX X.prog X.w X.K X.mg X.base x k ps sp) (hr : Room k X.A) (tk : Takes X W) (ha : PA X (e :: es) t) (hg : Gl X x := by rfl) (hdb : (x == ("__debug__" : Str)) = false := by decide)
    (he : starEach (e :: es) X.env = (false, eval e X.env) :: starEach es X.env := by rfl) (hpl : (backTo pos (starEach es X.env)).any (·.1) = false := by rfl) : PE X (.Call (.Name x p) (e :: es) [] pos) (tCallS sp (WE W) t) := by
  obtain ⟨f, fd, named, kept, binds, F⟩ := D.ex
  exact pe_callS F hr hg named kept binds (fun σ => passAt tk σ) ha hdb he hpl
end
end HSP
namespace HSP
open PySem PySem.Spec PyProof.Rows L2
/-! ### is_tree of anything -/
/-- a thing: None; a pair of things; anything else -/
inductive Th where
  | nil
  | bad
  | nod (l r : Th)
def Th.size : Th → Nat
  | .nil => 0
  | .bad => 0
  | .nod l r => l.size + 1 + r.size
def Th.good : Th → Bool
  | .nil => true
  | .bad => false
  | .nod l r => l.good && r.good
def BadV (K : PySem.W.Frag) (H : Hp) (v : V) : Prop := v ≠ .non ∧ ((∃ t, TyX K H v t ∧ PySem.W.kitOne K t (.type "tuple") = some false) ∨ ∃ a xs, v = .ref a ∧ H a = some (.tup xs) ∧ xs.length ≠ 2)
theorem TyX.same {K : PySem.W.Frag} {H H' : Hp} {v : V} {t : Value} (s : Same H H') (h : TyX K H v t) : TyX K H' v t := by
  cases h with
  | base b =>
    refine .base ?_
    cases b with
    | non => exact .non
    | bl x => exact .bl x
    | int x => exact .int x
    | str x => exact .str x
    | flt x => exact .flt x
    | lst e => exact .lst (s _ _ e)
    | frz e => exact .frz (s _ _ e)
    | tup e => exact .tup (s _ _ e)
    | dK e => exact .dK (s _ _ e)
    | dT e => exact .dT (s _ _ e)
    | ins e a b c d f => exact .ins (s _ _ e) a b c d f
  | byt b => exact .byt b
  | set e => exact .set (s _ _ e)
  | kList e c => exact .kList e c
  | kTuple e c => exact .kTuple e c
  | kDict e c => exact .kDict e c
  | fTuple e => exact .fTuple (s _ _ e)
  | fDict e => exact .fDict (s _ _ e)
inductive ThAt (K : PySem.W.Frag) (H : Hp) : V → Th → Prop
  | nil : ThAt K H .non .nil
  | bad {v : V} (b : BadV K H v) : ThAt K H v .bad
  | nod {a : Addr} {x y : V} {l r : Th} : H a = some (.tup [x, y]) → ThAt K H x l → ThAt K H y r → ThAt K H (.ref a) (.nod l r)
inductive WaitT (K : PySem.W.Frag) (H : Hp) : List V → List Th → Prop
  | nil : WaitT K H [] []
  | cons {v : V} {t : Th} {vs : List V} {ts : List Th} : ThAt K H v t → WaitT K H vs ts → WaitT K H (v :: vs) (t :: ts)
def sizesT : List Th → Nat
  | [] => 0
  | t :: r => t.size + sizesT r
def turnsT : List Th → Nat
  | [] => 0
  | t :: r => 2 * t.size + 1 + turnsT r
section
variable {P : Program} {w : World} {K : PySem.W.Frag} {mg : Str → Option Value} {base : Heap}
def spTreeX (K : PySem.W.Frag) : Sp := fun vs H Q _ => ∃ (v : V) (t : Th), vs = [v] ∧ ThAt K H v t ∧ t.size ≤ 1000 ∧ ∀ H', Same H H' → Q (.bl t.good) H'
theorem sc_treeX : FnScope n_is_tree ["thing"] (defScope s_is_tree) := ⟨rfl, rfl, rfl, by decide +kernel, rfl, by decide +kernel, by decide +kernel⟩
theorem ok_treeX (B : Bl mg) (a : At K mg "is_tree" s_is_tree) : Df P w K mg base "is_tree" 1 ["thing"] (spTreeX K) := by
  refine Df.mk' a sc_treeX (fun vs H Q E h => ?_) (fun _ _ _ _ _ _ us hl => match us, hl with | [_], _ => rfl) (fun f cdv A outer s H vs Q E hr h => ?_)
  · obtain ⟨v, t, rfl, _⟩ := h
    rfl
  obtain ⟨v, t, rfl, ht, hz, q⟩ := h
  refine ⟨_, (pss_cons (ps_set (i := 1) sc_treeX.nd rfl (.inl rfl) (pe_lst (pa_cons (pv 0) pa_nil)))
 (pss_cons (ps_while PassesOwn.never (pt_truth (pv 1) (by intro _; rfl)) (pss_cons (ps_set (i := 2) sc_treeX.nd rfl (.inl rfl) (pe_bm0 PySem.F.plainAttrs_list PySem.F.slot_list_pop PySem.F.type_list_pop mt_pop (pv 1)))
 (pss_one (ps_if (pt_cmpR op_notN (pv 2) pe_non (nomark _)) (pss_cons (ps_if (PW.pt (pw_or (pt_not (pt_val (pe_callB call_isi (by rfl) B.isinstance (by decide +kernel) (pa_cons (pv 2) (pa_cons (pe_bltn (v := .ty "tuple") (by rfl) B.tuple (by decide +kernel) rfl) pa_nil))))) (pw_or1 (pt_cmpR op_ne (pe_callB call_len_seq (by rfl) B.len PySem.boot_len (pa_cons (pv 2) pa_nil)) pe_int (nomark _))))) (pss_one (ps_ret pe_bl)) pss_nil)
 (pss_cons (ps_expr (pe_bm PySem.F.plainAttrs_list PySem.F.slot_list_append PySem.F.type_list_append mt_append (pv 1) (pa_cons (pe_ix ix_tup (pv 2) pe_int (fun _ _ => rfl)) pa_nil)))
 (pss_one (ps_expr (pe_bm PySem.F.plainAttrs_list PySem.F.slot_list_append PySem.F.type_list_append mt_append (pv 1) (pa_cons (pe_ix ix_tup (pv 2) pe_int (fun _ _ => rfl)) pa_nil)))))) pss_nil))))
 (pss_one (ps_ret pe_bl)))), ?_⟩
  refine ⟨v, rfl, (by show 1 ≤ sizeLine; decide), fun l hl => ?_⟩
  have s0 : Same H (upd H l (.lst [v])) := Same.new hl
  refine ⟨fun m σ H1 => ∃ (vs : List V) (ts : List Th) (n : Nat) (y : Option V), σ = [some v, some (.ref l), y] ∧ Same H H1 ∧ H1 l = some (.lst vs.reverse) ∧ WaitT K H vs ts ∧ n + sizesT ts = t.size ∧ vs.length ≤ n + 1 ∧ ts.all Th.good = t.good ∧ m = turnsT ts,
    ⟨_, [v], [t], 0, none, rfl, s0, upd_same, .cons ht .nil, by show 0 + (t.size + 0) = t.size; omega, by show 1 ≤ 0 + 1; omega, by show (t.good && true) = t.good; rw [Bool.and_true], rfl⟩, fun m σ H1 hW => ?_⟩
  obtain ⟨vs, ts, n, y, rfl, sm, el, hw, hn, hlen, good, rfl⟩ := hW
  refine ⟨.ref l, rfl, !vs.reverse.isEmpty, .inl ⟨_, .of el, rfl⟩, ?_⟩
  rw [rev_empty]
  cases hw with
  | nil =>
    rw [← good] at q
    exact iteF (q _ sm)
  | @cons x u xs us hx hxs =>
    refine iteT ⟨fun σ' H' => ∃ m', m' < turnsT (u :: us) ∧ ∃ (vs : List V) (ts : List Th) (n : Nat) (y : Option V), σ' = [some v, some (.ref l), y] ∧ Same H H' ∧ H' l = some (.lst vs.reverse) ∧ WaitT K H vs ts ∧ n + sizesT ts = t.size ∧ vs.length ≤ n + 1 ∧ ts.all Th.good = t.good ∧ m' = turnsT ts,
      fun σ' H' hN => hN, ?_⟩
    refine ⟨.ref l, rfl, .inl ⟨rfl, _, .of el⟩, l, _, x, rfl, rfl, el, last_rev, ?_⟩
    rw [drop_rev]
    have sm2 : Same H (upd H1 l (.lst xs.reverse)) := fun b o e => by rw [upd_ne (ne_of_none e hl)]; exact sm b o e
    refine ⟨x, rfl, rfl, _, rfl, ?_⟩
    cases hx with
    | nil =>
      refine iteF ?_
      refine ⟨_, ?_, xs, us, n, _, rfl, sm2, upd_same, hxs, ?_, ?_, good, rfl⟩
      · show turnsT us < 2 * 0 + 1 + turnsT us; omega
      · have : 0 + sizesT us = sizesT (Th.nil :: us) := rfl
        omega
      · rw [List.length_cons] at hlen; omega
    | bad b =>
      have is : t.good = false := good.symm
      rw [is] at q
      obtain ⟨not, b⟩ := b
      rw [show (!decide (x = V.non)) = true by rw [decide_eq_false not]; rfl]
      refine iteT ?_
      rcases b with ⟨ty, k, no⟩ | ⟨a, xs2, rfl, e, two⟩
      · refine ⟨_, rfl, _, _, _, _, false, rfl, .ty "tuple", TyX.same sm2 k, no, false, rfl, iteT ?_⟩
        exact q _ sm2
      · refine ⟨_, rfl, _, _, _, _, true, rfl, .ty "tuple", .base (.tup (sm2 _ _ e)), rfl, true, rfl, iteF ?_⟩
        refine ⟨_, rfl, a, _, rfl, .inr (.of (sm2 _ _ e)), rfl, _, rfl, ?_⟩
        rw [show (!decide (V.int ((xs2.length : Nat) : Int) = V.int 2)) = true by rw [decide_eq_false (fun z => two (by have := V.int.inj z; omega))]; rfl]
        exact iteT (q _ sm2)
    | @nod a x1 y1 l1 r1 ea hl1 hr1 =>
      refine iteT ?_
      have e2 : (upd H1 l (.lst xs.reverse)) a = some (.tup [x1, y1]) := sm2 _ _ ea
      refine ⟨_, rfl, _, _, _, _, true, rfl, .ty "tuple", .base (.tup e2), rfl, true, rfl, iteF ?_⟩
      refine ⟨_, rfl, a, _, rfl, .inr (.of e2), rfl, _, rfl, iteF ?_⟩
      refine ⟨_, rfl, .inl ⟨rfl, _, .of upd_same⟩, _, rfl, a, _, _, y1, rfl, rfl, .of e2, atI_nat (j := 1) rfl, l, _, _, rfl, rfl, upd_same, ?_, ?_⟩
      · rw [List.length_reverse]
        rw [List.length_cons] at hlen
        exact small1000 (by omega)
      refine ⟨_, rfl, .inl ⟨rfl, _, .of upd_same⟩, _, rfl, a, _, _, x1, rfl, rfl, .of (by rw [upd_ne (ne_of_none ea hl)]; exact e2), atI_nat (xs := [x1, y1]) (j := 0) rfl, l, _, _, rfl, rfl, upd_same, ?_, ?_⟩
      · rw [List.length_append, List.length_reverse, List.length_singleton]
        rw [List.length_cons] at hlen
        have e1 : sizesT (Th.nod l1 r1 :: us) = (l1.size + 1 + r1.size) + sizesT us := rfl
        exact small1000 (by omega)
      rw [rev_push, rev_push]
      refine ⟨_, ?_, x1 :: y1 :: xs, l1 :: r1 :: us, n + 1, _, rfl, fun b o e => ?_, upd_same, .cons hl1 (.cons hr1 hxs), ?_, ?_, ?_, rfl⟩
      · show 2 * l1.size + 1 + (2 * r1.size + 1 + turnsT us) < 2 * (l1.size + 1 + r1.size) + 1 + turnsT us
        omega
      · rw [upd_ne (ne_of_none e hl), upd_ne (ne_of_none e hl)]
        exact sm2 b o e
      · have e1 : sizesT (Th.nod l1 r1 :: us) = (l1.size + 1 + r1.size) + sizesT us := rfl
        show n + 1 + (l1.size + (r1.size + sizesT us)) = t.size
        omega
      · rw [List.length_cons, List.length_cons]
        rw [List.length_cons] at hlen
        omega
      · rw [← good]
        show (l1.good && (r1.good && us.all Th.good)) = ((l1.good && r1.good) && us.all Th.good)
        rw [Bool.and_assoc]
end
end HSP
namespace HSP
open PySem PySem.Spec PyProof.Rows L2
/-! ### InvalidLabels(node) -/
def clsBodyL : Stmt → List Stmt
  | .ClassDef (body := b) .. => b
  | _ => []
abbrev s_ilInit : Stmt := (clsBodyL (topS 3)).getD 0 (.Pass ⟨0, 0, 0, 0⟩)
abbrev n_ilInit : List Str := ["self", "node"]
section
variable {P : Program} {w : World} {K : PySem.W.Frag} {mg : Str → Option Value} {base : Heap}
theorem sc_ilInit : FnScope ["self", "node"] ["self", "node"] (defScope s_ilInit) := ⟨rfl, rfl, rfl, by decide +kernel, rfl, by decide +kernel, by decide +kernel⟩
def spIlInit (K : PySem.W.Frag) : Sp := fun vs H Q _ => ∃ (a C : Addr) (v : V), vs = [.ref a, v] ∧ OexC K C ∧ PySem.W.findIn K (.ref C) "node" = some none ∧ H a = some (exo a C none) ∧ ∀ dx, H dx = none → dx ≠ a → Q .non (upd (upd H dx (exd dx [("node", v)])) a (exo a C (some dx)))
theorem ok_ilInit {f : Addr} {fd : FuncData} (hv : mg "ValueError" = none) (vV : PySem.W.findCls K (.type "ValueError") (.type "type") "__init__" = some (.val (.builtin "ValueError.__init__"))) (F : Fun K "__init__" "InvalidLabels.__init__" s_ilInit f fd) : FnOk P w K mg base CX0 1 f fd ["self", "node"] (spIlInit K) := by
  refine F.ok sc_ilInit (fun vs H Q E h => ?_) (fun cdv A outer s H vs Q E hr h => ?_)
  · obtain ⟨a, C, v, rfl, _⟩ := h
    rfl
  obtain ⟨a, C, v, rfl, T, no, e, q⟩ := h
  refine ⟨_, pss_cons (ps_expr (pe_veinit (by rfl) hv vV (pa_cons (pv 0) (pa_cons pe_str pa_nil)))) (pss_one (ps_ost (pv 0) (pv 1))), ?_⟩
  refine ⟨_, rfl, a, C, _, rfl, (by show 1 ≤ 1000; decide), T, e, ?_⟩
  exact ⟨_, rfl, _, rfl, a, C, rfl, T, no, .inl ⟨e, q⟩⟩
/-- what raising InvalidLabels asks -/
structure OwnL (K : PySem.W.Frag) (mg : Str → Option Value) (C fI : Addr) (fd : FuncData) : Prop where
  g : mg "InvalidLabels" = some (.ref C)
  T : OexC K C
  i : PySem.W.findIn K (.ref C) "__init__" = some (some (.ref fI))
  t : PySem.W.typeIn K (.ref fI) = some (.type "function")
  no : PySem.W.findIn K (.ref C) "node" = some none
  F : Fun K "__init__" "InvalidLabels.__init__" s_ilInit fI fd
  b : Binds K fd ["self", "node"] []
  v : mg "ValueError" = none
  vV : PySem.W.findCls K (.type "ValueError") (.type "type") "__init__" = some (.val (.builtin "ValueError.__init__"))
def EL (C : Addr) (E : XK) (H : Hp) (v : V) : Prop := ∀ (H' : Hp) (dd : Addr), Same H H' → H' dd = some (.xd [("node", v)]) → E (.ref C) (some dd) H'
theorem EL.same {C : Addr} {E : XK} {H H1 : Hp} {v : V} (s : Same H H1) (h : EL C E H v) : EL C E H1 v := fun H' dd s' e => h H' dd (s.trans s') e
theorem mk_il {C : Addr} (T : OexC K C) (no : PySem.W.findIn K (.ref C) "node" = some none) {E : XK} {H : Hp} {v : V} (h : EL C E H v) :
    [v].length ≤ 1000 ∧ ∀ a, H a = none → spIlInit K (.ref a :: ([v] ++ [])) (upd H a (exo a C none)) (fun x H2 => x = .non ∧ ∃ (d : Addr) (fs : List (Str × V)), H2 a = some (exo a C (some d)) ∧ H2 d = some (exd d fs) ∧ H d = none ∧ E (.ref C) (some d) (upd (del H2 a) d (.xd fs))) (fun _ _ _ => False) := by
  refine ⟨(by show 1 ≤ 1000; decide), fun a na => ⟨a, C, v, rfl, T, no, upd_same, fun dx nd ne => ?_⟩⟩
  rw [upd_ne ne] at nd
  refine ⟨rfl, dx, [("node", v)], upd_same, (upd_ne ne).trans upd_same, nd, h _ dx (fun b o e => ?_) upd_same⟩
  have b1 : b ≠ dx := fun z => by rw [z, nd] at e; cases e
  have b2 : b ≠ a := fun z => by rw [z, na] at e; cases e
  rw [upd_ne b1, del_ne b2, upd_ne b2, upd_ne b1, upd_ne b2]
  exact e
end
end HSP
namespace HSP
open PySem PySem.Spec PyProof.Rows L2
/-- labels stand in a list -/
def strAt (ls : List Str) (i : Nat) : Str := ls.getD i ""
theorem strAt_get {ls : List Str} {i : Nat} (h : i < ls.length) : (ls.map V.str)[i]? = some (.str (strAt ls i)) := by
  rw [List.getElem?_map, List.getElem?_eq_getElem h, strAt, List.getD_eq_getElem?_getD, List.getElem?_eq_getElem h]
  rfl
def StrsOk (ls : List Str) : Prop := ∀ l, l ∈ ls → PyData.strOk l = true
theorem strAt_ok {ls : List Str} (h : StrsOk ls) {i : Nat} (hi : i < ls.length) : PyData.strOk (strAt ls i) = true := by
  rw [strAt, List.getD_eq_getElem?_getD, List.getElem?_eq_getElem hi]
  exact h _ (List.getElem_mem hi)
def optN : Option Nat → V
  | none => .non
  | some n => natV n
theorem sideV_str (b : Bool) : sideV b = .str (sideS b) := by cases b <;> rfl
section
variable {P : Program} {w : World} {K : PySem.W.Frag} {mg : Str → Option Value} {base : Heap}
/-! ### killer_of -/
theorem sc_killer : FnScope n_killer_of ["pattern", "above"] (defScope s_killer_of) := ⟨rfl, rfl, rfl, by decide +kernel, rfl, by decide +kernel, by decide +kernel⟩
def spKiller : Sp := fun vs H Q _ => ∃ (a r : Addr) (ls : List Str) (p : List (Nat × Bool)), vs = [.ref a, .ref r] ∧ H a = some (.lst (ls.map V.str)) ∧ StrsOk ls ∧ PathAt H r p ∧ (∀ z, z ∈ p → z.1 < ls.length) ∧ ∀ (H' : Hp), Same H H' → Q (optN (killerOf (strAt ls) p)) H'
theorem ok_killer (a : At K mg "killer_of" s_killer_of) : Df P w K mg base "killer_of" 1 ["pattern", "above"] spKiller := by
  refine Df.mk' a sc_killer (fun vs H Q E h => ?_) (fun _ _ _ _ _ _ us hl => match us, hl with | [_, _], _ => rfl) (fun f cdv A outer s H vs Q E hr h => ?_)
  · obtain ⟨a, r, ls, p, rfl, _⟩ := h
    rfl
  obtain ⟨a, r, ls, p, rfl, ha, hok, ⟨tups, er, pt⟩, hn, q⟩ := h
  refine ⟨_, (pss_cons (ps_for PassesOwn.never rfl (pi_list (pv 1)) (pg_tup rfl (pgs_cons (pg_name (i := 2) sc_killer.nd rfl (.inl rfl)) (pgs_cons (pg_name (i := 3) sc_killer.nd rfl (.inl rfl)) pgs_nil))) (pss_one (ps_if (pt_cmpR (op_inTD (units65 hr)) (pe_tup (pa_cons (pe_ix ix_list (pv 0) (pv 2) (fun _ _ => rfl)) (pa_cons (pv 3) pa_nil))) (pe_tup (pa_cons (pe_tup (pa_cons pe_str (pa_cons pe_str pa_nil))) (pa_cons (pe_tup (pa_cons pe_str (pa_cons pe_str pa_nil))) pa_nil))) (by rfl)) (pss_one (ps_ret (pv 2))) pss_nil)))
 (pss_one (ps_ret pe_non))), ?_⟩
  have lt := Paired.length pt
  refine ⟨_, rfl, r, rfl, ⟨_, .of er⟩, for_list (xs := tups.map V.ref) (fun i σ H' => ∃ y2 y3 : Option V, σ = [some (.ref a), some (.ref r), y2, y3] ∧ Same H H' ∧ killerOf (strAt ls) p = killerOf (strAt ls) (p.drop i)) ⟨_, _, rfl, Same.refl _, rfl⟩ (fun i σ H1 _ h1 => ?_) (fun i x σ H1 hx h1 => ?_) (fun σ H1 h1 => ?_)⟩
  · obtain ⟨_, _, _, s1, _⟩ := h1
    exact .of (s1 _ _ er)
  · obtain ⟨y2, y3, rfl, s1, hk⟩ := h1
    rw [List.getElem?_map] at hx
    obtain ⟨T, hT, rfl⟩ := Option.map_eq_some_iff.mp hx
    obtain ⟨⟨n, b⟩, hz, eT⟩ := Paired.getL pt hT
    have hnz := hn (n, b) (List.mem_of_getElem? hz)
    have hi : i < p.length := (List.getElem?_eq_some_iff.mp hz).1
    have ed : p.drop i = (n, b) :: p.drop (i + 1) := by
      rw [List.drop_eq_getElem_cons hi, (List.getElem?_eq_some_iff.mp hz).2]
    refine ⟨T, _, rfl, .of (s1 _ _ eT), rfl, _, _, rfl, _, [], rfl, rfl, ?_⟩
    refine ⟨_, rfl, _, rfl, a, _, _, _, rfl, rfl, .of (s1 _ _ ha), at_of (j := n) rfl (strAt_get hnz), _, rfl, (by show 2 ≤ sizeLine; decide), fun P1 hP1 => ⟨(by show 2 ≤ sizeLine; decide), fun P2 hP2 => ⟨(by show 2 ≤ sizeLine; decide), fun P3 hP3 => ⟨(by show 2 ≤ sizeLine; decide), fun P4 hP4 => ?_⟩⟩⟩⟩
    have t1 := Same.new (o := .tup [V.str (strAt ls n), sideV b]) hP1
    have t2 := Same.new (o := .tup [V.str "low", V.str "left"]) hP2
    have t3 := Same.new (o := .tup [V.str "high", V.str "right"]) hP3
    have t4 := Same.new (o := .tup [V.ref P2, V.ref P3]) hP4
    have e1 := t4 _ _ (t3 _ _ (t2 _ _ (upd_same (H := H1) (a := P1) (o := .tup [V.str (strAt ls n), sideV b]))))
    have e2 := t4 _ _ (t3 _ _ (upd_same (H := upd H1 P1 (.tup [V.str (strAt ls n), sideV b])) (a := P2) (o := .tup [V.str "low", V.str "left"])))
    have e3 := t4 _ _ (upd_same (H := upd (upd H1 P1 (.tup [V.str (strAt ls n), sideV b])) P2 (.tup [V.str "low", V.str "left"])) (a := P3) (o := .tup [V.str "high", V.str "right"]))
    have d1 : Dp K (upd (upd (upd (upd H1 P1 (.tup [V.str (strAt ls n), sideV b])) P2 (.tup [V.str "low", V.str "left"])) P3 (.tup [V.str "high", V.str "right"])) P4 (.tup [V.ref P2, V.ref P3])) (.ref P1) (pairD (strAt ls n) b) := by
      rw [sideV_str] at e1 ⊢
      exact .tup (.of e1) (.cons (.str _) (.cons (.str _) .nil))
    refine ⟨pairD (strAt ls n) b, [.tuple [.str "low", .str "left"], .tuple [.str "high", .str "right"]], d1, .tup (.of upd_same) (.cons (.tup (.of e2) (.cons (.str _) (.cons (.str _) .nil))) (.cons (.tup (.of e3) (.cons (.str _) (.cons (.str _) .nil))) .nil)), pair_shaped b (strAt_ok hok hnz), kills_shaped, _, rfl, ?_⟩
    rw [kill_any]
    have s2 := s1.trans (t1.trans (t2.trans (t3.trans t4)))
    cases c : kills (strAt ls n) b with
    | true =>
      refine iteT ?_
      have ek : killerOf (strAt ls) p = some n := by
        rw [hk, ed]
        show (if kills (strAt ls n) b = true then some n else _) = some n
        rw [if_pos c]
      have fin := q _ s2
      rw [ek] at fin
      exact ⟨_, rfl, fin⟩
    | false =>
      refine iteF ⟨_, _, rfl, s2, ?_⟩
      rw [hk, ed]
      show (if kills (strAt ls n) b = true then some n else _) = _
      rw [if_neg (by rw [c]; exact Bool.false_ne_true)]
  · obtain ⟨y2, y3, rfl, s1, hk⟩ := h1
    have fin := q _ s1
    rw [hk, List.length_map, lt, List.drop_length] at fin
    exact fin
/-! ### bound_of -/
theorem sc_bound : FnScope n_bound_of ["pattern", "above", "side"] (defScope s_bound_of) := ⟨rfl, rfl, rfl, by decide +kernel, rfl, by decide +kernel, by decide +kernel⟩
def spBound : Sp := fun vs H Q _ => ∃ (a r : Addr) (ls : List Str) (p : List (Nat × Bool)) (c : Bool), vs = [.ref a, .ref r, .str (sideS c)] ∧ H a = some (.lst (ls.map V.str)) ∧ PathAt H r p ∧ (∀ z, z ∈ p → z.1 < ls.length) ∧ Q (optN (boundOf (strAt ls) c p none)) H
theorem side_eq (b c : Bool) : decide (V.str (sideS b) = V.str (sideS c)) = decide (b = c) := by
  cases b <;> cases c <;> decide +kernel
theorem ok_bound (a : At K mg "bound_of" s_bound_of) : Df P w K mg base "bound_of" 1 ["pattern", "above", "side"] spBound := by
  refine Df.mk' a sc_bound (fun vs H Q E h => ?_) (fun _ _ _ _ _ _ us hl => match us, hl with | [_, _, _], _ => rfl) (fun f cdv A outer s H vs Q E hr h => ?_)
  · obtain ⟨a, r, ls, p, c, rfl, _⟩ := h
    rfl
  obtain ⟨a, r, ls, p, c, rfl, ha, ⟨tups, er, pt⟩, hn, q⟩ := h
  refine ⟨_, (pss_cons (ps_set (i := 3) sc_bound.nd rfl (.inl rfl) pe_non)
 (pss_cons (ps_for PassesOwn.never rfl (pi_list (pv 1)) (pg_tup rfl (pgs_cons (pg_name (i := 4) sc_bound.nd rfl (.inl rfl)) (pgs_cons (pg_name (i := 5) sc_bound.nd rfl (.inl rfl)) pgs_nil))) (pss_one (ps_if (PW.pt (pw_and (pt_cmpR op_eq (pv 5) (pv 2) (nomark _)) (pw_and1 (pt_cmpR op_eq (pe_ix ix_list (pv 0) (pv 4) (fun _ _ => rfl)) pe_str (nomark _))))) (pss_one (ps_set (i := 3) sc_bound.nd rfl (.inl rfl) (pv 4))) pss_nil)))
 (pss_one (ps_ret (pv 3))))), ?_⟩
  have lt := Paired.length pt
  refine ⟨_, rfl, r, rfl, ⟨_, .of er⟩, for_list (xs := tups.map V.ref) (fun i σ H' => ∃ (z : Option Nat) (y4 y5 : Option V), σ = [some (.ref a), some (.ref r), some (.str (sideS c)), some (optN z), y4, y5] ∧ H' = H ∧ boundOf (strAt ls) c p none = boundOf (strAt ls) c (p.drop i) z) ⟨none, _, _, rfl, rfl, rfl⟩ (fun i σ H1 _ h1 => ?_) (fun i x σ H1 hx h1 => ?_) (fun σ H1 h1 => ?_)⟩
  · obtain ⟨_, _, _, _, s1, _⟩ := h1
    rw [s1]
    exact .of er
  · obtain ⟨z, y4, y5, rfl, rfl, hk⟩ := h1
    rw [List.getElem?_map] at hx
    obtain ⟨T, hT, rfl⟩ := Option.map_eq_some_iff.mp hx
    obtain ⟨⟨n, b⟩, hz, eT⟩ := Paired.getL pt hT
    have hnz := hn (n, b) (List.mem_of_getElem? hz)
    have hi : i < p.length := (List.getElem?_eq_some_iff.mp hz).1
    have ed : p.drop i = (n, b) :: p.drop (i + 1) := by
      rw [List.drop_eq_getElem_cons hi, (List.getElem?_eq_some_iff.mp hz).2]
    have step : boundOf (strAt ls) c p none = boundOf (strAt ls) c (p.drop (i + 1)) (if b = c ∧ strAt ls n = ("found" : Str) then some n else z) := by
      rw [hk, ed]
      rfl
    rw [sideV_str] at eT
    refine ⟨T, _, rfl, .of eT, rfl, _, _, rfl, _, [], rfl, rfl, ?_⟩
    refine ⟨_, rfl, _, rfl, rfl, _, rfl, ?_⟩
    rw [side_eq]
    by_cases d : b = c
    · rw [decide_eq_true d]
      refine iteT ⟨_, rfl, _, rfl, a, _, _, _, rfl, rfl, .of ha, at_of (j := n) rfl (strAt_get hnz), rfl, _, rfl, ?_⟩
      by_cases e : strAt ls n = ("found" : Str)
      · refine ite_yes (congrArg V.str e) ⟨_, rfl, some n, _, _, rfl, rfl, ?_⟩
        rw [step, if_pos ⟨d, e⟩]
      · refine ite_no (fun x => e (V.str.inj x)) ⟨z, _, _, rfl, rfl, ?_⟩
        rw [step, if_neg (fun x => e x.2)]
    · rw [decide_eq_false d]
      refine iteF (iteF ⟨z, _, _, rfl, rfl, ?_⟩)
      rw [step, if_neg (fun x => d x.1)]
  · obtain ⟨z, y4, y5, rfl, rfl, hk⟩ := h1
    rw [hk, List.length_map, lt, List.drop_length] at q
    exact ⟨_, rfl, q⟩
/-! ### owners_of -/
theorem sc_owners : FnScope n_owners_of ["tree", "pattern"] (defScope s_owners_of) := ⟨rfl, rfl, rfl, by decide +kernel, rfl, by decide +kernel, by decide +kernel⟩
def labsS (g : Nat → Int) (t : Tr) : List Str := (List.range t.size).map fun i => (labAt g t i).str
theorem labsS_len (g : Nat → Int) (t : Tr) : (labsS g t).length = t.size := by
  unfold labsS
  rw [List.length_map, List.length_range]
theorem labsS_at (g : Nat → Int) (t : Tr) {i : Nat} (h : i < t.size) : strAt (labsS g t) i = (labAt g t i).str := by
  unfold strAt labsS
  rw [List.getD_eq_getElem?_getD, List.getElem?_map, List.getElem?_range h]
  rfl
theorem labsV_S (g : Nat → Int) (t : Tr) : labsV g t t.size = (labsS g t).map V.str := by
  unfold labsV labsS
  rw [List.map_map]
  rfl
theorem lb_ok (l : Lb) : PyData.strOk l.str = true := by cases l <;> decide +kernel
theorem labsS_ok (g : Nat → Int) (t : Tr) : StrsOk (labsS g t) := fun l h => by
  obtain ⟨i, _, rfl⟩ := List.mem_map.mp h
  exact lb_ok _
/-- only the labels on a path matter -/
theorem killerOf_same {l l' : Nat → Str} : ∀ {p : List (Nat × Bool)}, (∀ z, z ∈ p → l z.1 = l' z.1) → killerOf l p = killerOf l' p
  | [], _ => rfl
  | (n, b) :: r, h => by
    show (if kills (l n) b = true then some n else killerOf l r) = if kills (l' n) b = true then some n else killerOf l' r
    have e : l n = l' n := h (n, b) List.mem_cons_self
    rw [e, killerOf_same fun z hz => h z (List.mem_cons_of_mem _ hz)]
theorem boundOf_same {l l' : Nat → Str} {c : Bool} : ∀ {p : List (Nat × Bool)} {z : Option Nat}, (∀ z, z ∈ p → l z.1 = l' z.1) → boundOf l c p z = boundOf l' c p z
  | [], _, _ => rfl
  | (n, b) :: r, z, h => by
    show boundOf l c r (if b = c ∧ l n = ("found" : Str) then some n else z) = boundOf l' c r (if b = c ∧ l' n = ("found" : Str) then some n else z)
    have e : l n = l' n := h (n, b) List.mem_cons_self
    rw [e]
    exact boundOf_same fun z hz => h z (List.mem_cons_of_mem _ hz)
def spOwners : Sp := fun vs H Q _ => ∃ (v : V) (t : Tr) (a : Addr) (g : Nat → Int), vs = [v, .ref a] ∧ TrAt H v t ∧ t.size ≤ 300 ∧ H a = some (.lst (labsV g t t.size)) ∧
  ∀ (H' : Hp) (q : Addr) (os : List Nat), Same H H' → H q = none → H' q = some (.lst (os.map natV)) → os.length = t.size → (∀ n, n < t.size → Owns g t n (os.getD n 0)) → Q (.ref q) H'
theorem ok_owners (B : Bl mg) (W : Df P w K mg base "walk" 2 ["tree"] spWalk) (Ki : Df P w K mg base "killer_of" 1 ["pattern", "above"] spKiller) (Bo : Df P w K mg base "bound_of" 1 ["pattern", "above", "side"] spBound) (a : At K mg "owners_of" s_owners_of) :
    Df P w K mg base "owners_of" 3 ["tree", "pattern"] spOwners := by
  refine Df.mk' a sc_owners (fun vs H Q E h => ?_) (fun _ _ _ _ _ _ us hl => match us, hl with | [_, _], _ => rfl) (fun f cdv A outer s H vs Q E hr h => ?_)
  · obtain ⟨v, t, a, g, rfl, _⟩ := h
    rfl
  obtain ⟨v, t, a, g, rfl, ht, hz, ha, q⟩ := h
  refine ⟨_, (pss_cons (ps_set (i := 2) sc_owners.nd rfl (.inl rfl) (pe_listRg rfl (by rfl) B.list (prg_1 (by rfl) B.range (pe_callB call_len_seq (by rfl) B.len PySem.boot_len (pa_cons (pv 1) pa_nil)))))
 (pss_cons (ps_for PassesOwn.never rfl (pi_list (pe_df W hr (pa_cons (pv 0) pa_nil))) (pg_tup rfl (pgs_cons (pg_name (i := 3) sc_owners.nd rfl (.inl rfl)) (pgs_cons (pg_name (i := 4) sc_owners.nd rfl (.inl rfl)) pgs_nil))) (pss_cons (ps_set (i := 5) sc_owners.nd rfl (.inl rfl) (pe_ix ix_list (pv 1) (pv 3) (fun _ _ => rfl)))
 (pss_one (ps_if (pt_cmpR op_eq (pv 5) pe_str (nomark _)) (pss_one (ps_asg (pe_df Bo (hr.mono (by decide)) (pa_cons (pv 1) (pa_cons (pv 4) (pa_cons pe_str pa_nil)))) (pg_sub (pv 2) (pv 3) set_list))) (pss_one (ps_if (pt_cmpR op_eq (pv 5) pe_str (nomark _)) (pss_one (ps_asg (pe_df Bo (hr.mono (by decide)) (pa_cons (pv 1) (pa_cons (pv 4) (pa_cons pe_str pa_nil)))) (pg_sub (pv 2) (pv 3) set_list))) (pss_one (ps_if (pt_cmpR op_eq (pv 5) pe_str (nomark _)) (pss_one (ps_asg (pe_ix ix_list (pv 2) (pe_df Ki (hr.mono (by decide)) (pa_cons (pv 1) (pa_cons (pv 4) pa_nil))) (fun _ _ => rfl)) (pg_sub (pv 2) (pv 3) set_list))) pss_nil))))))))
 (pss_one (ps_ret (pv 2))))), ?_⟩
  have la := labsV_len g t t.size
  refine ⟨_, rfl, a, _, rfl, .inl (.of ha), ?_⟩
  rw [la]
  refine ⟨_, rfl, RgOk.of_le (by omega) (by omega) (by omega) (by omega), fun q0 hq0 => ?_⟩
  have e0 : rgV 0 ((t.size : Nat) : Int) = (List.range t.size).map natV := by
    unfold rgV
    rw [show (((t.size : Nat) : Int) - 0).toNat = t.size by omega]
    exact List.map_congr_left fun i _ => congrArg V.int (by omega)
  rw [e0]
  have s0 := Same.new (o := .lst ((List.range t.size).map natV)) hq0
  refine ⟨v, rfl, v, t, rfl, ht.same s0, hz, fun H3 u rs s3 nu eu pr => ?_⟩
  have lrs : rs.length = t.size := by rw [Paired.length pr, pre_len]
  have eq3 := s3 _ _ (upd_same (H := H) (a := q0) (o := .lst ((List.range t.size).map natV)))
  have ea3 := s3 _ _ (s0 _ _ ha)
  have nuq : u ≠ q0 := (ne_of_none upd_same nu).symm
  have naq : a ≠ q0 := ne_of_none ha hq0
  have hX : ∀ x, x ∈ [q0] → ∃ ys, H3 x = some (.lst ys) := fun x hx => ⟨_, (List.mem_singleton.mp hx) ▸ eq3⟩
  refine ⟨u, rfl, ⟨_, .of eu⟩, for_list (xs := rs.map V.ref) (fun k σ H' => ∃ (y3 y4 y5 : Option V) (os : List Nat), σ = [some v, some (.ref a), some (.ref q0), y3, y4, y5] ∧ Stay [q0] H3 H' ∧ H' q0 = some (.lst (os.map natV)) ∧ os.length = t.size ∧ (∀ n, n < t.size → os.getD n 0 = n ∨ Owns g t n (os.getD n 0)) ∧ ∀ j n s, j < k → (pre t 0 [])[j]? = some (n, s) → Owns g t n (os.getD n 0))
    ⟨_, _, _, List.range t.size, rfl, .refl _ _, eq3, List.length_range, fun n hn => .inl ?_, fun j n s h => absurd h (Nat.not_lt_zero _)⟩ (fun k σ H4 _ h4 => ?_) (fun k x σ H4 hx h4 => ?_) (fun σ H4 h4 => ?_)⟩
  · rw [List.getD_eq_getElem?_getD, List.getElem?_range hn]
    rfl
  · obtain ⟨_, _, _, _, _, k4, _⟩ := h4
    exact .of (k4 _ _ (no1 nuq) eu)
  · obtain ⟨y3, y4, y5, os, rfl, k4, e4, l4, hA, hB⟩ := h4
    rw [List.getElem?_map] at hx
    obtain ⟨R, hR, rfl⟩ := Option.map_eq_some_iff.mp hx
    obtain ⟨⟨n, p⟩, hz2, b, eR, pb, nbu, fb⟩ := Paired.getL pr hR
    obtain ⟨_, hn, hp⟩ := pre_in t 0 [] n p (List.mem_of_getElem? hz2)
    rw [List.nil_append] at hp
    have hn' : n < t.size := by omega
    have nRq : R ≠ q0 := tup_ne eR eq3
    have nbq : b ≠ q0 := (ne_of_none upd_same fb).symm
    have pb4 := pb.stay k4 (no1 nbq) hX
    have pb4 : PathAt H4 b (pOf t 0 n) := by rw [← hp]; exact pb4
    have ea4 := k4 _ _ (no1 naq) ea3
    have ea4S : H4 a = some (.lst ((labsS g t).map V.str)) := by rw [← labsV_S]; exact ea4
    have inP : ∀ z, z ∈ pOf t 0 n → z.1 < (labsS g t).length := fun z hz3 => by
      rw [labsS_len]
      have := (pOf_in t 0 n z hz3).2
      omega
    have setO : ∀ o, Owns g t n o → (os.set n o).length = t.size ∧ (∀ m, m < t.size → (os.set n o).getD m 0 = m ∨ Owns g t m ((os.set n o).getD m 0)) ∧ ∀ j m s, j < k + 1 → (pre t 0 [])[j]? = some (m, s) → Owns g t m ((os.set n o).getD m 0) := fun o ho => by
      have get : ∀ m, m < t.size → (os.set n o).getD m 0 = if m = n then o else os.getD m 0 := fun m hm => by
        rw [List.getD_eq_getElem?_getD, List.getD_eq_getElem?_getD]
        by_cases c : m = n
        · rw [if_pos c, c, List.getElem?_set_self (by omega)]
          rfl
        · rw [if_neg c, List.getElem?_set_ne (Ne.symm c)]
      refine ⟨by rw [List.length_set, l4], fun m hm => ?_, fun j m s hj e => ?_⟩
      · rw [get m hm]
        by_cases c : m = n
        · rw [if_pos c, c]
          exact .inr ho
        · rw [if_neg c]
          exact hA m hm
      · have hm := (pre_in t 0 [] m s (List.mem_of_getElem? e)).2.1
        rw [get m (by omega)]
        by_cases c : m = n
        · rw [if_pos c, c]
          exact ho
        · rw [if_neg c]
          refine hB j m s ?_ e
          have : j ≠ k := fun z => by
            rw [z, hz2] at e
            cases e
            exact c rfl
          omega
    have setH : ∀ (H5 : Hp) (o : Nat), Same H4 H5 → H5 q0 = some (.lst (os.map natV)) → ((upd H5 q0 (.lst ((os.map natV).set n (natV o)))) q0 = some (.lst ((os.set n o).map natV)) ∧ Stay [q0] H3 (upd H5 q0 (.lst ((os.map natV).set n (natV o))))) := fun H5 o s5 e5 => by
      refine ⟨?_, (k4.then s5).put in1⟩
      rw [upd_same, List.map_set]
    have ixn : ixN (os.map natV).length (n : Int) = some n := by
      rw [List.length_map, l4]
      exact ixN_in (by omega) (by omega)
    refine ⟨R, _, rfl, .of (k4 _ _ (no1 nRq) eR), rfl, _, _, rfl, _, [], rfl, rfl, ?_⟩
    refine ⟨_, rfl, _, rfl, a, _, _, _, rfl, rfl, .of ea4, at_of (z := (n : Int)) (j := n) rfl (show (labsV g t t.size)[n]? = some (.str (labAt g t n).str) by unfold labsV; rw [List.getElem?_map, List.getElem?_range hn']; rfl), ?_⟩
    refine ⟨_, rfl, rfl, _, rfl, ?_⟩
    cases el : labAt g t n with
    | low =>
      refine ite_yes rfl ?_
      obtain ⟨o, eo, ho⟩ := owns_low hn' el
      have eo2 : boundOf (strAt (labsS g t)) true (pOf t 0 n) none = some o := by
        rw [← eo]
        exact boundOf_same fun z hz3 => labsS_at g t (by have := inP z hz3; rw [labsS_len] at this; exact this)
      refine ⟨_, rfl, _, rfl, a, b, labsS g t, pOf t 0 n, true, rfl, ea4S, pb4, inP, ?_⟩
      rw [eo2]
      obtain ⟨g1, g2, g3⟩ := setO o ho
      obtain ⟨f1, f2⟩ := setH H4 o (Same.refl _) e4
      exact ⟨_, rfl, _, rfl, q0, _, _, n, rfl, rfl, e4, ixn, _, _, _, os.set n o, rfl, f2, f1, g1, g2, g3⟩
    | high =>
      refine ite_no (by decide +kernel) ⟨_, rfl, rfl, _, rfl, ite_yes rfl ?_⟩
      obtain ⟨o, eo, ho⟩ := owns_high hn' el
      have eo2 : boundOf (strAt (labsS g t)) false (pOf t 0 n) none = some o := by
        rw [← eo]
        exact boundOf_same fun z hz3 => labsS_at g t (by have := inP z hz3; rw [labsS_len] at this; exact this)
      refine ⟨_, rfl, _, rfl, a, b, labsS g t, pOf t 0 n, false, rfl, ea4S, pb4, inP, ?_⟩
      rw [eo2]
      obtain ⟨g1, g2, g3⟩ := setO o ho
      obtain ⟨f1, f2⟩ := setH H4 o (Same.refl _) e4
      exact ⟨_, rfl, _, rfl, q0, _, _, n, rfl, rfl, e4, ixn, _, _, _, os.set n o, rfl, f2, f1, g1, g2, g3⟩
    | dead =>
      refine ite_no (by decide +kernel) ⟨_, rfl, rfl, _, rfl, ite_no (by decide +kernel) ⟨_, rfl, rfl, _, rfl, ite_yes rfl ?_⟩⟩
      obtain ⟨ki, eo, ⟨bk, mk⟩, hk⟩ := owns_dead hn' el
      have eo2 : killerOf (strAt (labsS g t)) (pOf t 0 n) = some ki := by
        rw [← eo]
        exact killerOf_same fun z hz3 => labsS_at g t (by have := inP z hz3; rw [labsS_len] at this; exact this)
      have ho : Owns g t n (os.getD ki 0) := hk _ (by
        rw [hp] at hz2
        rcases pre_anc t 0 [] k n _ hz2 (ki, bk) mk with z | ⟨j, s', lt, e⟩
        · cases z
        · exact hB j ki s' lt e)
      have hki : ki < os.length := by
        have := inP _ mk
        rw [labsS_len] at this
        omega
      refine ⟨_, rfl, _, rfl, _, rfl, a, b, labsS g t, pOf t 0 n, rfl, ea4S, labsS_ok g t, pb4, inP, fun H5 s5 => ?_⟩
      rw [eo2]
      have e5 := s5 _ _ e4
      obtain ⟨g1, g2, g3⟩ := setO _ ho
      obtain ⟨f1, f2⟩ := setH H5 (os.getD ki 0) s5 e5
      refine ⟨q0, _, _, natV (os.getD ki 0), rfl, rfl, .of e5, at_of (z := (ki : Int)) (j := ki) rfl ?_, ?_⟩
      · rw [List.getElem?_map, List.getD_eq_getElem?_getD, List.getElem?_eq_getElem hki]
        rfl
      · exact ⟨_, rfl, _, rfl, q0, _, _, n, rfl, rfl, e5, ixn, _, _, _, os.set n (os.getD ki 0), rfl, f2, f1, g1, g2, g3⟩
    | found =>
      refine ite_no (by decide +kernel) ⟨_, rfl, rfl, _, rfl, ite_no (by decide +kernel) ⟨_, rfl, rfl, _, rfl, ite_no (by decide +kernel) ?_⟩⟩
      refine ⟨_, _, _, os, rfl, k4, e4, l4, hA, fun j m s hj e => ?_⟩
      by_cases c : j < k
      · exact hB j m s c e
      · have ej : j = k := by omega
        rw [ej, hz2] at e
        cases e
        rcases hA n hn' with z | z
        · rw [z]
          exact owns_found hn' el
        · exact z
  · obtain ⟨y3, y4, y5, os, rfl, k4, e4, l4, hA, hB⟩ := h4
    refine ⟨_, rfl, q H4 q0 os (Stay.same (X := [q0]) (s0.trans s3) (fun x hx => (List.mem_singleton.mp hx) ▸ hq0) k4) hq0 e4 l4 fun n hn => ?_⟩
    have hm := pre_mem t 0 [] n (Nat.zero_le _) (by omega)
    rw [List.nil_append] at hm
    obtain ⟨j, hj, ej⟩ := List.getElem_of_mem hm
    have lj : j < t.size := by rw [pre_len] at hj; exact hj
    refine hB j n _ ?_ (by rw [List.getElem?_eq_getElem hj, ej])
    rw [List.length_map, lrs]
    exact lj
/-! ### representative -/
def spRep : Sp := fun vs H Q _ => ∃ (v : V) (t : Tr) (a : Addr) (ns : List Int), vs = [v, .ref a] ∧ TrAt H v t ∧ t.size ≤ 300 ∧ H a = some (.lst (ns.map V.int)) ∧ ns.length = t.size ∧ ∀ (H' : Hp) (q : Addr), Same H H' → H q = none → H' q = some (.lst ((repOf (valAt ns) t 0 none none).map V.int)) → Q (.ref q) H'
end
end HSP
namespace HSP
open PySem PySem.Spec PyProof.Rows L2
/-! ### patterns as things -/
def NotS (K : PySem.W.Frag) (H : Hp) (y : V) : Prop := ∃ t, TyX K H y t ∧ PySem.W.kitOne K t (.type "str") = some false
theorem NotS.same {K : PySem.W.Frag} {H H' : Hp} {y : V} (s : Same H H') (h : NotS K H y) : NotS K H' y := by
  obtain ⟨t, ty, k⟩ := h
  exact ⟨t, TyX.same s ty, k⟩
def NotLs (K : PySem.W.Frag) (H : Hp) (y : V) : Prop := ∃ t, TyX K H y t ∧ PySem.W.kitOne K t (.type "list") = some false
theorem NotLs.same {K : PySem.W.Frag} {H H' : Hp} {y : V} (s : Same H H') (h : NotLs K H y) : NotLs K H' y := by
  obtain ⟨t, ty, k⟩ := h
  exact ⟨t, TyX.same s ty, k⟩
/-- a label: a text, or something else -/
def LabelAt (K : PySem.W.Frag) (H : Hp) (x : V) : Option Str → Prop
  | some l => x = .str l ∧ PyData.strOk l = true
  | none => NotS K H x
theorem LabelAt.same {K : PySem.W.Frag} {H H' : Hp} (s : Same H H') {x : V} : ∀ {i : Option Str}, LabelAt K H x i → LabelAt K H' x i
  | some _, h => h
  | none, h => NotS.same s h
def PatAt (K : PySem.W.Frag) (H : Hp) (y : V) : Option (List (Option Str)) → Prop
  | none => NotLs K H y
  | some ls => ∃ (a : Addr) (xs : List V), y = .ref a ∧ H a = some (.lst xs) ∧ Paired (LabelAt K H) xs ls
theorem PatAt.same {K : PySem.W.Frag} {H H' : Hp} (s : Same H H') {y : V} : ∀ {k : Option (List (Option Str))}, PatAt K H y k → PatAt K H' y k
  | none, h => NotLs.same s h
  | some _, ⟨a, xs, e, ha, p⟩ => ⟨a, xs, e, s _ _ ha, Paired.mapP p fun _ _ h => LabelAt.same s h⟩
theorem labels_strs {K : PySem.W.Frag} {H : Hp} : ∀ {xs : List V} {ls : List Str}, Paired (LabelAt K H) xs (ls.map some) → xs = ls.map V.str ∧ StrsOk ls
  | [], [], _ => ⟨rfl, fun l h => (by cases h)⟩
  | _ :: _, [], h => by cases h
  | [], _ :: _, h => by cases h
  | x :: xs, l :: ls, h => by
    cases h with
    | cons a b =>
      obtain ⟨e, o⟩ := labels_strs b
      refine ⟨by rw [show x = V.str l from a.1, e]; rfl, fun m hm => ?_⟩
      rcases List.mem_cons.mp hm with z | z
      · rw [z]; exact a.2
      · exact o m z
theorem some_injS : ∀ {a b : List Str}, a.map some = b.map (some : Str → Option Str) → a = b
  | [], [], _ => rfl
  | [], _ :: _, h => by cases h
  | _ :: _, [], h => by cases h
  | x :: a, y :: b, h => by
    rw [List.map_cons, List.map_cons] at h
    obtain ⟨h1, h2⟩ := List.cons.inj h
    rw [Option.some.inj h1, some_injS h2]
/-- one text for each node -/
def Strings (o : Option (List (Option Str))) (n : Nat) (ls : List Str) : Prop := o = some (ls.map some) ∧ ls.length = n
section
variable {P : Program} {w : World} {K : PySem.W.Frag} {mg : Str → Option Value} {base : Heap}
theorem str_dec (a b : Str) : decide (V.str a = V.str b) = decide (a = b) := by
  by_cases c : a = b
  · rw [decide_eq_true c, decide_eq_true (congrArg V.str c)]
  · rw [decide_eq_false c, decide_eq_false fun z => c (V.str.inj z)]
theorem optN_non (o : Option Nat) : decide (optN o = V.non) = o.isNone := by
  cases o with
  | none => exact decide_eq_true rfl
  | some n => exact decide_eq_false fun z => by cases z
theorem sc_is_possible : FnScope n_is_possible ["pattern", "node", "above"] (defScope s_is_possible) := ⟨rfl, rfl, rfl, by decide +kernel, rfl, by decide +kernel, by decide +kernel⟩
def spPoss : Sp := fun vs H Q _ => ∃ (a r : Addr) (ls : List Str) (p : List (Nat × Bool)) (i : Nat), vs = [.ref a, natV i, .ref r] ∧ H a = some (.lst (ls.map V.str)) ∧ StrsOk ls ∧ PathAt H r p ∧ (∀ z, z ∈ p → z.1 < ls.length) ∧ i < ls.length ∧ ∀ H', Same H H' → Q (.bl (possAt (strAt ls) p i)) H'
theorem ok_poss (Ki : Df P w K mg base "killer_of" 1 ["pattern", "above"] spKiller) (Bo : Df P w K mg base "bound_of" 1 ["pattern", "above", "side"] spBound) (a : At K mg "is_possible" s_is_possible) : Df P w K mg base "is_possible" 2 ["pattern", "node", "above"] spPoss := by
  refine Df.mk' a sc_is_possible (fun vs H Q E h => ?_) (fun _ _ _ _ _ _ us hl => match us, hl with | [_, _, _], _ => rfl) (fun f cdv A outer s H vs Q E hr h => ?_)
  · obtain ⟨_, _, _, _, _, rfl, _⟩ := h
    rfl
  obtain ⟨a, r, ls, p, i, rfl, ha, hok, hp, hn, hi, q⟩ := h
  refine ⟨_, (pss_cons (ps_set (i := 3) sc_is_possible.nd rfl (.inl rfl) (pe_ix ix_list (pv 0) (pv 1) (fun _ _ => rfl)))
 (pss_cons (ps_if (pt_cmpR op_notN (pe_df Ki hr (pa_cons (pv 0) (pa_cons (pv 2) pa_nil))) pe_non (nomark _)) (pss_one (ps_ret (pe_cmpR op_eq (pv 3) pe_str (nomark _)))) pss_nil)
 (pss_cons (ps_if (pt_cmpR op_eq (pv 3) pe_str (nomark _)) (pss_one (ps_ret (pe_cmpR op_notN (pe_df Bo hr (pa_cons (pv 0) (pa_cons (pv 2) (pa_cons pe_str pa_nil)))) pe_non (nomark _)))) pss_nil)
 (pss_cons (ps_if (pt_cmpR op_eq (pv 3) pe_str (nomark _)) (pss_one (ps_ret (pe_cmpR op_notN (pe_df Bo hr (pa_cons (pv 0) (pa_cons (pv 2) (pa_cons pe_str pa_nil)))) pe_non (nomark _)))) pss_nil)
 (pss_one (ps_ret (pe_cmpR op_eq (pv 3) pe_str (nomark _)))))))), ?_⟩
  refine ⟨_, rfl, _, rfl, a, _, _, _, rfl, rfl, .of ha, at_of (j := i) rfl (strAt_get hi), ?_⟩
  refine ⟨_, rfl, _, rfl, a, r, ls, p, rfl, ha, hok, hp, hn, fun H1 s1 => ?_⟩
  have ha1 := s1 _ _ ha
  have hp1 := hp.same s1
  unfold possAt at q
  refine ⟨rfl, _, rfl, ?_⟩
  rw [optN_non]
  cases ek : killerOf (strAt ls) p with
  | some k =>
    rw [ek, if_pos (show (some k).isSome = true from rfl), ← str_dec] at q
    refine iteT ?_
    exact ⟨_, rfl, rfl, q _ s1⟩
  | none =>
    rw [ek, if_neg (show ¬ (none : Option Nat).isSome = true from Bool.false_ne_true)] at q
    refine iteF ?_
    refine ⟨_, rfl, rfl, _, rfl, ?_⟩
    by_cases c1 : strAt ls i = ("low" : Str)
    · rw [decide_eq_true (congrArg V.str c1)]
      rw [if_pos c1] at q
      refine iteT ⟨_, rfl, _, rfl, a, r, ls, p, true, rfl, ha1, hp1, hn, rfl, ?_⟩
      rw [optN_non]
      cases eb : boundOf (strAt ls) true p none with
      | none =>
        rw [eb] at q
        exact q _ s1
      | some m =>
        rw [eb] at q
        exact q _ s1
    rw [decide_eq_false (fun z => c1 (V.str.inj z))]
    rw [if_neg c1] at q
    refine iteF ⟨_, rfl, rfl, _, rfl, ?_⟩
    by_cases c2 : strAt ls i = ("high" : Str)
    · rw [decide_eq_true (congrArg V.str c2)]
      rw [if_pos c2] at q
      refine iteT ⟨_, rfl, _, rfl, a, r, ls, p, false, rfl, ha1, hp1, hn, rfl, ?_⟩
      rw [optN_non]
      cases eb : boundOf (strAt ls) false p none with
      | none =>
        rw [eb] at q
        exact q _ s1
      | some m =>
        rw [eb] at q
        exact q _ s1
    rw [decide_eq_false (fun z => c2 (V.str.inj z))]
    rw [if_neg c2] at q
    rw [← str_dec] at q
    exact iteF ⟨_, rfl, rfl, q _ s1⟩
/-! ### impossible_node -/
theorem sc_impossible_node : FnScope n_impossible_node ["tree", "pattern"] (defScope s_impossible_node) := ⟨rfl, rfl, rfl, by decide +kernel, rfl, by decide +kernel, by decide +kernel⟩
def spImp : Sp := fun vs H Q _ => ∃ (v : V) (t : Tr) (a : Addr) (ls : List Str), vs = [v, .ref a] ∧ TrAt H v t ∧ t.size ≤ 300 ∧ H a = some (.lst (ls.map V.str)) ∧ StrsOk ls ∧ ls.length = t.size ∧ ∀ H', Same H H' → Q (optN (impOf (strAt ls) t)) H'
theorem ok_imp (W : Df P w K mg base "walk" 2 ["tree"] spWalk) (Po : Df P w K mg base "is_possible" 2 ["pattern", "node", "above"] spPoss) (a : At K mg "impossible_node" s_impossible_node) : Df P w K mg base "impossible_node" 3 ["tree", "pattern"] spImp := by
  refine Df.mk' a sc_impossible_node (fun vs H Q E h => ?_) (fun _ _ _ _ _ _ us hl => match us, hl with | [_, _], _ => rfl) (fun f cdv A outer s H vs Q E hr h => ?_)
  · obtain ⟨_, _, _, _, rfl, _⟩ := h
    rfl
  obtain ⟨v, t, a, ls, rfl, ht, hz, ha, hok, hl, q⟩ := h
  refine ⟨_, (pss_cons (ps_for PassesOwn.never rfl (pi_list (pe_df W hr (pa_cons (pv 0) pa_nil))) (pg_tup rfl (pgs_cons (pg_name (i := 2) sc_impossible_node.nd rfl (.inl rfl)) (pgs_cons (pg_name (i := 3) sc_impossible_node.nd rfl (.inl rfl)) pgs_nil))) (pss_one (ps_if (pt_not (pt_val (pe_df Po hr (pa_cons (pv 1) (pa_cons (pv 2) (pa_cons (pv 3) pa_nil)))))) (pss_one (ps_ret (pv 2))) pss_nil)))
 (pss_one (ps_ret pe_non))), ?_⟩
  refine ⟨_, rfl, v, t, rfl, ht, hz, fun H1 W0 rows s1 nW eW pW => ?_⟩
  have ha1 := s1 _ _ ha
  have lr := Paired.length pW
  unfold impOf at q
  refine ⟨W0, rfl, ⟨_, .of eW⟩, for_list (xs := rows.map V.ref) (fun i σ H' => (∃ y2 y3 : Option V, σ = [some v, some (.ref a), y2, y3]) ∧ Same H1 H' ∧ (pre t 0 []).find? (fun z => !possAt (strAt ls) z.2 z.1) = ((pre t 0 []).drop i).find? (fun z => !possAt (strAt ls) z.2 z.1)) ⟨⟨none, none, rfl⟩, Same.refl _, rfl⟩ (fun i σ H' _ h' => .of (h'.2.1 _ _ eW)) (fun i x σ H2 hx h2 => ?_) (fun σ H2 h2 => ?_)⟩
  · obtain ⟨⟨y2, y3, rfl⟩, s2, ef⟩ := h2
    rw [List.getElem?_map] at hx
    obtain ⟨R, hR, rfl⟩ := Option.map_eq_some_iff.mp hx
    obtain ⟨⟨n, p⟩, hz2, hRR⟩ := Paired.getL pW hR
    obtain ⟨b, eR, hp, _⟩ := hRR
    have hm := List.mem_of_getElem? hz2
    obtain ⟨g1, g2, g3⟩ := pre_in t 0 [] n p hm
    have hi : i < (pre t 0 []).length := (List.getElem?_eq_some_iff.mp hz2).1
    have ed : (pre t 0 []).drop i = (n, p) :: (pre t 0 []).drop (i + 1) := by
      rw [List.drop_eq_getElem_cons hi, (List.getElem?_eq_some_iff.mp hz2).2]
    have hpn : ∀ z, z ∈ p → z.1 < ls.length := fun z hz3 => by
      rw [g3, List.nil_append] at hz3
      have := pOf_in0 t n z hz3
      omega
    refine ⟨R, _, rfl, .of (s2 _ _ eR), rfl, _, _, rfl, _, [], rfl, rfl, ?_⟩
    refine ⟨_, rfl, _, rfl, _, rfl, a, b, ls, p, n, rfl, s2 _ _ ha1, hok, hp.same s2, hpn, by omega, fun H3 s3 => ⟨_, rfl, ?_⟩⟩
    cases c : possAt (strAt ls) p n with
    | true =>
      refine iteF ⟨⟨_, _, rfl⟩, s2.trans s3, ?_⟩
      rw [ef, ed, List.find?_cons]
      simp [c]
    | false =>
      refine iteT ⟨_, rfl, ?_⟩
      have fin := q _ (s1.trans (s2.trans s3))
      rw [ef, ed, List.find?_cons] at fin
      simp [c] at fin
      exact fin
  · obtain ⟨_, s2, ef⟩ := h2
    have fin := q _ (s1.trans s2)
    rw [ef, List.length_map, lr, List.drop_length] at fin
    exact fin
/-! ### check_strings, check_pattern -/
theorem sc_check_strings : FnScope n_check_strings ["tree", "pattern"] (defScope s_check_strings) := ⟨rfl, rfl, rfl, by decide +kernel, rfl, by decide +kernel, by decide +kernel⟩
def spChkS (K : PySem.W.Frag) (C : Addr) : Sp := fun vs H Q E => ∃ (v : V) (t : Tr) (y : V) (o : Option (List (Option Str))), vs = [v, y] ∧ TrAt H v t ∧ t.size ≤ 300 ∧ PatAt K H y o ∧ (∀ H' ls, Same H H' → Strings o t.size ls → Q .non H') ∧ ((∀ ls, ¬ Strings o t.size ls) → EL C E H .non)
theorem ok_chkS {C fI : Addr} {fd : FuncData} (B : Bl mg) (O : OwnL K mg C fI fd) (Co : Df P w K mg base "count_nodes" 1 ["tree"] spCount) (Ct : Df P w K mg base "check_tree" 2 ["tree"] spChkT) (a : At K mg "check_strings" s_check_strings) : DfX P w K mg base "check_strings" 3 ["tree", "pattern"] (spChkS K C) := by
  refine DfX.mk' a sc_check_strings (fun vs H Q E h => ?_) (fun _ _ _ _ _ _ us hl => match us, hl with | [_, _], _ => rfl) (fun f cdv A outer s H vs Q E hr h => ?_)
  · obtain ⟨_, _, _, _, rfl, _⟩ := h
    rfl
  obtain ⟨v, t, y, o, rfl, ht, hz, hy, q1, q2⟩ := h
  refine ⟨_, (pss_cons (ps_expr (pe_df Ct hr (pa_cons (pv 0) pa_nil)))
 (pss_cons (ps_if (PW.pt (pw_or (pt_not (pt_val (pe_callB call_isi (by rfl) B.isinstance (by decide +kernel) (pa_cons (pv 1) (pa_cons (pe_bltn (v := .ty "list") (by rfl) B.list (by decide +kernel) rfl) pa_nil))))) (pw_or1 (pt_cmpR op_ne (pe_callB call_len_seq (by rfl) B.len PySem.boot_len (pa_cons (pv 1) pa_nil)) (pe_df Co (hr.mono (by decide)) (pa_cons (pv 0) pa_nil)) (nomark _))))) (pss_one (ps_raise rfl (takes_of rfl rfl rfl rfl) (pmk_oex O.T O.i O.t (ok_ilInit O.v O.vV O.F) (hr.mono (by decide)) O.b .nil pass0 rfl O.g (pa_cons pe_non pa_nil)))) pss_nil)
 (pss_one (ps_for (passes_of rfl) rfl (pi_list (pv 1)) (pg_name (i := 2) sc_check_strings.nd rfl (.inl rfl)) (pss_one (ps_if (pt_not (pt_val (pe_callB call_isi (by rfl) B.isinstance (by decide +kernel) (pa_cons (pv 2) (pa_cons (pe_bltn (v := .ty "str") (by rfl) B.str (by decide +kernel) rfl) pa_nil))))) (pss_one (ps_raise rfl (takes_of rfl rfl rfl rfl) (pmk_oex O.T O.i O.t (ok_ilInit O.v O.vV O.F) (hr.mono (by decide)) O.b .nil pass0 rfl O.g (pa_cons pe_non pa_nil)))) pss_nil)))))), ?_⟩
  refine ⟨_, rfl, v, t, rfl, ht, by omega, fun H1 s1 => ?_⟩
  have raise : ∀ H', Same H H' → (∀ ls, ¬ Strings o t.size ls) → EL C E H' .non := fun H' s' h => (q2 h).same s'
  cases o with
  | none =>
    obtain ⟨ty, t1, k1⟩ := hy.same s1
    refine ⟨_, rfl, _, _, _, _, false, rfl, .ty "list", t1, k1, false, rfl, iteT ?_⟩
    exact mk_il O.T O.no (raise H1 s1 fun ls h => by cases h.1)
  | some os =>
  obtain ⟨p, xs, rfl, ep, px⟩ := hy
  have lx := Paired.length px
  have ep1 := s1 _ _ ep
  refine ⟨_, rfl, _, _, _, _, true, rfl, .ty "list", .base (.lst ep1), rfl, true, rfl, iteF ?_⟩
  refine ⟨_, rfl, p, _, rfl, .inl (.of ep1), _, rfl, v, t, rfl, ht.same s1, by omega, fun H2 s12 => ⟨rfl, _, rfl, ?_⟩⟩
  have s1 := s1.trans s12
  have ep1 := s12 _ _ ep1
  by_cases c : os.length = t.size
  · rw [decide_eq_true (show V.int ((xs.length : Nat) : Int) = V.int ((t.size : Nat) : Int) by rw [lx, c])]
    refine iteF ?_
    refine ⟨_, rfl, p, rfl, ⟨_, .of ep1⟩, for_list (xs := xs) (fun i σ H' => (∃ y2 : Option V, σ = [some v, some (.ref p), y2]) ∧ Same H H' ∧ ∃ ls : List Str, os.take i = ls.map some) ⟨⟨none, rfl⟩, s1, [], rfl⟩ (fun i σ H' _ h' => .of (h'.2.1 _ _ ep)) (fun i x σ H2 hx h2 => ?_) (fun σ H2 h2 => ?_)⟩
    · obtain ⟨⟨y2, rfl⟩, s2, ls, el⟩ := h2
      obtain ⟨l, hl, hlx⟩ := Paired.getL px hx
      cases l with
      | none =>
        obtain ⟨ty, t1, k1⟩ := NotS.same s2 hlx
        refine ⟨_, rfl, _, _, _, _, false, rfl, .ty "str", t1, k1, false, rfl, iteT ?_⟩
        refine mk_il O.T O.no (raise H2 s2 fun ls h => ?_)
        have h := Option.some.inj h.1
        rw [h, List.getElem?_map] at hl
        obtain ⟨_, _, z⟩ := Option.map_eq_some_iff.mp hl
        cases z
      | some l =>
        obtain ⟨rfl, _⟩ := (show x = V.str l ∧ PyData.strOk l = true from hlx)
        refine ⟨_, rfl, _, _, _, _, true, rfl, .ty "str", .base (.str l), kit_ty (by decide +kernel), true, rfl, iteF ?_⟩
        exact ⟨⟨_, rfl⟩, s2, ls ++ [l], by rw [List.take_add_one, hl, el, List.map_append]; rfl⟩
    · obtain ⟨_, s2, ls, el⟩ := h2
      rw [lx, List.take_length] at el
      exact q1 H2 ls s2 ⟨by rw [el], by rw [← c, el, List.length_map]⟩
  · rw [decide_eq_false (show ¬ V.int ((xs.length : Nat) : Int) = V.int ((t.size : Nat) : Int) from fun z => c (by have := V.int.inj z; omega))]
    refine iteT ?_
    exact mk_il O.T O.no (raise H2 s1 fun ls h => c (by rw [← h.2, Option.some.inj h.1, List.length_map]))
theorem sc_check_pattern : FnScope n_check_pattern ["tree", "pattern"] (defScope s_check_pattern) := ⟨rfl, rfl, rfl, by decide +kernel, rfl, by decide +kernel, by decide +kernel⟩
def spChkP (K : PySem.W.Frag) (C : Addr) : Sp := fun vs H Q E => ∃ (v : V) (t : Tr) (y : V) (o : Option (List (Option Str))), vs = [v, y] ∧ TrAt H v t ∧ t.size ≤ 300 ∧ PatAt K H y o ∧ (∀ H' ls, Same H H' → Strings o t.size ls → impOf (strAt ls) t = none → Q .non H') ∧ ((∀ ls, ¬ Strings o t.size ls) → EL C E H .non) ∧
  ∀ ls i, Strings o t.size ls → impOf (strAt ls) t = some i → EL C E H (natV i)
theorem ok_chkP {C fI : Addr} {fd : FuncData} (O : OwnL K mg C fI fd) (Cs : DfX P w K mg base "check_strings" 3 ["tree", "pattern"] (spChkS K C)) (Im : Df P w K mg base "impossible_node" 3 ["tree", "pattern"] spImp) (a : At K mg "check_pattern" s_check_pattern) : DfX P w K mg base "check_pattern" 4 ["tree", "pattern"] (spChkP K C) := by
  refine DfX.mk' a sc_check_pattern (fun vs H Q E h => ?_) (fun _ _ _ _ _ _ us hl => match us, hl with | [_, _], _ => rfl) (fun f cdv A outer s H vs Q E hr h => ?_)
  · obtain ⟨_, _, _, _, rfl, _⟩ := h
    rfl
  obtain ⟨v, t, y, o, rfl, ht, hz, hy, q1, q2, q3⟩ := h
  refine ⟨_, (pss_cons (ps_expr (pe_dfX Cs hr (takes_of rfl rfl rfl rfl) (pa_cons (pv 0) (pa_cons (pv 1) pa_nil))))
 (pss_cons (ps_set (i := 2) sc_check_pattern.nd rfl (.inl rfl) (pe_df Im hr (pa_cons (pv 0) (pa_cons (pv 1) pa_nil))))
 (pss_one (ps_if (pt_cmpR op_notN (pv 2) pe_non (nomark _)) (pss_one (ps_raise rfl (takes_of rfl rfl rfl rfl) (pmk_oex O.T O.i O.t (ok_ilInit O.v O.vV O.F) (hr.mono (by decide)) O.b .nil pass0 rfl O.g (pa_cons (pv 2) pa_nil)))) pss_nil)))), ?_⟩
  refine ⟨_, rfl, _, rfl, v, t, y, o, rfl, ht, hz, hy, fun H1 ls s1 hs => ?_, fun h => ?_⟩
  · obtain ⟨e, l⟩ := hs
    subst e
    obtain ⟨p, xs, rfl, ep, px⟩ := hy
    obtain ⟨ex, ok⟩ := labels_strs px
    rw [ex] at ep
    refine ⟨_, rfl, _, rfl, v, t, p, ls, rfl, ht.same s1, hz, s1 _ _ ep, ok, l, fun H2 s2 => ?_⟩
    refine ⟨_, rfl, rfl, _, rfl, ?_⟩
    rw [optN_non]
    cases ei : impOf (strAt ls) t with
    | none => exact iteF (q1 _ ls (s1.trans s2) ⟨rfl, l⟩ ei)
    | some i =>
      refine iteT ⟨_, rfl, ?_⟩
      exact mk_il O.T O.no ((q3 ls i ⟨rfl, l⟩ ei).same (s1.trans s2))
  · exact q2 h
end
end HSP
namespace HSP
open PySem PySem.Spec PyProof.Rows L2
section
variable {P : Program} {w : World} {K : PySem.W.Frag} {mg : Str → Option Value} {base : Heap}
/-! ### check_pattern where nothing is amiss -/
theorem strs_labels {K : PySem.W.Frag} {H : Hp} : ∀ {ls : List Str}, StrsOk ls → Paired (LabelAt K H) (ls.map V.str) (ls.map some)
  | [], _ => .nil
  | l :: ls, h => .cons ⟨rfl, h l List.mem_cons_self⟩ (strs_labels fun x hx => h x (List.mem_cons_of_mem _ hx))
def spChkSG : Sp := fun vs H Q _ => ∃ (v : V) (t : Tr) (p : Addr) (ls : List Str), vs = [v, .ref p] ∧ TrAt H v t ∧ t.size ≤ 300 ∧ H p = some (.lst (ls.map V.str)) ∧ ls.length = t.size ∧ ∀ H', Same H H' → Q .non H'
theorem ok_chkSG (B : Bl mg) (Co : Df P w K mg base "count_nodes" 1 ["tree"] spCount) (Ct : Df P w K mg base "check_tree" 2 ["tree"] spChkT) (a : At K mg "check_strings" s_check_strings) : Df P w K mg base "check_strings" 3 ["tree", "pattern"] spChkSG := by
  refine Df.mk' a sc_check_strings (fun vs H Q E h => ?_) (fun _ _ _ _ _ _ us hl => match us, hl with | [_, _], _ => rfl) (fun f cdv A outer s H vs Q E hr h => ?_)
  · obtain ⟨_, _, _, _, rfl, _⟩ := h
    rfl
  obtain ⟨v, t, p, ls, rfl, ht, hz, ep, ll, q⟩ := h
  refine ⟨_, (pss_cons (ps_expr (pe_df Ct hr (pa_cons (pv 0) pa_nil)))
 (pss_cons (ps_if (PW.pt (pw_or (pt_not (pt_val (pe_callB call_isi (by rfl) B.isinstance (by decide +kernel) (pa_cons (pv 1) (pa_cons (pe_bltn (v := .ty "list") (by rfl) B.list (by decide +kernel) rfl) pa_nil))))) (pw_or1 (pt_cmpR op_ne (pe_callB call_len_seq (by rfl) B.len PySem.boot_len (pa_cons (pv 1) pa_nil)) (pe_df Co (hr.mono (by decide)) (pa_cons (pv 0) pa_nil)) (nomark _))))) (pss_one ps_never) pss_nil)
 (pss_one (ps_for PassesOwn.never rfl (pi_list (pv 1)) (pg_name (i := 2) sc_check_strings.nd rfl (.inl rfl)) (pss_one (ps_if (pt_not (pt_val (pe_callB call_isi (by rfl) B.isinstance (by decide +kernel) (pa_cons (pv 2) (pa_cons (pe_bltn (v := .ty "str") (by rfl) B.str (by decide +kernel) rfl) pa_nil))))) (pss_one ps_never) pss_nil)))))), ?_⟩
  refine ⟨_, rfl, v, t, rfl, ht, by omega, fun H1 s1 => ?_⟩
  have ep1 := s1 _ _ ep
  refine ⟨_, rfl, _, _, _, _, true, rfl, .ty "list", .base (.lst ep1), rfl, true, rfl, iteF ?_⟩
  refine ⟨_, rfl, p, _, rfl, .inl (.of ep1), _, rfl, v, t, rfl, ht.same s1, by omega, fun H2 s12 => ⟨rfl, _, rfl, ?_⟩⟩
  have s1 := s1.trans s12
  rw [decide_eq_true (show V.int (((ls.map V.str).length : Nat) : Int) = V.int ((t.size : Nat) : Int) by rw [List.length_map, ll])]
  refine iteF ?_
  refine ⟨_, rfl, p, rfl, ⟨_, .of (s1 _ _ ep)⟩, for_list (xs := ls.map V.str) (fun i σ H' => (∃ y2 : Option V, σ = [some v, some (.ref p), y2]) ∧ Same H H') ⟨⟨none, rfl⟩, s1⟩ (fun i σ H' _ h' => .of (h'.2 _ _ ep)) (fun i x σ H2 hx h2 => ?_) (fun σ H2 h2 => ?_)⟩
  · obtain ⟨⟨y2, rfl⟩, s2⟩ := h2
    rw [List.getElem?_map] at hx
    obtain ⟨l, _, rfl⟩ := Option.map_eq_some_iff.mp hx
    refine ⟨_, rfl, _, _, _, _, true, rfl, .ty "str", .base (.str l), kit_ty (by decide +kernel), true, rfl, iteF ?_⟩
    exact ⟨⟨_, rfl⟩, s2⟩
  · exact q H2 h2.2
def spChkG : Sp := fun vs H Q _ => ∃ (v : V) (t : Tr) (p : Addr) (ls : List Str), vs = [v, .ref p] ∧ TrAt H v t ∧ t.size ≤ 300 ∧ H p = some (.lst (ls.map V.str)) ∧ StrsOk ls ∧ ls.length = t.size ∧ impOf (strAt ls) t = none ∧ ∀ H', Same H H' → Q .non H'
theorem okB_chkG (Cs : Df P w K mg base "check_strings" 3 ["tree", "pattern"] spChkSG) (Im : Df P w K mg base "impossible_node" 3 ["tree", "pattern"] spImp) (a : At K mg "check_pattern" s_check_pattern) : DfB P w K mg base "check_pattern" 4 ["tree", "pattern"] ["pattern", "tree"] spChkG := by
  refine DfB.mk' a sc_check_pattern (fun vs H Q E h => ?_) (fun _ _ _ _ _ _ us hl => match us, hl with | [_, _], _ => rfl) (fun _ _ _ _ _ _ us hl => match us, hl with | [_, _], _ => rfl) (fun f cdv A outer s H vs Q E hr h => ?_)
  · obtain ⟨_, _, _, _, rfl, _⟩ := h
    rfl
  obtain ⟨v, t, p, ls, rfl, ht, hz, ep, ok, ll, good, q⟩ := h
  refine ⟨_, (pss_cons (ps_expr (pe_df Cs hr (pa_cons (pv 0) (pa_cons (pv 1) pa_nil))))
 (pss_cons (ps_set (i := 2) sc_check_pattern.nd rfl (.inl rfl) (pe_df Im hr (pa_cons (pv 0) (pa_cons (pv 1) pa_nil))))
 (pss_one (ps_if (pt_cmpR op_notN (pv 2) pe_non (nomark _)) (pss_one ps_never) pss_nil)))), ?_⟩
  refine ⟨_, rfl, _, rfl, v, t, p, ls, rfl, ht, hz, ep, ll, fun H1 s1 => ?_⟩
  refine ⟨_, rfl, _, rfl, v, t, p, ls, rfl, ht.same s1, hz, s1 _ _ ep, ok, ll, fun H2 s2 => ?_⟩
  refine ⟨_, rfl, rfl, _, rfl, ?_⟩
  rw [optN_non, good]
  exact iteF (q _ (s1.trans s2))
end
end HSP
namespace HSP
open PySem PySem.Spec PyProof.Rows L2
theorem str_lb (l m : Lb) : decide (V.str l.str = V.str m.str) = decide (l = m) := by
  cases l <;> cases m <;> decide +kernel
def WB (m : Nat) (ws : List Nat) : Prop := ws.length ≤ m + 1 ∧ ∀ w, w ∈ ws → w ≤ 1000 ^ m
theorem WB.up {m : Nat} {ws vs : List Nat} (h : WB m ws) (hm : m ≤ 300) (l : vs.length = ws.length + 1) (b : ∀ w, w ∈ vs → w ≤ ws.length * 1000 ^ m) : WB (m + 1) vs := by
  refine ⟨by rw [l]; have := h.1; omega, fun w hw => Nat.le_trans (b w hw) ?_⟩
  rw [Nat.pow_succ, Nat.mul_comm]
  exact Nat.mul_le_mul_left _ (by have := h.1; omega)
theorem WB.mono {m n : Nat} {ws : List Nat} (h : WB m ws) (l : m ≤ n) : WB n ws := ⟨by have := h.1; omega, fun w hw => Nat.le_trans (h.2 w hw) (Nat.pow_le_pow_right (by decide) l)⟩
theorem pow1000 {m : Nat} (h : m ≤ 300) : 1000 ^ m < 2 ^ 5000 := by
  refine Nat.lt_of_le_of_lt (Nat.pow_le_pow_left (show 1000 ≤ 2 ^ 10 by decide) m) ?_
  rw [← Nat.pow_mul]
  exact Nat.pow_lt_pow_right (by decide) (by omega)
theorem WB.small {m : Nat} {ws : List Nat} (h : WB m ws) (hm : m ≤ 300) : ws.length ≤ 900 ∧ Small ws := ⟨by have := h.1; omega, fun w hw => Nat.lt_of_le_of_lt (h.2 w hw) (pow1000 hm)⟩
theorem WB.F {m : Nat} {ws : List Nat} (h : WB m ws) (hm : m ≤ 300) : WB (m + 1) (withF ws) := h.up hm (withF_len ws) (withF_le h.2)
theorem WB.L {m : Nat} {ws : List Nat} (h : WB m ws) (hm : m ≤ 300) : WB (m + 1) (withL ws) := h.up hm (withL_len ws) (withL_le h.2)
theorem WB.H {m : Nat} {ws : List Nat} (h : WB m ws) (hm : m ≤ 300) : WB (m + 1) (withH ws) := h.up hm (withH_len ws) (withH_le h.2)
theorem WB.step {m : Nat} {ws : List Nat} (h : WB m ws) (hm : m ≤ 300) (c : Kd × Nat) : WB (m + 1) (stpW ws c) := by
  obtain ⟨k, x⟩ := c
  cases k with
  | F => exact h.F hm
  | L => exact h.L hm
  | H => exact h.H hm
theorem WB.fold : ∀ (L : List (Kd × Nat)) {m : Nat} {ws : List Nat}, WB m ws → m + L.length ≤ 300 → WB (m + L.length) (L.foldl stpW ws)
  | [], _, _, h, _ => h
  | c :: r, m, ws, h, hm => by
    rw [List.length_cons] at hm
    rw [List.foldl_cons, List.length_cons, show m + (r.length + 1) = m + 1 + r.length by omega]
    exact WB.fold r (h.step (by omega) c) (by omega)
theorem wb_one : WB 0 [1] := ⟨by show 1 ≤ 1; decide, fun w hw => by rw [List.mem_singleton.mp hw]; decide⟩
theorem out_WB (g : Nat → Int) {t : Tr} (hz : t.size ≤ 64) {k : Nat} (hk : k ≤ t.size) : WB t.size ((List.range k).foldl (wOwner g t) [1]) := by
  have h1 := steps_part (lab := labAt g t) hk
  have h2 := steps_few (lab := labAt g t) (t := t) fun n hn => labs_poss g t hn
  rw [outer_is g t hk]
  exact (wb_one.fold _ (by omega)).mono (by omega)
theorem in_WB {g : Nat → Int} {t : Tr} (hz : t.size ≤ 64) {o : Nat} (ho : o < t.size) (f : labAt g t o = .found) {j : Nat} (hj : j ≤ t.size) : WB t.size ((List.range j).foldl (wNode g t o) (withF ((List.range o).foldl (wOwner g t) [1]))) := by
  have h1 := inside_part (lab := labAt g t) hj ho f
  have h2 := steps_few (lab := labAt g t) (t := t) fun n hn => labs_poss g t hn
  rw [inner_is f ho hj, outer_is g t (by omega)]
  have h3 := (wb_one.fold (stepsK (labAt g t) t o) (by omega)).F (by omega)
  exact (h3.fold _ (by omega)).mono (by omega)
section
variable {X : Cx}
theorem ip_mulO : PIp X .Mult (fun x y H Q => ∃ i j, x = .int i ∧ y = .int j ∧ CMulW i j ∧ Q (.int (i * j)) H) := by
  intro pins s σ H x y v u Q I r1 r2 h
  obtain ⟨i, j, e1, e2, hc, q⟩ := h
  subst e1; subst e2
  obtain ⟨t, rfl⟩ := r1
  obtain ⟨t', rfl⟩ := r2
  exact imul_int ⟨.int _, H, I.tok _, ⟨_, rfl⟩, q⟩ hc.ok
end
section
variable {P : Program} {w : World} {K : PySem.W.Frag} {mg : Str → Option Value} {base : Heap}
def spOrdersN : Sp := fun vs H Q _ => ∃ (v : V) (t : Tr) (a : Addr) (g : Nat → Int), vs = [v, .ref a] ∧ TrAt H v t ∧ t.size ≤ 64 ∧ H a = some (.lst (labsV g t t.size)) ∧ ∀ H', Same H H' → Q (natV (ordersN g t)) H'
end
end HSP
namespace HSP
open PySem PySem.Spec PyProof.Rows L2
/-! ## orders with given labels, whatever texts they are -/
theorem bound_same {lab lab' : Nat → Str} {c : Bool} : ∀ {p : List (Nat × Bool)} {z : Option Nat}, (∀ y, y ∈ p → lab y.1 = lab' y.1) → boundOf lab c p z = boundOf lab' c p z
  | [], _, _ => rfl
  | (n, b) :: r, z, h => by
    have e := h _ List.mem_cons_self
    show boundOf lab c r (if b = c ∧ lab n = ("found" : Str) then some n else z) = boundOf lab' c r (if b = c ∧ lab' n = ("found" : Str) then some n else z)
    rw [show lab n = lab' n from e]
    exact bound_same fun x hx => h x (List.mem_cons_of_mem _ hx)
theorem killer_same {lab lab' : Nat → Str} : ∀ {p : List (Nat × Bool)}, (∀ y, y ∈ p → lab y.1 = lab' y.1) → killerOf lab p = killerOf lab' p
  | [], _ => rfl
  | (n, b) :: r, h => by
    have e := h _ List.mem_cons_self
    show (if kills (lab n) b = true then some n else killerOf lab r) = if kills (lab' n) b = true then some n else killerOf lab' r
    rw [show lab n = lab' n from e, killer_same fun x hx => h x (List.mem_cons_of_mem _ hx)]
theorem poss_same {lab lab' : Nat → Str} {p : List (Nat × Bool)} {i : Nat} (h : ∀ y, y ∈ p → lab y.1 = lab' y.1) (hi : lab i = lab' i) : possAt lab p i = possAt lab' p i := by
  unfold possAt
  rw [killer_same h, bound_same h, bound_same h, hi]
theorem imp_none {lab : Nat → Str} {t : Tr} : impOf lab t = none ↔ ∀ n, n < t.size → possAt lab (pOf t 0 n) n = true := by
  unfold impOf
  rw [Option.map_eq_none_iff, List.find?_eq_none]
  constructor
  · intro h n hn
    have := h _ (pre_mem t 0 [] n (Nat.zero_le _) (by omega))
    cases c : possAt lab (pOf t 0 n) n with
    | true => rfl
    | false => exact absurd (show (!possAt lab ([] ++ pOf t 0 n) n) = true by rw [List.nil_append, c]; rfl) this
  · rintro h ⟨n, s⟩ hz
    obtain ⟨_, h2, h3⟩ := pre_in t 0 [] n s hz
    rw [List.nil_append] at h3
    show ¬ (!possAt lab s n) = true
    rw [h3, h n (by omega)]
    decide
def lbS (s : Str) : Lb := if s = ("low" : Str) then .low else if s = ("high" : Str) then .high else if s = ("found" : Str) then .found else .dead
theorem lbS_str (l : Lb) : lbS l.str = l := by cases l <;> decide +kernel
theorem poss_word {lab : Nat → Str} {p : List (Nat × Bool)} {i : Nat} (h : possAt lab p i = true) : (lbS (lab i)).str = lab i := by
  unfold possAt at h
  by_cases c : (killerOf lab p).isSome = true
  · rw [if_pos c] at h
    rw [of_decide_eq_true h]
    decide +kernel
  · rw [if_neg c] at h
    by_cases c1 : lab i = ("low" : Str)
    · rw [c1]; decide +kernel
    rw [if_neg c1] at h
    by_cases c2 : lab i = ("high" : Str)
    · rw [c2]; decide +kernel
    rw [if_neg c2] at h
    rw [of_decide_eq_true h]
    decide +kernel
/-- possible labels are had by some list -/
def keepV (lab : Nat → Lb) (n : Nat) (i : Nat) : Int := match lab i with
  | .low => (i : Int) - (n : Int)
  | .high => (i : Int) + (n : Int)
  | _ => (i : Int)
theorem keepV_keeps (lab : Nat → Lb) (t : Tr) : Keeps lab t (keepV lab t.size) := by
  have fd : ∀ i, lab i = .found → keepV lab t.size i = (i : Int) := fun i e => by unfold keepV; rw [e]
  refine ⟨fun a b ab _ fa fb => by rw [fd a fa, fd b fb]; omega, fun n o hn l e => ?_, fun n o hn l e => ?_⟩
  · obtain ⟨h1, h2⟩ := bound_lt hn e
    rw [fd o h2]
    unfold keepV
    rw [l]
    show (n : Int) - (t.size : Int) < (o : Int)
    omega
  · obtain ⟨h1, h2⟩ := bound_lt hn e
    rw [fd o h2]
    unfold keepV
    rw [l]
    show (o : Int) < (n : Int) + (t.size : Int)
    omega
theorem poss_there {lab : Nat → Lb} {t : Tr} (po : PossL lab t) : ∃ g : Nat → Int, ∀ n, n < t.size → labAt g t n = lab n :=
  ⟨keepV lab t.size, fun n hn => keeps_labs po (keepV_keeps lab t) _ n (Nat.lt_succ_self _) hn⟩
def labSS (g : Nat → Int) (t : Tr) : List Str := (List.range t.size).map fun i => (labAt g t i).str
theorem labSS_V (g : Nat → Int) (t : Tr) : labsV g t t.size = (labSS g t).map V.str := by
  unfold labsV labSS
  rw [List.map_map]
  rfl
theorem labSS_at (g : Nat → Int) (t : Tr) {i : Nat} (hi : i < t.size) : strAt (labSS g t) i = (labAt g t i).str := by
  unfold strAt labSS
  rw [List.getD_eq_getElem?_getD, List.getElem?_map, List.getElem?_range hi]
  rfl
theorem labSS_iff {g g' : Nat → Int} {t : Tr} : labSS g t = labSS g' t ↔ ∀ i, i < t.size → labAt g t i = labAt g' t i := by
  unfold labSS
  rw [List.map_inj_left]
  constructor
  · intro h i hi
    have := h i (List.mem_range.mpr hi)
    rw [← lbS_str (labAt g t i), this, lbS_str]
  · intro h i hi
    rw [h i (List.mem_range.mp hi)]
theorem labSS_len (g : Nat → Int) (t : Tr) : (labSS g t).length = t.size := by
  unfold labSS
  rw [List.length_map, List.length_range]
theorem labSS_all {g : Nat → Int} {t : Tr} {C : Str → Prop} (h : ∀ l : Lb, C l.str) : ∀ s, s ∈ labSS g t → C s := fun s hs => by
  obtain ⟨i, _, rfl⟩ := List.mem_map.mp hs
  exact h _
/-- how many orders have these labels -/
def cLab (t : Tr) (ls : List Str) : Nat := (ordersOf t.size t.size).countP fun o => decide (labSS (valN o) t = ls)
theorem cLab_g (g : Nat → Int) (t : Tr) : cLab t (labSS g t) = ordersN g t := by
  rw [orders_labs]
  refine List.countP_congr fun o _ => ?_
  rw [decide_eq_true_iff, labSS_iff, List.all_eq_true]
  exact ⟨fun h i hi => decide_eq_true (h i (List.mem_range.mp hi)), fun h i hi => of_decide_eq_true (h i (List.mem_range.mpr hi))⟩
theorem labSS_poss (g : Nat → Int) (t : Tr) : impOf (strAt (labSS g t)) t = none := imp_none.mpr fun n hn => by
  rw [← labs_poss g t hn]
  exact poss_same (fun y hy => labSS_at g t (by have h3 : y.1 < 0 + t.size := (pOf_in t 0 n _ hy).2; omega)) (labSS_at g t hn)
theorem cLab_imp {t : Tr} {ls : List Str} (h : impOf (strAt ls) t ≠ none) : cLab t ls = 0 := List.countP_eq_zero.mpr fun o _ e => h (by
  rw [← of_decide_eq_true e]
  exact labSS_poss _ t)
theorem words_there {t : Tr} {ls : List Str} (l : ls.length = t.size) (h : impOf (strAt ls) t = none) : ∃ g : Nat → Int, ls = labSS g t := by
  have h := imp_none.mp h
  have es : ∀ i, i < t.size → lbStr (fun i => lbS (strAt ls i)) i = strAt ls i := fun i hi => poss_word (h i hi)
  have po : PossL (fun i => lbS (strAt ls i)) t := fun n hn => by
    rw [← h n hn]
    exact poss_same (fun y hy => es _ (by have h3 : y.1 < 0 + t.size := (pOf_in t 0 n _ hy).2; omega)) (es n hn)
  obtain ⟨g, eg⟩ := poss_there po
  refine ⟨g, List.ext_getElem (by unfold labSS; rw [List.length_map, List.length_range, l]) fun i h1 h2 => ?_⟩
  have e1 := es i (by omega)
  have e2 := eg i (by omega)
  have e3 : strAt ls i = ls[i] := by
    unfold strAt
    rw [List.getD_eq_getElem?_getD, List.getElem?_eq_getElem h1]
    rfl
  have e4 : (labSS g t)[i] = (labAt g t i).str := by
    simp only [labSS, List.getElem_map, List.getElem_range]
  rw [e4, e2, ← e3]
  exact e1.symm
section
variable {P : Program} {w : World} {K : PySem.W.Frag} {mg : Str → Option Value} {base : Heap}
def spCntL : Sp := fun vs H Q _ => ∃ (v : V) (t : Tr) (p : Addr) (ls : List Str), vs = [v, .ref p] ∧ TrAt H v t ∧ t.size ≤ 64 ∧ H p = some (.lst (ls.map V.str)) ∧ StrsOk ls ∧ ls.length = t.size ∧ ∀ H', Same H H' → Q (natV (cLab t ls)) H'
end
end HSP
namespace HSP
open PySem PySem.Spec PyProof.Rows L2
/-! ## the blocks of a list written by its lengths -/
theorem flat_ge : ∀ (ls : List Nat) (k : Nat) (x : Int), x ∈ flatOf ls k → (k : Int) ≤ x
  | [], _, _, h => nomatch h
  | l :: r, k, x, h => by
    rcases List.mem_append.mp (show x ∈ List.replicate l (k : Int) ++ flatOf r (k + 1) from h) with h | h
    · rw [List.eq_of_mem_replicate h]
      exact Int.le_refl _
    · have := flat_ge r (k + 1) x h
      omega
theorem flat_up : ∀ (ls : List Nat) (k : Nat), (flatOf ls k).Pairwise (· ≤ ·)
  | [], _ => List.Pairwise.nil
  | l :: r, k => by
    refine List.pairwise_append.mpr ⟨List.pairwise_replicate.mpr (.inr (Int.le_refl _)), flat_up r (k + 1), fun x hx y hy => ?_⟩
    rw [List.eq_of_mem_replicate hx]
    have := flat_ge r (k + 1) y hy
    omega
theorem flat_count : ∀ (ls : List Nat) (k : Nat), (List.range ls.length).map (fun i => (flatOf ls k).countP fun x => decide (x = ((k + i : Nat) : Int))) = ls
  | [], _ => rfl
  | l :: r, k => by
    have ih := flat_count r (k + 1)
    rw [List.length_cons, List.range_succ_eq_map, List.map_cons, List.map_map]
    congr 1
    · show (List.replicate l (k : Int) ++ flatOf r (k + 1)).countP _ = l
      rw [List.countP_append, List.countP_replicate, if_pos (decide_eq_true (by omega))]
      rw [List.countP_eq_zero.mpr fun x hx => by have := flat_ge r (k + 1) x hx; rw [decide_eq_true_iff]; omega]
      rfl
    · refine Eq.trans (List.map_congr_left fun i _ => ?_) ih
      show (List.replicate l (k : Int) ++ flatOf r (k + 1)).countP _ = _
      rw [List.countP_append, List.countP_replicate, if_neg (by rw [decide_eq_true_iff]; omega), Nat.zero_add]
      refine List.countP_congr fun x _ => ?_
      rw [decide_eq_true_iff, decide_eq_true_iff]
      omega
theorem flat_mem : ∀ {ls : List Nat} {k : Nat}, (∀ l, l ∈ ls → 0 < l) → ∀ x : Int, x ∈ flatOf ls k ↔ ∃ i, i < ls.length ∧ x = ((k + i : Nat) : Int)
  | [], _, _, x => ⟨fun h => (nomatch h), fun ⟨_, h, _⟩ => (nomatch h)⟩
  | l :: r, k, pos, x => by
    have ih := flat_mem (ls := r) (k := k + 1) (fun y hy => pos y (List.mem_cons_of_mem _ hy)) x
    have p := pos l List.mem_cons_self
    show x ∈ List.replicate l (k : Int) ++ flatOf r (k + 1) ↔ _
    rw [List.mem_append, ih, List.mem_replicate, List.length_cons]
    constructor
    · rintro (⟨_, rfl⟩ | ⟨i, hi, rfl⟩)
      · exact ⟨0, by omega, by omega⟩
      · exact ⟨i + 1, by omega, by omega⟩
    · rintro ⟨i, hi, rfl⟩
      cases i with
      | zero => exact .inl ⟨by omega, rfl⟩
      | succ i => exact .inr ⟨i, by omega, by omega⟩
theorem rise_uniqI : ∀ {a b : List Int}, a.Pairwise (· < ·) → b.Pairwise (· < ·) → (∀ x, x ∈ a ↔ x ∈ b) → a = b
  | [], [], _, _, _ => rfl
  | [], y :: b, _, _, h => nomatch (h y).mpr List.mem_cons_self
  | x :: a, [], _, _, h => nomatch (h x).mp List.mem_cons_self
  | x :: a, y :: b, ua, ub, h => by
    obtain ⟨ha, ua'⟩ := List.pairwise_cons.mp ua
    obtain ⟨hb, ub'⟩ := List.pairwise_cons.mp ub
    have e : x = y := by
      rcases List.mem_cons.mp ((h x).mp List.mem_cons_self) with e | m
      · exact e
      · rcases List.mem_cons.mp ((h y).mpr List.mem_cons_self) with e | m'
        · exact e.symm
        · have h1 := hb x m
          have h2 := ha y m'
          omega
    subst e
    refine congrArg (x :: ·) (rise_uniqI ua' ub' fun z => ⟨fun m => ?_, fun m => ?_⟩)
    · rcases List.mem_cons.mp ((h z).mp (List.mem_cons_of_mem _ m)) with e | m'
      · have := ha z m
        omega
      · exact m'
    · rcases List.mem_cons.mp ((h z).mpr (List.mem_cons_of_mem _ m)) with e | m'
      · have := hb z m
        omega
      · exact m'
theorem flat_rep {ls : List Nat} {t : Tr} (sm : ls.sum = t.size) : repL (valAt (flatOf ls 0)) t = flatOf ls 0 := rep_sorted (by rw [flatOf_len, sm]) (flat_up ls 0)
theorem flat_founds {ls : List Nat} {t : Tr} (sm : ls.sum = t.size) (pos : ∀ l, l ∈ ls → 0 < l) : (founds (valAt (flatOf ls 0)) t).map (valAt (flatOf ls 0)) = (List.range ls.length).map Int.ofNat := by
  refine rise_uniqI founds_rise (by rw [List.pairwise_map]; exact List.pairwise_lt_range.imp fun h => Int.ofNat_lt.mpr h) fun x => ?_
  have e : x ∈ (founds (valAt (flatOf ls 0)) t).map (valAt (flatOf ls 0)) ↔ x ∈ flatOf ls 0 := by
    constructor
    · intro h
      have := found_there h
      rw [flat_rep sm] at this
      exact this
    · intro h
      rw [← flat_rep sm] at h
      exact rep_owned h
  rw [e, flat_mem pos, List.mem_map]
  constructor
  · rintro ⟨i, hi, rfl⟩
    exact ⟨i, List.mem_range.mpr hi, by rw [Nat.zero_add]; rfl⟩
  · rintro ⟨i, hi, rfl⟩
    exact ⟨i, List.mem_range.mp hi, by rw [Nat.zero_add]; rfl⟩
theorem flat_blocks {ls : List Nat} {t : Tr} (sm : ls.sum = t.size) (pos : ∀ l, l ∈ ls → 0 < l) : blocksN (valAt (flatOf ls 0)) t = ls := by
  have h1 := flat_founds sm pos
  have h2 : blocksN (valAt (flatOf ls 0)) t = ((founds (valAt (flatOf ls 0)) t).map (valAt (flatOf ls 0))).map fun v => (flatOf ls 0).countP fun x => decide (x = v) := by
    unfold blocksN
    rw [flat_rep sm, List.map_map]
    rfl
  rw [h2, h1, List.map_map]
  refine Eq.trans (List.map_congr_left fun i _ => ?_) (flat_count ls 0)
  show (flatOf ls 0).countP (fun x => decide (x = Int.ofNat i)) = _
  rw [Nat.zero_add]
  rfl
theorem count_founds {g : Nat → Int} {t : Tr} : (labSS g t).count ("found" : Str) = (founds g t).length := by
  unfold labSS founds
  rw [List.count_eq_countP, List.countP_map, ← List.countP_eq_length_filter]
  refine List.countP_congr fun i _ => ?_
  show ((labAt g t i).str == ("found" : Str)) = true ↔ _
  rw [beq_iff_eq, decide_eq_true_iff]
  cases labAt g t i <;> decide +kernel
theorem flat_found {ls : List Nat} {t : Tr} (sm : ls.sum = t.size) (pos : ∀ l, l ∈ ls → 0 < l) : (labSS (valAt (flatOf ls 0)) t).count ("found" : Str) = ls.length := by
  rw [count_founds]
  have := congrArg List.length (flat_founds sm pos)
  rw [List.length_map, List.length_map, List.length_range] at this
  exact this
end HSP
set_option linter.all false
/-! a for in a generator's body -/
namespace L2
open PySem PySem.Spec PyProof.Rows GenW
section
variable {prog : Program} {w : World} {A : Around} {R : GenEnd} {Y : Protocol} {n : Nat} {s₀ : Shared} {c : Code} {fs : List Frame} {s : Shared} {env : Env}
  {K : Flow → Sem PySem.Fin} {H : Value → Sem PySem.Fin} {gd : Bool → Bool} {lv : List Value → List Value}
theorem seg_For {target iter : Expr} {body orelse : List Stmt} {pos : Pos} (hs : ∀ x, foldedSetIterable iter env x = pure x)
    (h : wpAny (model prog w) (A.over c fs) (eval iter env) (fun x s₁ => wpAny (model prog w) (A.over c fs) (pyIter x) (fun it s₂ =>
      ∀ p, Seg (model prog w) A R Y n s₀ (.forLoop target it body orelse env) ((model prog w).den (.forLoop target it body orelse env))
      (.ret (fun r => ((match r with | .ok f => (.pure f : Sem Flow) | .error e => .raise e).onRaise (cameBack env)).wrap K H gd lv) none (gd false) (lv []) c p [] :: fs) s₂)
      (fun x s' => Seg (model prog w) A R Y n s₀ c (H x) fs s') s₁) (fun x s' => Seg (model prog w) A R Y n s₀ c (H x) fs s') s) :
    Seg (model prog w) A R Y n s₀ c ((exec (.For target iter body orelse pos) env).wrap K H gd lv) fs s := by
  rw [exec_For]
  refine seg_bind_wrap (wpAny_standAt ?_)
  refine seg_bind_wrap (wpAny_mono h (fun x s₁ h₁ => ?_) fun _ _ h' => h')
  refine seg_bind_wrap (wpAny_of_eq (hs x) ?_)
  refine seg_bind_wrap (wpAny_standAt ?_)
  refine seg_bind_wrap (wpAny_holding (wpAny_mono h₁ (fun it s₂ h₂ => ?_) fun _ _ h' => h'))
  exact seg_call h₂
theorem seg_forLoop {target : Expr} {it : Value} {body orelse : List Stmt} {E : Value → Shared → Prop}
    (hE : ∀ x s', E x s' → Seg (model prog w) A R Y n s₀ (.forLoop target it body orelse env) ((do noteFrame x env; theTreesLotGoes x : Sem Unit).wrap (fun _ => .raise x) .raise id id) fs s')
    (h : wpAny (model prog w) (A.over (.forLoop target it body orelse env) fs) (pyNext it) (fun r s₁ => match r with
      | none => Seg (model prog w) A R Y n s₀ (.forLoop target it body orelse env) (.pure (.again (.block orelse env))) fs s₁
      | some v => wpAny (model prog w) (A.over (.forLoop target it body orelse env) fs) (letOwnedTupleGo target it v) (fun _ s₁' =>
          wpAny (model prog w) (A.over (.forLoop target it body orelse env) fs) (assign target env v) (fun _ s₂ =>
            Seg (model prog w) A R Y n s₀ (.forLoop target it body orelse env) ((execs body env).wrap (fun f => match f with
            | .next | .cont => .pure (.again (.forLoop target it body orelse env))
            | .brk => .pure (.done .next)
            | .ret v => .pure (.done (.ret v))) (fun e => (do noteFrame e env; theTreesLotGoes e : Sem Unit).wrap (fun _ => .raise e) .raise id id) id id) fs s₂) E s₁') E s₁) E s) :
    Seg (model prog w) A R Y n s₀ (.forLoop target it body orelse env) ((model prog w).den (.forLoop target it body orelse env)) fs s := by
  have h0 := wpAny_mono h (fun _ _ q => q) fun x s' q => hE x s' q
  have hE' : ∀ x s', E x s' → Seg (model prog w) A R Y n s₀ (.forLoop target it body orelse env) ((do noteFrame x env; theTreesLotGoes x : Sem Unit).bind (fun _ => .raise x)) fs s' := fun x s' q => by
    rw [Sem.bind_eq_wrap]; exact hE x s' q
  show Seg _ A R Y n s₀ _ ((forTurn target it body orelse env).onRaise (fun x => do noteFrame x env; theTreesLotGoes x)) fs s
  unfold forTurn
  rw [Sem.onRaise_eq_wrap]
  refine seg_bind_wrap (wpAny_standAt ?_)
  refine seg_bind_wrap (wpAny_onRaise (wpAny_mono h (fun r s₁ h₁ => ?_) fun x s' h' => wpAny_standAt (hE' x s' h')))
  cases r with
  | none => exact h₁
  | some v =>
    refine seg_bind_wrap (wpAny_mono h₁ (fun _ s₁' h₁' => ?_) fun x s' h' => hE' x s' h')
    refine seg_bind_wrap (wpAny_mono h₁' (fun _ s₂ h₂ => ?_) fun x s' h' => hE' x s' h')
    rw [Sem.bind_eq_wrap', Sem.wrap_wrap]
    rw [Sem.wrap_congr (execs body env) _ _ (K' := fun f => match f with
            | .next | .cont => .pure (.again (.forLoop target it body orelse env))
            | .brk => .pure (.done .next)
            | .ret v => .pure (.done (.ret v))) (H' := (fun e => (do noteFrame e env; theTreesLotGoes e : Sem Unit).wrap (fun _ => .raise e) .raise id id))
        (fun f => by cases f <;> rfl)
        (fun e => by first | exact Sem.bind_eq_wrap _ _ | (show (do noteFrame e env; theTreesLotGoes e : Sem Unit).bind (fun _ => .raise e) = _; rw [Sem.bind_eq_wrap]))]
    exact h₂
end
section
variable {X : Cx}
def tGFor (wi : TI) (g : TG) (tb : TGn) : TGn := fun D ys σ H => wi σ H fun J H1 => ∃ W : Nat → Nat → List V → St → Hp → Prop, (∃ m, W 0 m ys σ H1) ∧ ∀ i m ys σ H, W i m ys σ H →
  (J.stop i H ∧ D.nx ys σ H) ∨ (J.go i H ∧ ∃ N : List V → St → Hp → Prop, (∀ ys' σ' H', N ys' σ' H' → ∃ m', m' < m ∧ W (i + 1) m' ys' σ' H') ∧ ∀ x H', J.yld i H x H' → g x σ H' fun σ2 H2 => tb { D with nx := N, ct := N, bk := D.nx } ys σ2 H2)
theorem gs_for {target iter : Expr} {body : List Stmt} {pos : Pos} {wi : TI} {g : TG} {tb : TGn} (hp : PassesOwn (model X.prog X.w) X.A X.env X.xe) (hc : X.calm = true) (hi : PI X target iter wi) (hg : PG X target g) (hb : GSs X body tb)
    (hs : ∀ x, foldedSetIterable iter X.env x = pure x := by intro _; rfl) : GS X (.For target iter body [] pos) (tGFor wi g tb) := by
  refine ⟨fun A S ip R n ys s₀ c fs K J gd lv s σ H D gc hn k hI ht => ?_⟩
  obtain ⟨acc, cc, r, I⟩ := hI
  refine seg_For hs ?_
  rw [gc.over]
  refine wpAny_mono (hi.run _ s σ H _ I ht) (fun v s1 h1 => wpAny_mono h1 (fun itv s2 h2 p => ?_) fun x s' hx => k.exc n s₀ x s' hx) fun x s' hx => k.exc n s₀ x s' hx
  obtain ⟨it, fp, tn, Jt, H2, e, I2, T, st2, f2, W, ⟨m0, w0⟩, turn⟩ := h2
  subst e
  have gl := fun (kk : Result → Sem PySem.Fin) => gc_loop (k := kk) (c' := .forLoop target (.ref it) body [] X.env) (l := lv []) (kp := []) (p := p) gc rfl rfl
  have glb := fun (kk : Result → Sem PySem.Fin) => gc_loop (k := kk) (c' := .block [] X.env) (l := lv []) (kp := []) (p := p) gc rfl rfl
  -- what stays true of the iterator's objects, whatever stands in the consumer's list
  have stat : ∀ {o : Obj} {H' : Hp}, (∀ b ∈ fp, H' b = none) → ∀ b ∈ fp, FpOk X ((S, o) :: ip) H' b := fun {o H'} hn b hb => by
    obtain ⟨_, a2, a3, a4, a5, a6⟩ := f2 b hb
    refine ⟨hn b hb, a2, a3, a4, a5, fun p hp => ?_⟩
    rcases List.mem_append.mp hp with hp | hp
    · exact a6 p (List.mem_append_left _ hp)
    · rcases List.mem_cons.mp hp with hp | hp
      · rw [hp]; exact a6 (S, lstObj acc cc) (List.mem_append_right _ List.mem_cons_self)
      · exact a6 p (List.mem_append_right _ (List.mem_cons_of_mem _ hp))
  have fpS : ∀ b ∈ fp, b ≠ S := fun b hb e => by
    obtain ⟨_, _, _, _, _, a6⟩ := f2 b hb
    exact a6 (S, lstObj acc cc) (List.mem_append_right _ List.mem_cons_self) e.symm
  have ee : ∀ (n : Nat) (s₀ : Shared) (x : Value) (s' : Shared), X.xe x s' → Seg (model X.prog X.w) A R (GY X S) n s₀ (.forLoop target (.ref it) body [] X.env)
      ((do noteFrame x X.env; theTreesLotGoes x : Sem Unit).wrap (fun _ => .raise x) .raise id id)
      (.ret (fun r => ((match r with | .ok f => (.pure f : Sem Flow) | .error e => .raise e).onRaise (cameBack X.env)).wrap K J gd lv) none (gd false) (lv []) c p [] :: fs) s' := fun n s₀ x s' hx => by
    refine seg_wrap ?_
    rw [(gl _).over]
    refine wpAny_bind (wpAny_mono (hp x s' hx) (fun _ s'' hcb => wpAny_theTreesLotGoes ?_) fun y s'' hcb => ?_)
    · exact seg_leaf (.error x) (seg_cameBack gc k hcb)
    · exact seg_leaf (.error y) (seg_cameBack gc k hcb)
  have loop : ∀ (m i n : Nat) (ys : List V) (s₀ s : Shared) (σ : St) (H : Hp), n + ys.length = sizeLine → W i m ys σ H → GI X S ip ys σ H s → tn i s.heap → (∀ b ∈ fp, H b = none) →
      Seg (model X.prog X.w) A R (GY X S) n s₀ (.forLoop target (.ref it) body [] X.env) ((model X.prog X.w).den (.forLoop target (.ref it) body [] X.env))
        (.ret (fun r => ((match r with | .ok f => (.pure f : Sem Flow) | .error e => .raise e).onRaise (cameBack X.env)).wrap K J gd lv) none (gd false) (lv []) c p [] :: fs) s := by
    intro m
    induction m using Nat.strongRecOn with
    | ind m ih =>
      intro i n ys s₀ s σ H hn w hI st fr
      obtain ⟨acc, cc, r, I⟩ := hI
      refine seg_forLoop (E := X.xe) (fun x s' hx => ee n s₀ x s' hx) ?_
      rw [(gl _).over]
      rcases turn i m ys σ H w with ⟨stop, qn⟩ | ⟨go, N, hN, step⟩
      · refine wpAny_mono (T.done X rfl rfl rfl hc i _ s σ H X.xe I (stat fr) st stop) (fun r' s4 ⟨hr, I4⟩ => ?_) fun _ _ q => q
        subst hr
        refine seg_again rfl ?_
        exact seg_leaf (.ok .next) (k.ok n ys s₀ s4 .next hn ⟨σ, H, ⟨acc, cc, r, I4⟩, qn⟩)
      · refine wpAny_mono (T.item X rfl rfl rfl hc i _ s σ H X.xe I (stat fr) st go) (fun r' s4 ⟨u, hr, h4⟩ => ?_) fun _ _ q => q
        subst hr
        refine wpAny_mono h4 (fun _ s5 ⟨x, H5, I5, r5, y5, st5, fr5⟩ => ?_) fun _ _ q => q
        have I5' := I5.pinned (stat fr5) (T.obj _ _ st5)
        refine wpAny_mono (hg.run _ s5 σ H5 x u _ I5' r5 (step x H5 y5)) (fun _ s6 ⟨σ6, H6, I6, q6⟩ => ?_) fun _ _ q => q
        have ipS : ∀ p ∈ ip ++ pinsAt fp s5.heap, p.1 ≠ S := fun p hp => by
          rcases List.mem_append.mp hp with hp | hp
          · exact gc.ip p hp
          · exact fpS p.1 (of_pinsAt hp).1
        have glp : GC X S (ip ++ pinsAt fp s5.heap) A (.forLoop target (.ref it) body [] X.env) (.ret (fun r => ((match r with | .ok f => (.pure f : Sem Flow) | .error e => .raise e).onRaise (cameBack X.env)).wrap K J gd lv) none (gd false) (lv []) c p [] :: fs) id :=
          ⟨gc.pn, ipS, gc.apart, (gl _).over, (gl _).split, (gl _).guard, rfl⟩
        have unp : ∀ {ys7 : List V} {σ7 : St} {H7 : Hp} {s7 : Shared}, GI X S (ip ++ pinsAt fp s5.heap) ys7 σ7 H7 s7 → GI X S ip ys7 σ7 H7 s7 := fun {ys7 σ7 H7 s7} q => by
          obtain ⟨acc7, cc7, r7, I7⟩ := q
          refine ⟨acc7, cc7, r7, I7.pins_of fun p hp => ?_⟩
          rcases List.mem_cons.mp hp with hp | hp
          · exact I7.pin p (List.mem_append_right _ (by rw [hp]; exact List.mem_cons_self))
          · exact I7.pin p (List.mem_append_right _ (List.mem_cons_of_mem _ (List.mem_append_left _ hp)))
        have pinned7 : ∀ {ys7 : List V} {σ7 : St} {H7 : Hp} {s7 : Shared} {b : Addr} {o : Obj}, GI X S (ip ++ pinsAt fp s5.heap) ys7 σ7 H7 s7 → b ∈ fp → s5.heap.get? b = some o → s7.heap.get? b = some o ∧ H7 b = none := fun {ys7 σ7 H7 s7 b o} q hb e => by
          obtain ⟨acc7, cc7, r7, I7⟩ := q
          have := I7.pin (b, o) (List.mem_append_right _ (List.mem_cons_of_mem _ (List.mem_append_right _ (mem_pinsAt hb e))))
          exact ⟨this.1, this.2.1⟩
        have again : ∀ {n7 : Nat} {ys7 : List V} {s07 : Shared} {σ7 : St} {H7 : Hp} {s7 : Shared}, n7 + ys7.length = sizeLine → GI X S (ip ++ pinsAt fp s5.heap) ys7 σ7 H7 s7 → N ys7 σ7 H7 →
            Seg (model X.prog X.w) A R (GY X S) n7 s07 (.forLoop target (.ref it) body [] X.env) (.pure (.again (.forLoop target (.ref it) body [] X.env)))
              (.ret (fun r => ((match r with | .ok f => (.pure f : Sem Flow) | .error e => .raise e).onRaise (cameBack X.env)).wrap K J gd lv) none (gd false) (lv []) c p [] :: fs) s7 := fun {n7 ys7 s07 σ7 H7 s7} hn7 q nn => by
          obtain ⟨m', hm, w7⟩ := hN ys7 σ7 H7 nn
          refine seg_again rfl (ih m' hm (i + 1) n7 ys7 s07 s7 σ7 H7 hn7 w7 (unp q) (T.keep _ _ _ st5 fun b hb o e => (pinned7 q hb e).1) fun b hb => ?_)
          obtain ⟨o, e, _⟩ := T.obj _ _ st5 b hb
          exact (pinned7 q hb e).2
        refine hb.run A S (ip ++ pinsAt fp s5.heap) R n ys s₀ _ _ _ _ id id s6 σ6 H6 { D with nx := N, ct := N, bk := D.nx } glp hn ⟨fun n' ys' s₀' s7 f hn' hs' => ?_, fun n' s₀' x s7 hx => ee n' s₀' x s7 hx⟩ ⟨acc, cc, r, I6⟩ q6
        cases f with
        | next => obtain ⟨σ7, H7, I7, n7⟩ := hs'; exact again hn' I7 n7
        | cont => obtain ⟨σ7, H7, I7, n7⟩ := hs'; exact again hn' I7 n7
        | brk => obtain ⟨σ7, H7, I7, n7⟩ := hs'; exact seg_leaf (.ok .next) (k.ok n' ys' s₀' s7 .next hn' ⟨σ7, H7, unp I7, n7⟩)
        | ret v => obtain ⟨x7, σ7, H7, I7, r7, n7⟩ := hs'; exact seg_leaf (.ok (.ret v)) (k.ok n' ys' s₀' s7 (.ret v) hn' ⟨x7, σ7, H7, unp I7, r7, n7⟩)
  exact loop m0 0 n ys s₀ s2 σ H2 hn w0 ⟨acc, cc, r, I2⟩ st2 fun b hb => (f2 b hb).1
/-- over a list that the body leaves as it is -/
theorem gfor_list {K : PySem.W.Frag} {a : Addr} {xs : List V} {g : TG} {tb : TGn} {D : GEnds} {ys : List V} {σ : St} {H : Hp} (Pv : Nat → List V → St → Hp → Prop) (h0 : Pv 0 ys σ H) (hl : ∀ i ys σ H, i ≤ xs.length → Pv i ys σ H → SqL K H a xs)
    (hs : ∀ i x ys σ H, xs[i]? = some x → Pv i ys σ H → g x σ H fun σ2 H2 => tb { D with nx := Pv (i + 1), ct := Pv (i + 1), bk := D.nx } ys σ2 H2) (hd : ∀ ys σ H, Pv xs.length ys σ H → D.nx ys σ H) :
    ∃ W : Nat → Nat → List V → St → Hp → Prop, (∃ m, W 0 m ys σ H) ∧ ∀ i m ys σ H, W i m ys σ H →
      ((Itl K a).stop i H ∧ D.nx ys σ H) ∨ ((Itl K a).go i H ∧ ∃ N : List V → St → Hp → Prop, (∀ ys' σ' H', N ys' σ' H' → ∃ m', m' < m ∧ W (i + 1) m' ys' σ' H') ∧ ∀ x H', (Itl K a).yld i H x H' → g x σ H' fun σ2 H2 => tb { D with nx := N, ct := N, bk := D.nx } ys σ2 H2) := by
  refine ⟨fun i m ys σ H => m = xs.length - i ∧ i ≤ xs.length ∧ Pv i ys σ H, ⟨xs.length, by simp, Nat.zero_le _, h0⟩, ?_⟩
  rintro i m ys σ H ⟨rfl, hi, p⟩
  have q := hl i ys σ H hi p
  by_cases hlt : i < xs.length
  · refine .inr ⟨⟨xs, xs[i], q, by simp [hlt]⟩, Pv (i + 1), fun ys' σ' H' p' => ⟨xs.length - (i + 1), by omega, rfl, hlt, p'⟩, fun x H' y => ?_⟩
    obtain ⟨e, y⟩ := y
    subst e
    exact hs i x ys σ _ (y xs q) p
  · have hi' : i = xs.length := by omega
    subst hi'
    exact .inl ⟨⟨xs, q, Nat.le_refl _⟩, hd ys σ H p⟩
end
end L2
namespace HSP
open PySem PySem.Spec PyProof.Rows L2
/-! ## a generator def of the text that keeps a promise, called by its name -/
structure DfGn (P : Program) (w : World) (K : PySem.W.Frag) (mg : Str → Option Value) (base : Heap) (x : Str) (n : Nat) (ps : List Str) (sp : SpG) : Prop where
  ex : ∃ (f : Addr) (fd : FuncData), mg x = some (.ref f) ∧ PySem.W.keepIn K (.ref f) = true ∧ Binds K fd ps [] ∧ GFn P w K mg base n f fd ps sp
section
variable {P : Program} {w : World} {K : PySem.W.Frag} {mg : Str → Option Value} {base : Heap}
theorem DfGn.mk' {x : Str} {st : Stmt} {N ps : List Str} {k : Nat} {sp : SpG} (a : At K mg x st) (S : GScope N ps (defScope st)) (len : ∀ vs H Q E, sp vs H Q E → vs.length = ps.length)
    (hb : ∀ (kV doc pm : Value) (an : Option Addr) (cdv ct : Value) (us : List Value), us.length = ps.length → bindArgs (PySem.W.fnOf x x (defArgs st) (defBody st) (defScope st) .none kV doc pm an cdv ct) ⟨us, []⟩ = pure (ps.zip us))
    (body : ∀ (f : Addr) (cdv : Value) (A : Around) (outer : List Env) (s : Shared) (H : Hp) (vs : List V) (Q : List V → Hp → Prop) (E : XK) (pn : List (Addr × Obj)), Room k (A.deeper (envOfC x (defScope st) s.heap.objs.size f cdv)) → sp vs H Q E →
      ∃ t, GSs (gcxOf P w K mg base N x (defScope st) f cdv A outer s H E pn) (defBody st) t ∧ t { nx := fun ys _ H' => Q ys H', rt := fun ys v H' => v = .non ∧ Q ys H' } [] (start N vs) H) : DfGn P w K mg base x (k + 1) ps sp := by
  obtain ⟨f, fd, hm, F⟩ := a
  refine ⟨f, fd, hm, F.kp, F.binds hb, ?_⟩
  obtain ⟨oc, od, kV, doc, pm, an, cdv, ct, osl, rfl, lk, hcd⟩ := F.ex
  exact gfn_of lk hcd S len fun A outer s H vs Q E pn hr hsp => body f cdv A outer s H vs Q E pn hr hsp
end
section
variable {X : Cx} {k : Nat} {ps : List Str} {sp : SpG} {x nm : Str} {p p2 pos pos' : Pos} {e : Expr} {es : List Expr} {t : TA}
def EF : XK := fun _ _ _ => False
theorem passEF : Passes (CX X.prog X.w) X EF := fun pins σ H s e s' I c => by
  obtain ⟨a, B, H', cls, d, _, _, _, _, _, _, _, z⟩ := c
  exact z.elim
theorem nostopEF {K : PySem.W.Frag} : NoStop K EF := fun _ _ _ z => z.elim
/-- list(f(..)) of a generator def that raises nothing -/
theorem pe_listDf (D : DfGn X.prog X.w X.K X.mg X.base x k ps sp) (hr : Room (k + 3) X.A) (hnm : X.mg "list" = none) (ha : PA X (e :: es) t) (hg : Gl X x := by rfl) (hgl : Gl X "list" := by rfl) (hdb : (x == ("__debug__" : Str)) = false := by decide)
    (he : starEach (e :: es) X.env = (false, eval e X.env) :: starEach es X.env := by rfl) (hpl : (backTo pos' (starEach es X.env)).any (·.1) = false := by rfl)
    (he2 : starEach [.Call (.Name x p) (e :: es) [] pos'] X.env = (false, eval (.Call (.Name x p) (e :: es) [] pos') X.env) :: starEach [] X.env := by rfl) :
    PE X (.Call (.Name "list" p2) [.Call (.Name x p) (e :: es) [] pos'] [] pos) (tListG (tCallG sp [] EF t)) := by
  obtain ⟨f, fd, hm, hk, hb, F⟩ := D.ex
  exact pe_listG (pgen_call F (hr.mono (by omega)) hg hm hk hb .nil ha hdb he hpl) passEF nostopEF hr hgl hnm (by decide +kernel) (by decide) (by decide) he2
end
end HSP
namespace HSP
open PySem PySem.Spec PyProof.Rows L2
/-! ## lists of texts as data -/
def ssD (l : List Str) : PyData := .list (l.map PyData.str)
theorem ss_dpAll {K : PySem.W.Frag} {H : Hp} : ∀ l : List Str, DpAll K H (l.map V.str) (l.map PyData.str)
  | [] => .nil
  | z :: r => .cons (.str z) (ss_dpAll r)
theorem ss_canAll : ∀ {l : List Str}, (∀ s, s ∈ l → PyData.strOk s = true) → PyData.canLayAll0 (l.map PyData.str) = true
  | [], _ => by simp [PyData.canLayAll0]
  | z :: r, h => by
    have ih := ss_canAll (l := r) fun s hs => h s (List.mem_cons_of_mem _ hs)
    have h1 := h z List.mem_cons_self
    simp only [List.map_cons, PyData.canLayAll0, PyData.canLay0, ih, h1, Bool.and_self]
theorem ss_can {l : List Str} (h : ∀ s, s ∈ l → PyData.strOk s = true) : PyData.canLay0 (ssD l) = true := by
  unfold ssD
  simp only [PyData.canLay0]
  exact ss_canAll h
theorem ss_deep : ∀ l : List Str, PyData.depthAll (l.map PyData.str) ≤ 1
  | [] => by simp [PyData.depthAll]
  | z :: r => by
    have ih := ss_deep r
    simp only [List.map_cons, PyData.depthAll, PyData.depth]
    omega
theorem ss_shaped {l : List Str} (h : ∀ s, s ∈ l → PyData.strOk s = true) : SeqAt.shaped (ssD l) = true := by
  unfold SeqAt.shaped
  rw [Bool.and_eq_true]
  refine ⟨ss_can h, decide_eq_true ?_⟩
  have := ss_deep l
  unfold ssD
  simp only [PyData.depth]
  omega
theorem ss_eqvAll : ∀ a b : List Str, PyData.eqvAll (a.map PyData.str) (b.map PyData.str) = decide (a = b)
  | [], [] => by simp [PyData.eqvAll]
  | [], y :: b => by simp [PyData.eqvAll]
  | x :: a, [] => by simp [PyData.eqvAll]
  | x :: a, y :: b => by
    have ih := ss_eqvAll a b
    simp only [List.map_cons, PyData.eqvAll, PyData.eqv, ih]
    by_cases c : x = y
    · subst c
      simp
    · simp [c]
theorem ss_eqv (a b : List Str) : PyData.eqv (ssD a) (ssD b) = decide (a = b) := by
  unfold ssD
  simp only [PyData.eqv]
  exact ss_eqvAll a b
end HSP
namespace HSP
open PySem PySem.Spec PyProof.Rows L2 PySem.W
/-! ### sorted of a list of lists of texts -/
theorem alike_strs : ∀ a b : List Str, PySem.W.alikeAll (a.map PyData.str) (b.map PyData.str) = true
  | [], [] => by simp [PySem.W.alikeAll]
  | [], _ :: _ => by simp [PySem.W.alikeAll]
  | _ :: _, [] => by simp [PySem.W.alikeAll]
  | x :: a, y :: b => by
    have ih := alike_strs a b
    simp only [List.map_cons, PySem.W.alikeAll, PySem.W.alike, ih, Bool.and_self]
def rSortedSS (K : PySem.W.Frag) : List V → Hp → VK → Prop := fun vs H Q => ∃ (a : Addr) (rows : List (Addr × List Str)), vs = [V.ref a] ∧ SqL K H a (rows.map fun r => V.ref r.1) ∧ (∀ r, r ∈ rows → H r.1 = some (.lst (r.2.map V.str))) ∧
  ∀ (rows' : List (Addr × List Str)) (p : Addr), rows'.Perm rows → H p = none → Q (.ref p) (upd H p (.lst (rows'.map fun r => V.ref r.1)))
theorem refs_rows : ∀ {rows : List (Addr × List Str)} {its : List Value}, Vals (rows.map fun r => V.ref r.1) its → its = rows.map fun r => Value.ref r.1
  | [], _, .nil => rfl
  | r :: rows, _, .cons h t => by
    rw [refs_rows t]
    cases h
    rfl
theorem each_rows {its : List Value} : ∀ {rows : List (Addr × List Str)}, PySem.W.EachIs (fun (v : Value) (r : Addr × List Str) => v = .ref r.1) its rows → its = rows.map fun r => Value.ref r.1 := fun {rows} h => by
  induction h with
  | nil => rfl
  | cons h1 _ ih => rw [h1, ih]; rfl
theorem vals_rows : ∀ rows : List (Addr × List Str), Vals (rows.map fun r => V.ref r.1) (rows.map fun r => Value.ref r.1)
  | [] => .nil
  | _ :: r => .cons rfl (vals_rows r)
theorem cr_sortedSS {X : Cx} (hu : X.A.units + 64 < cLine) : CallR X (.builtin "sorted") (rSortedSS X.K) := by
  intro pins s σ H vs us Q I r h
  obtain ⟨a, rows, rfl, hs, hr, q⟩ := h
  obtain ⟨its, rv, hl, hz⟩ := I.list hs
  rw [Vals.ref1 r]
  have ei := refs_rows rv
  subst ei
  refine PySem.W.sorted_data (R := fun (v : Value) (r : Addr × List Str) => v = .ref r.1) (bs := rows) (enc := fun r => ssD r.2) hl.isList ?_ ?_ ?_ ?_ ?_ (fun b _ => ?_) fun out lo ho => ?_
  · have key : ∀ l : List (Addr × List Str), PySem.W.EachIs (fun (v : Value) (r : Addr × List Str) => v = .ref r.1) (l.map fun r => Value.ref r.1) l := fun l => by
      induction l with
      | nil => exact .nil
      | cons x l ih => exact .cons rfl ih
    exact key rows
  · have key : ∀ l : List (Addr × List Str), (∀ r, r ∈ l → H r.1 = some (.lst (r.2.map V.str))) → PySem.W.EachIs (fun (v : Value) (b : Addr × List Str) => ∃ as, Reads s.heap v (ssD b.2) as) (l.map fun r => Value.ref r.1) l := fun l => by
      induction l with
      | nil => exact fun _ => .nil
      | cons x l ih => exact fun hl => .cons (Dp.reads I (ssD x.2) (V.ref x.1) (.ref x.1) (.lst (.of (hl x List.mem_cons_self)) (ss_dpAll _)) rfl) (ih fun r hr => hl r (List.mem_cons_of_mem _ hr))
    exact key rows hr
  · intro d hd d' hd'
    obtain ⟨x, _, rfl⟩ := List.mem_map.mp hd
    obtain ⟨y, _, rfl⟩ := List.mem_map.mp hd'
    show PySem.W.alike (.list _) (.list _) = true
    simp only [PySem.W.alike]
    exact alike_strs _ _
  · refine .inr fun d hd => ?_
    obtain ⟨x, _, rfl⟩ := List.mem_map.mp hd
    exact ⟨fun z => (by cases z), fun xs z => (by cases z)⟩
  · rw [List.length_map] at hz
    exact hz
  · have := ss_deep b.2
    unfold ssD
    simp only [PyData.depth]
    omega
  · have eo := each_rows ho
    subst eo
    obtain ⟨ep, he'⟩ := PyProof.Rows.sortedAll_at s.heap (rows.map fun r => Value.ref r.1) ((rows.mergeSort (PySem.W.dataLe false fun r => ssD r.2)).map fun r => Value.ref r.1).toArray
    have pm := List.mergeSort_perm rows (PySem.W.dataLe false fun r => ssD r.2)
    have hlen : ((rows.mergeSort (PySem.W.dataLe false fun r => ssD r.2)).map fun r => V.ref r.1).length ≤ sizeLine := by
      rw [List.length_map] at hz
      rw [List.length_map, pm.length_eq]
      exact hz
    exact ⟨.ref _, upd H (s.heap.objs.size + 1) (.lst ((rows.mergeSort (PySem.W.dataLe false fun r => ssD r.2)).map fun r => V.ref r.1)), I.laid (t' := s.toks) (fun _ _ => PyProof.Rows.sortedAll_old) (Nat.le_succ _) ⟨hlen, _, ep, vals_rows _, he'⟩, rfl, q _ _ pm (I.hok.fresh (Nat.le_succ _))⟩
end HSP
namespace HSP
open PySem PySem.Spec PyProof.Rows L2
theorem rows_many (n : Nat) : (rowsN n).length = 2 ^ (n - 1) := by
  unfold rowsN
  by_cases h : n = 0
  · rw [if_pos h, h]
    rfl
  · rw [if_neg h]
    exact (rowsA_len (n - 1)).1
section
variable {P : Program} {w : World} {K : PySem.W.Frag} {mg : Str → Option Value} {base : Heap}
/-! ### count_patterns -/
theorem sc_count_patterns : FnScope n_count_patterns ["tree"] (defScope s_count_patterns) := ⟨rfl, rfl, rfl, by decide +kernel, rfl, by decide +kernel, by decide +kernel⟩
def spCntP : Sp := fun vs H Q _ => ∃ (v : V) (t : Tr), vs = [v] ∧ TrAt H v t ∧ t.size ≤ 64 ∧ ∀ H', Same H H' → Q (natV (2 ^ (t.size - 1))) H'
theorem ok_cntP (B : Bl mg) (Ct : Df P w K mg base "check_tree" 2 ["tree"] spChkT) (Co : Df P w K mg base "count_nodes" 1 ["tree"] spCount) (a : At K mg "count_patterns" s_count_patterns) : Df P w K mg base "count_patterns" 3 ["tree"] spCntP := by
  refine Df.mk' a sc_count_patterns (fun vs H Q E h => ?_) (fun _ _ _ _ _ _ us hl => match us, hl with | [_], _ => rfl) (fun f cdv A outer s H vs Q E hr h => ?_)
  · obtain ⟨_, _, rfl, _⟩ := h
    rfl
  obtain ⟨v, t, rfl, ht, hz, q⟩ := h
  refine ⟨_, (pss_cons (ps_expr (pe_df Ct hr (pa_cons (pv 0) pa_nil)))
 (pss_one (ps_ret (pe_op op_shl pe_int (pe_callB (call_max2 rfl) (by rfl) B.max (by decide +kernel) (pa_cons pe_int (pa_cons (pe_op op_sub (pe_df Co (hr.mono (by decide)) (pa_cons (pv 0) pa_nil)) pe_int) pa_nil))))))), ?_⟩
  refine ⟨_, rfl, v, t, rfl, ht, by omega, fun H1 s1 => ?_⟩
  have ej : (if ((t.size : Nat) : Int) - 1 > 0 then ((t.size : Nat) : Int) - 1 else 0) = ((t.size - 1 : Nat) : Int) := by
    split <;> omega
  refine ⟨_, rfl, v, t, rfl, ht.same s1, by omega, fun H2 s2 => ⟨_, _, rfl, rfl, _, _, rfl, ?_⟩⟩
  rw [ej]
  refine ⟨_, _, rfl, rfl, ⟨by omega, by omega, by decide⟩, ?_⟩
  have fin := q _ (s1.trans s2)
  show Q (V.int (1 * 2 ^ ((t.size - 1 : Nat) : Int).toNat)) H2
  rw [Int.toNat_natCast, Int.one_mul]
  have e : ((2 ^ (t.size - 1) : Nat) : Int) = (2 : Int) ^ (t.size - 1) := by rw [Int.natCast_pow]; rfl
  rw [← e]
  exact fin
end
end HSP
namespace HSP
open PySem PySem.Spec PyProof.Rows L2
/-- the labels of all rows -/
def patL (t : Tr) : List (List Str) := (rowsN t.size).map fun r => labSS (valAt r) t
theorem pats_rows {H : Hp} {t : Tr} : ∀ {as : List Addr} {rs : List (List Int)}, Paired (fun a (r : List Int) => H a = some (.lst (labsV (valAt r) t t.size))) as rs →
    ∃ rows : List (Addr × List Str), rows.map (fun r => V.ref r.1) = as.map V.ref ∧ rows.map Prod.snd = rs.map (fun r => labSS (valAt r) t) ∧ ∀ r, r ∈ rows → H r.1 = some (.lst (r.2.map V.str))
  | _, _, .nil => ⟨[], rfl, rfl, fun r hr => nomatch hr⟩
  | _, _, .cons (a := a) (b := b) h t' => by
    obtain ⟨rows, e1, e2, e3⟩ := pats_rows t'
    refine ⟨(a, labSS (valAt b) t) :: rows, by rw [List.map_cons, List.map_cons, e1], by rw [List.map_cons, List.map_cons, e2], fun r hr => ?_⟩
    rcases List.mem_cons.mp hr with z | z
    · rw [z]
      show H a = some (.lst ((labSS (valAt b) t).map V.str))
      rw [← labSS_V]
      exact h
    · exact e3 r z
section
variable {P : Program} {w : World} {K : PySem.W.Frag} {mg : Str → Option Value} {base : Heap}
theorem sc_each_pattern : GScope n_each_pattern ["tree"] (defScope s_each_pattern) := ⟨rfl, rfl, rfl, by decide +kernel, rfl, by decide +kernel, by decide +kernel⟩
def spEach : SpG := fun vs H Q _ => ∃ (v : V) (t : Tr), vs = [v] ∧ TrAt H v t ∧ t.size ≤ 10 ∧ ∀ (H' : Hp) (rows : List (Addr × List Str)), Same H H' → (rows.map Prod.snd).Perm (patL t) → (∀ r, r ∈ rows → H' r.1 = some (.lst (r.2.map V.str))) → Q (rows.map fun r => V.ref r.1) H'
theorem ok_each {tk : Tok} (B : Bl mg) (Gp : mg "MOST_NODES" = some (.int 10 tk)) (Ct : Df P w K mg base "check_tree" 2 ["tree"] spChkT) (Co : Df P w K mg base "count_nodes" 1 ["tree"] spCount) (Al : Df P w K mg base "all_patterns" 5 ["tree"] spAllP) (a : At K mg "each_pattern" s_each_pattern) : DfGn P w K mg base "each_pattern" 6 ["tree"] spEach := by
  refine DfGn.mk' a sc_each_pattern (fun vs H Q E h => ?_) (fun _ _ _ _ _ _ us hl => match us, hl with | [_], _ => rfl) (fun f cdv A outer s H vs Q E pn hr h => ?_)
  · obtain ⟨_, _, rfl, _⟩ := h
    rfl
  obtain ⟨v, t, rfl, ht, hz, q⟩ := h
  refine ⟨_, (gss_cons (gs_ps (ps_expr (pe_df Ct (hr.mono (by decide)) (pa_cons (pv 0) pa_nil))))
 (gss_cons (gs_ps (ps_set (i := 1) sc_each_pattern.nd rfl (.inl rfl) (pe_df Co (hr.mono (by decide)) (pa_cons (pv 0) pa_nil))))
 (gss_cons (gs_ps (ps_if (pt_cmpR op_gt (pv 1) (pe_glob (v := .int 10) (by rfl) Gp ⟨_, rfl⟩) (nomark _)) (pss_one ps_never) pss_nil))
 (gss_cons (gs_for owns_gcx rfl (pi_list (pe_callB (cr_sortedSS hr.units) (by rfl) B.sorted (by decide +kernel) (pa_cons (pe_df Al hr (pa_cons (pv 0) pa_nil)) pa_nil))) (pg_name (i := 2) sc_each_pattern.nd rfl (.inl rfl)) (gss_cons (gs_yield (pv 2))
 gss_nil))
 gss_nil)))), ?_⟩
  refine ⟨_, rfl, v, t, rfl, ht, by omega, fun H1 s1 => ?_⟩
  refine ⟨v, rfl, v, t, rfl, ht.same s1, by omega, fun H2 s2 => ?_⟩
  have s12 := s1.trans s2
  refine ⟨_, rfl, _, _, rfl, rfl, _, rfl, ?_⟩
  rw [decide_eq_false (show ¬ (10 : Int) < ((t.size : Nat) : Int) by omega)]
  refine iteF ?_
  refine ⟨v, rfl, v, t, rfl, ht.same s12, by omega, fun H3 q3 s3 n3 ⟨as, eq3, pr⟩ => ?_⟩
  obtain ⟨rows, er, el, ea⟩ := pats_rows pr
  refine ⟨q3, rows, rfl, .of (by rw [eq3, er]), ea, fun rows' p pm np => ?_⟩
  have sp := Same.new (o := .lst (rows'.map fun r => V.ref r.1)) np
  have lr : rows'.length ≤ 512 := by
    have h1 := pm.length_eq
    have h2 : rows.length = (rowsN t.size).length := by
      have := congrArg List.length el
      rw [List.length_map, List.length_map] at this
      exact this
    rw [h1, h2, rows_many]
    exact Nat.le_trans (Nat.pow_le_pow_right (by decide) (show t.size - 1 ≤ 9 by omega)) (by decide)
  refine ⟨p, rfl, ⟨_, .of upd_same⟩, gfor_list (xs := rows'.map fun r => V.ref r.1) (fun i ys σ H' => ys = (rows'.map fun r => V.ref r.1).take i ∧ H' = upd H3 p (.lst (rows'.map fun r => V.ref r.1)) ∧ ∃ y : Option V, σ = [some v, some (natV t.size), y]) ⟨rfl, rfl, _, rfl⟩ (fun i ys σ H' _ h' => ?_) (fun i x ys σ H' hx h' => ?_) (fun ys σ H' h' => ?_)⟩
  · obtain ⟨_, rfl, _⟩ := h'
    exact .of upd_same
  · obtain ⟨rfl, rfl, y, rfl⟩ := h'
    refine ⟨?_, _, rfl, ?_, rfl, _, rfl⟩
    · rw [List.length_take]
      refine small1000 ?_
      have := Nat.min_le_right i (rows'.map fun r => V.ref r.1).length
      rw [List.length_map] at this ⊢
      omega
    · rw [List.take_add_one, hx]
      rfl
  · obtain ⟨rfl, rfl, y, rfl⟩ := h'
    rw [List.take_length]
    refine q _ rows' (s12.trans (s3.trans sp)) ?_ (fun r hr' => ?_)
    · rw [← show rows.map Prod.snd = patL t from el]
      exact pm.map _
    · exact sp _ _ (ea r (pm.mem_iff.mp hr'))
end
end HSP
namespace HSP
open PySem PySem.Spec PyProof.Rows L2
theorem lastD_snoc (l : List Int) (x : Int) : (l ++ [x]).getLastD 0 = x := by simp
/-! ## all ways to cut n nodes into blocks -/
def cutF : Nat → Nat → List (List Nat)
  | 0, _ => [[]]
  | f + 1, n => if n = 0 then [[]] else (List.range n).flatMap fun j => (cutF f (n - 1 - j)).map fun r => (j + 1) :: r
theorem cut_mem : ∀ {f n : Nat}, n ≤ f → ∀ ls : List Nat, ls ∈ cutF f n ↔ (∀ l, l ∈ ls → 0 < l) ∧ ls.sum = n
  | 0, n, h, ls => by
    have e : n = 0 := by omega
    subst e
    show ls ∈ [[]] ↔ _
    rw [List.mem_singleton]
    constructor
    · rintro rfl
      exact ⟨fun l h => (nomatch h), rfl⟩
    · rintro ⟨h1, h2⟩
      match ls, h1, h2 with
      | [], _, _ => rfl
      | x :: r, h1, h2 =>
        have := h1 x List.mem_cons_self
        rw [List.sum_cons] at h2
        omega
  | f + 1, n, h, ls => by
    unfold cutF
    by_cases c : n = 0
    · rw [if_pos c, c, List.mem_singleton]
      constructor
      · rintro rfl
        exact ⟨fun l h => (nomatch h), rfl⟩
      · rintro ⟨h1, h2⟩
        match ls, h1, h2 with
        | [], _, _ => rfl
        | x :: r, h1, h2 =>
          have := h1 x List.mem_cons_self
          rw [List.sum_cons] at h2
          omega
    · rw [if_neg c, List.mem_flatMap]
      constructor
      · rintro ⟨j, hj, hl⟩
        have hj := List.mem_range.mp hj
        obtain ⟨r, hr, rfl⟩ := List.mem_map.mp hl
        obtain ⟨h1, h2⟩ := (cut_mem (by omega) r).mp hr
        refine ⟨fun l hl => ?_, by rw [List.sum_cons, h2]; omega⟩
        rcases List.mem_cons.mp hl with z | z
        · omega
        · exact h1 l z
      · rintro ⟨h1, h2⟩
        match ls, h1, h2 with
        | [], _, h2 => exact absurd h2.symm c
        | x :: r, h1, h2 =>
          have hx := h1 x List.mem_cons_self
          rw [List.sum_cons] at h2
          refine ⟨x - 1, List.mem_range.mpr (by omega), List.mem_map.mpr ⟨r, (cut_mem (by omega) r).mpr ⟨fun l hl => h1 l (List.mem_cons_of_mem _ hl), by omega⟩, by rw [Nat.sub_add_cancel hx]⟩⟩
theorem cut_nodup : ∀ (f n : Nat), (cutF f n).Nodup
  | 0, _ => List.nodup_cons.mpr ⟨fun h => (nomatch h), List.nodup_nil⟩
  | f + 1, n => by
    unfold cutF
    split
    · exact List.nodup_cons.mpr ⟨fun h => (nomatch h), List.nodup_nil⟩
    · refine nodup_flatMap (fun j _ => ?_) (List.nodup_range.imp fun {x y} ne b hb hc => ne ?_)
      · exact List.pairwise_map.mpr ((cut_nodup f (n - 1 - j)).imp fun {a b} ne e => ne (List.cons.inj e).2)
      · obtain ⟨r, _, rfl⟩ := List.mem_map.mp hb
        obtain ⟨r', _, e⟩ := List.mem_map.mp hc
        have := (List.cons.inj e).1
        omega
/-- a row is written by the lengths of its blocks -/
theorem row_flat : ∀ (k : Nat) (r : List Int), r ∈ rowsA k → ∃ (ls : List Nat) (l : Nat), 0 < l ∧ (∀ x, x ∈ ls → 0 < x) ∧ r = flatOf (ls ++ [l]) 0 ∧ r.getLastD 0 = (ls.length : Int)
  | 0, r, h => by
    have e : r = [0] := List.mem_singleton.mp h
    subst e
    exact ⟨[], 1, Nat.one_pos, fun x hx => (nomatch hx), rfl, rfl⟩
  | k + 1, r, h => by
    obtain ⟨s, hs, hr⟩ := List.mem_flatMap.mp (show r ∈ (rowsA k).flatMap stepA from h)
    obtain ⟨ls, l, hl, hp, e, el⟩ := row_flat k s hs
    rcases List.mem_cons.mp (show r ∈ [s ++ [s.getLastD 0 + 0], s ++ [s.getLastD 0 + 1]] from hr) with z | z
    · refine ⟨ls, l + 1, Nat.succ_pos _, hp, ?_, ?_⟩
      · rw [z, el, e, flatOf_snoc, flatOf_snoc, List.append_assoc, List.replicate_succ', Nat.zero_add, Int.add_zero]
      · rw [z, lastD_snoc, el]
        show (ls.length : Int) + 0 = _
        omega
    · have z := List.mem_singleton.mp z
      refine ⟨ls ++ [l], 1, Nat.one_pos, fun x hx => ?_, ?_, ?_⟩
      · rcases List.mem_append.mp hx with y | y
        · exact hp x y
        · rw [List.mem_singleton.mp y]; exact hl
      · rw [z, el, flatOf_snoc (ls ++ [l]), ← e, List.length_append, List.length_singleton, Nat.zero_add]
        show s ++ [(ls.length : Int) + 1] = s ++ List.replicate 1 ((ls.length + 1 : Nat) : Int)
        rw [List.replicate_one]
        congr 2
      · rw [z, lastD_snoc, el, List.length_append, List.length_singleton]
        show (ls.length : Int) + 1 = _
        omega
theorem row_cut {n : Nat} {r : List Int} (h : r ∈ rowsN n) : ∃ ls : List Nat, (∀ l, l ∈ ls → 0 < l) ∧ ls.sum = n ∧ r = flatOf ls 0 := by
  have hl := rowsN_len h
  unfold rowsN at h
  by_cases c : n = 0
  · rw [if_pos c] at h
    rw [List.mem_singleton.mp h, c]
    exact ⟨[], fun l h => (nomatch h), rfl, rfl⟩
  · rw [if_neg c] at h
    obtain ⟨ls, l, h1, h2, e, _⟩ := row_flat _ r h
    refine ⟨ls ++ [l], fun x hx => ?_, ?_, e⟩
    · rcases List.mem_append.mp hx with y | y
      · exact h2 x y
      · rw [List.mem_singleton.mp y]; exact h1
    · rw [← flatOf_len _ 0, ← e, hl]
/-- what is written by lengths is a row -/
theorem flat_row : ∀ (n : Nat) {ls : List Nat}, (∀ l, l ∈ ls → 0 < l) → ls.sum = n + 1 → flatOf ls 0 ∈ rowsA n ∧ (flatOf ls 0).getLastD 0 + 1 = (ls.length : Int) := by
  intro n
  induction n with
  | zero =>
    intro ls hp hs
    match ls, hp, hs with
    | [1], _, _ => exact ⟨List.mem_singleton.mpr rfl, rfl⟩
    | [0], hp, _ => exact absurd (hp 0 List.mem_cons_self) (by decide)
    | [l + 2], _, hs => simp only [List.sum_cons, List.sum_nil] at hs; omega
    | a :: b :: r, hp, hs =>
      have h1 := hp a List.mem_cons_self
      have h2 := hp b (List.mem_cons_of_mem _ List.mem_cons_self)
      simp only [List.sum_cons] at hs
      omega
  | succ n ih =>
    intro ls hp hs
    rcases List.eq_nil_or_concat ls with e | ⟨l0, l, e⟩
    · rw [e] at hs
      cases hs
    · rw [List.concat_eq_append] at e
      subst e
      have hl := hp l (List.mem_append_right _ List.mem_cons_self)
      rw [List.sum_append, List.sum_cons, List.sum_nil] at hs
      by_cases c : l = 1
      · subst c
        obtain ⟨i1, i2⟩ := ih (ls := l0) (fun x hx => hp x (List.mem_append_left _ hx)) (by omega)
        have e1 : flatOf (l0 ++ [1]) 0 = flatOf l0 0 ++ [(flatOf l0 0).getLastD 0 + 1] := by
          rw [flatOf_snoc, i2, List.replicate_one, Nat.zero_add]
        refine ⟨?_, ?_⟩
        · rw [e1]
          exact List.mem_flatMap.mpr ⟨_, i1, List.mem_cons_of_mem _ List.mem_cons_self⟩
        · rw [e1, lastD_snoc, i2, List.length_append, List.length_singleton]
          show (l0.length : Int) + 1 = _
          omega
      · obtain ⟨m, rfl⟩ : ∃ m, l = m + 1 := ⟨l - 1, by omega⟩
        obtain ⟨i1, i2⟩ := ih (ls := l0 ++ [m]) (fun x hx => by
          rcases List.mem_append.mp hx with y | y
          · exact hp x (List.mem_append_left _ y)
          · rw [List.mem_singleton.mp y]; omega) (by rw [List.sum_append, List.sum_cons, List.sum_nil]; omega)
        rw [List.length_append, List.length_singleton] at i2
        have e1 : flatOf (l0 ++ [m + 1]) 0 = flatOf (l0 ++ [m]) 0 ++ [(flatOf (l0 ++ [m]) 0).getLastD 0 + 0] := by
          rw [show (flatOf (l0 ++ [m]) 0).getLastD 0 + 0 = (l0.length : Int) by omega, flatOf_snoc, flatOf_snoc, List.append_assoc, List.replicate_succ', Nat.zero_add]
        refine ⟨?_, ?_⟩
        · rw [e1]
          exact List.mem_flatMap.mpr ⟨_, i1, List.mem_cons_self⟩
        · rw [e1, lastD_snoc, List.length_append, List.length_singleton]
          show (flatOf (l0 ++ [m]) 0).getLastD 0 + 0 + 1 = _
          omega
theorem cut_row {n : Nat} {ls : List Nat} (hp : ∀ l, l ∈ ls → 0 < l) (hs : ls.sum = n) : flatOf ls 0 ∈ rowsN n := by
  unfold rowsN
  by_cases c : n = 0
  · rw [if_pos c]
    match ls, hp, hs with
    | [], _, _ => exact List.mem_singleton.mpr rfl
    | x :: r, hp, hs =>
      have := hp x List.mem_cons_self
      rw [List.sum_cons] at hs
      omega
  · rw [if_neg c]
    exact (flat_row (n - 1) hp (by omega)).1
/-- the blocks of all patterns are all ways to cut, each once -/
theorem all_cuts {t : Tr} {f : Nat} (h : t.size ≤ f) : ((rowsN t.size).map fun r => blocksN (valAt r) t).Perm (cutF f t.size) := by
  have inv : ∀ r, r ∈ rowsN t.size → flatOf (blocksN (valAt r) t) 0 = r := fun r hr => by
    obtain ⟨ls, h1, h2, rfl⟩ := row_cut hr
    rw [flat_blocks h2 h1]
  refine (List.perm_ext_iff_of_nodup ?_ (cut_nodup f _)).mpr fun ls => ?_
  · refine List.pairwise_map.mpr ((rowsN_nodup t.size).imp_of_mem fun {a b} ha hb ne e => ne ?_)
    rw [← inv a ha, ← inv b hb, e]
  · rw [cut_mem h, List.mem_map]
    constructor
    · rintro ⟨r, hr, rfl⟩
      obtain ⟨ls, h1, h2, rfl⟩ := row_cut hr
      rw [flat_blocks h2 h1]
      exact ⟨h1, h2⟩
    · rintro ⟨h1, h2⟩
      exact ⟨flatOf ls 0, cut_row h1 h2, flat_blocks h2 h1⟩
end HSP
namespace HSP
open PySem PySem.Spec PyProof.Rows L2
/-! ## what the law draws from: a list of a number, a count, a mark -/
def DrAt (H : Hp) (p : Addr) (k : Nat) : Prop := ∃ (n : Int) (j : Nat) (b : Bool), H p = some (.lst [.int n, .int (j : Int), .bl b]) ∧ j ≤ k
theorem DrAt.mono {H : Hp} {p : Addr} {k k' : Nat} (d : DrAt H p k) (h : k ≤ k') : DrAt H p k' := by
  obtain ⟨n, j, b, e, l⟩ := d
  exact ⟨n, j, b, e, Nat.le_trans l h⟩
theorem DrAt.same {H H' : Hp} {p : Addr} {k : Nat} (d : DrAt H p k) (s : Same H H') : DrAt H' p k := by
  obtain ⟨n, j, b, e, l⟩ := d
  exact ⟨n, j, b, s _ _ e, l⟩
theorem DrAt.ne {H : Hp} {p q : Addr} {k : Nat} (d : DrAt H p k) (h : H q = none) : q ≠ p := by
  obtain ⟨n, j, b, e, l⟩ := d
  exact (ne_of_none e h).symm
theorem DrAt.tree {H H' : Hp} {p : Addr} {k : Nat} {v : V} {t : Tr} (d : DrAt H p k) (s : Keep p H H') (h : TrAt H v t) : TrAt H' v t := by
  obtain ⟨n, j, b, e, l⟩ := d
  exact s.tree e h
/-- any of the items, whichever place is read -/
theorem at_any {xs : List V} {C : V → Prop} (h : ∀ x, x ∈ xs → C x) {i : Int} (h0 : 0 ≤ i) (h1 : i < (xs.length : Int)) : ∃ v, atI xs i = some v ∧ C v := by
  have hk : i.toNat < xs.length := by omega
  have ei : i = ((i.toNat : Nat) : Int) := by omega
  exact ⟨xs[i.toNat], at_of ei (List.getElem?_eq_getElem hk), h _ (List.getElem_mem hk)⟩
theorem small_mod {a m : Int} (h0 : 0 < m) (h1 : m < 2 ^ 64) : -(2 ^ 64) < a % m ∧ a % m < 2 ^ 64 := by
  have q1 := Int.emod_nonneg a (show m ≠ 0 by omega)
  have q2 := Int.emod_lt_of_pos a h0
  constructor <;> omega
section
variable {P : Program} {w : World} {K : PySem.W.Frag} {mg : Str → Option Value} {base : Heap}
/-! ### _law_draws -/
theorem sc_law_draws : FnScope n_law_draws ["cell"] (defScope s_law_draws) := ⟨rfl, rfl, rfl, by decide +kernel, rfl, by decide +kernel, by decide +kernel⟩
def spDraws : Sp := fun vs H Q _ => ∃ c : Int, vs = [.int c] ∧ ∀ (H' : Hp) (p : Addr), Same H H' → H p = none → DrAt H' p 0 → Q (.ref p) H'
theorem ok_draws (B : Bl mg) (a : At K mg "_law_draws" s_law_draws) : Df P w K mg base "_law_draws" 1 ["cell"] spDraws := by
  refine Df.mk' a sc_law_draws (fun vs H Q E h => ?_) (fun _ _ _ _ _ _ us hl => match us, hl with | [_], _ => rfl) (fun f cdv A outer s H vs Q E hr h => ?_)
  · obtain ⟨c, rfl, _⟩ := h
    rfl
  obtain ⟨c, rfl, q⟩ := h
  refine ⟨_, (pss_one (ps_ret (pe_lst (pa_cons (pe_op op_mod (pe_callTy call_int1 (by rfl) B.int (by decide +kernel) (pa_cons (pv 0) pa_nil)) (pe_op op_powW (pe_op op_powW (pe_op op_powW pe_int pe_int) pe_int) pe_int)) (pa_cons pe_int (pa_cons (pe_cmpR op_ge (pv 0) (pe_op op_powW pe_int pe_int) (nomark _)) pa_nil)))))), ?_⟩
  refine ⟨_, rfl, .inl ⟨_, rfl, _, _, rfl, rfl, ⟨by decide, by decide +kernel⟩, _, _, rfl, rfl, ⟨by decide, by decide +kernel⟩, _, _, rfl, rfl, ⟨by decide, by decide +kernel⟩, _, _, rfl, rfl, ?_, ?_⟩⟩
  · exact Int.pow_pos (Int.pow_pos (Int.pow_pos (by decide)))
  refine ⟨_, rfl, _, _, rfl, rfl, ⟨by decide, by decide +kernel⟩, _, _, rfl, rfl, (by show 3 ≤ sizeLine; decide), fun p hp => ?_⟩
  exact q _ p (Same.new hp) hp ⟨_, 0, _, upd_same, Nat.le_refl _⟩
/-! ### _law_next -/
theorem sc_law_next : FnScope n_law_next ["draws"] (defScope s_law_next) := ⟨rfl, rfl, rfl, by decide +kernel, rfl, by decide +kernel, by decide +kernel⟩
def spNext : Sp := fun vs H Q _ => ∃ (p : Addr) (k : Nat), vs = [.ref p] ∧ DrAt H p k ∧ k ≤ 100000 ∧ ∀ (H' : Hp) (r : Int), Keep p H H' → DrAt H' p (k + 1) → 0 ≤ r → r < 2147483648 → Q (.int r) H'
theorem ok_next (B : Bl mg) (a : At K mg "_law_next" s_law_next) : Df P w K mg base "_law_next" 1 ["draws"] spNext := by
  refine Df.mk' a sc_law_next (fun vs H Q E h => ?_) (fun _ _ _ _ _ _ us hl => match us, hl with | [_], _ => rfl) (fun f cdv A outer s H vs Q E hr h => ?_)
  · obtain ⟨p, k, rfl, _⟩ := h
    rfl
  obtain ⟨p, k, rfl, ⟨n, j, b, e, hj⟩, hk, q⟩ := h
  refine ⟨_, (pss_cons (ps_asg (pe_op op_add (pe_ix ix_list (pv 0) pe_int (fun _ _ => rfl)) pe_int) (pg_sub (pv 0) pe_int set_list))
 (pss_cons (ps_set (i := 1) sc_law_next.nd rfl (.inl rfl) (pe_ix ix_list (pv 0) pe_int (fun _ _ => rfl)))
 (pss_cons (ps_if (pt_val (pe_ix ix_list (pv 0) pe_int (fun _ _ => rfl))) (pss_cons (ps_set (i := 2) sc_law_next.nd rfl (.inl rfl) (pe_op op_mod (pe_callTy call_int1 (by rfl) B.int (by decide +kernel) (pa_cons (pe_ix ix_list (pv 0) pe_int (fun _ _ => rfl)) pa_nil)) (pe_op op_powW pe_int pe_int)))
 (pss_cons (ps_asg (pe_op op_fdiv (pe_ix ix_list (pv 0) pe_int (fun _ _ => rfl)) (pe_op op_powW pe_int pe_int)) (pg_sub (pv 0) pe_int set_list))
 (pss_one (ps_ret (pv 2))))) pss_nil)
 (pss_cons (ps_set (i := 2) sc_law_next.nd rfl (.inl rfl) (pe_op op_mod (pe_callTy call_int1 (by rfl) B.int (by decide +kernel) (pa_cons (pe_op op_mul (pe_op op_add (pe_op op_add (pe_op op_mod (pe_callTy call_int1 (by rfl) B.int (by decide +kernel) (pa_cons (pe_ix ix_list (pv 0) pe_int (fun _ _ => rfl)) pa_nil)) pe_int) (pe_op op_mul (pe_op op_mul (pv 1) (pv 1)) pe_int)) (pv 1)) pe_int) pa_nil)) pe_int))
 (pss_cons (ps_set (i := 2) sc_law_next.nd rfl (.inl rfl) (pe_op op_mod (pe_callTy call_int1 (by rfl) B.int (by decide +kernel) (pa_cons (pe_op op_mul (pv 2) (pv 2)) pa_nil)) pe_int))
 (pss_one (ps_ret (pe_op op_fdiv (pe_op op_mod (pe_callTy call_int1 (by rfl) B.int (by decide +kernel) (pa_cons (pe_op op_mul (pv 2) (pe_op op_add (pv 2) pe_int)) pa_nil)) pe_int) pe_int)))))))), ?_⟩
  have e1 : (upd H p (.lst ([V.int n, .int (j : Int), .bl b].set 1 (.int ((j : Int) + 1))))) p = some (.lst [.int n, .int ((j + 1 : Nat) : Int), .bl b]) := by
    rw [upd_same]
    rfl
  refine ⟨_, rfl, p, _, _, _, rfl, rfl, .of e, atI_nat (j := 1) rfl, _, _, rfl, rfl, _, rfl, p, _, _, 1, rfl, rfl, e, rfl, ?_⟩
  have kp1 : Keep p H (upd H p (.lst ([V.int n, .int (j : Int), .bl b].set 1 (.int ((j : Int) + 1))))) := Keep.at
  generalize upd H p (.lst ([V.int n, .int (j : Int), .bl b].set 1 (.int ((j : Int) + 1)))) = H1 at e1 kp1 ⊢
  refine ⟨_, rfl, p, _, _, _, rfl, rfl, .of e1, atI_nat (j := 1) rfl, ?_⟩
  refine ⟨_, rfl, p, _, _, _, rfl, rfl, .of e1, atI_nat (j := 2) rfl, b, rfl, ?_⟩
  refine ite2 (fun c => ?_) (fun c => ?_)
  · refine ⟨_, rfl, p, _, _, _, rfl, rfl, .of e1, atI_nat (j := 0) rfl, .inl ⟨_, rfl, _, _, rfl, rfl, ⟨by decide, by decide +kernel⟩, _, _, rfl, rfl, Int.pow_pos (by decide), ?_⟩⟩
    refine ⟨_, rfl, p, _, _, _, rfl, rfl, .of e1, atI_nat (j := 0) rfl, _, _, rfl, rfl, ⟨by decide, by decide +kernel⟩, _, _, rfl, rfl, ⟨by decide, by decide⟩, _, rfl, p, _, _, 0, rfl, rfl, e1, rfl, ?_⟩
    refine ⟨_, rfl, q _ _ (kp1.trans Keep.at) ⟨_, j + 1, b, upd_same, by omega⟩ (Int.emod_nonneg _ (by decide)) ?_⟩
    have h6 : n % (1000000 : Int) < 1000000 := Int.emod_lt_of_pos n (by decide)
    exact Int.lt_trans h6 (by decide)
  · have k1 : -(2 ^ 64) < ((j + 1 : Nat) : Int) := by omega
    have k2 : ((j + 1 : Nat) : Int) < 2 ^ 64 := by omega
    refine ⟨_, rfl, p, _, _, _, rfl, rfl, .of e1, atI_nat (j := 0) rfl, .inl ⟨_, rfl, _, _, rfl, rfl, (by show (0 : Int) < 1000003; decide), _, rfl, _, rfl, _, _, rfl, rfl, .inl ⟨k1, k2⟩, _, _, rfl, rfl, .inr ⟨by decide, by decide⟩, _, _, rfl, rfl, _, rfl, _, _, rfl, rfl, _, _, rfl, rfl, .inr ⟨by decide, by decide⟩,
      .inl ⟨_, rfl, _, _, rfl, rfl, (by show (0 : Int) < 2147483629; decide), ?_⟩⟩⟩
    refine ⟨_, rfl, _, rfl, _, _, rfl, rfl, .inl (small_mod (by decide) (by decide)), .inl ⟨_, rfl, _, _, rfl, rfl, (by show (0 : Int) < 2147483587; decide), ?_⟩⟩
    refine ⟨_, rfl, _, rfl, _, _, rfl, rfl, _, _, rfl, rfl, .inl (small_mod (by decide) (by decide)), .inl ⟨_, rfl, _, _, rfl, rfl, (by show (0 : Int) < 2147483579; decide), _, _, rfl, rfl, ⟨by decide, by decide⟩, ?_⟩⟩
    refine q _ _ kp1 ⟨n, j + 1, b, e1, by omega⟩ (Int.ediv_nonneg (Int.emod_nonneg _ (by decide)) (by decide)) ?_
    exact Int.lt_of_le_of_lt (Int.ediv_le_self _ (Int.emod_nonneg _ (by decide))) (Int.lt_trans (Int.emod_lt_of_pos _ (by decide)) (by decide))
end
end HSP
namespace HSP
open PySem PySem.Spec PyProof.Rows L2
section
variable {P : Program} {w : World} {K : PySem.W.Frag} {mg : Str → Option Value} {base : Heap}
/-- nothing can be asked: no room is needed -/
theorem Df.none' {x : Str} {st : Stmt} {ps : List Str} {sp : Sp} (a : At K mg x st) (no : ∀ vs H Q E, ¬ sp vs H Q E)
    (hb : ∀ (kV doc pm : Value) (an : Option Addr) (cdv ct : Value) (us : List Value), us.length = ps.length → bindArgs (PySem.W.fnOf x x (defArgs st) (defBody st) (defScope st) .none kV doc pm an cdv ct) ⟨us, []⟩ = pure (ps.zip us)) (k : Nat) : Df P w K mg base x k ps sp := by
  obtain ⟨f, fd, hm, F⟩ := a
  exact ⟨f, fd, hm, F.kp, F.binds hb, ⟨fun vs H Q E h => absurd h (no vs H Q E), fun A outer s H args us vs Q E _ _ _ _ h => absurd h (no vs H Q E)⟩⟩
def spSize (n : Nat) : Sp := fun vs H Q _ => ∃ (v : V) (t : Tr), vs = [v] ∧ TrAt H v t ∧ t.ht < n ∧ Q (.int t.size) H
end
end HSP
namespace HSP
open PySem PySem.Spec PyProof.Rows L2
theorem cutF_eq : ∀ (f n : Nat), n ≤ f → cutF f n = cutF n n := by
  intro f
  induction f using Nat.strongRecOn with
  | ind f ih =>
    intro n h
    match f, n, h with
    | 0, 0, _ => rfl
    | f + 1, 0, _ => rfl
    | f + 1, n + 1, h =>
      show (if n + 1 = 0 then [[]] else _) = if n + 1 = 0 then [[]] else _
      rw [if_neg (Nat.succ_ne_zero n), if_neg (Nat.succ_ne_zero n)]
      have key : ∀ j, cutF f (n + 1 - 1 - j) = cutF n (n + 1 - 1 - j) := fun j => by
        rw [ih f (Nat.lt_succ_self f) _ (by omega)]
        by_cases c : n = f
        · rw [c, ih f (Nat.lt_succ_self f) _ (by omega)]
        · rw [ih n (by omega) _ (by omega)]
      simp only [key]
def cutG (n : Nat) : List (List Nat) := cutF n n
theorem cutG_succ (m : Nat) : cutG (m + 1) = (List.range (m + 1)).flatMap fun j => (cutG (m - j)).map fun r => (j + 1) :: r := by
  show (if m + 1 = 0 then [[]] else _) = _
  rw [if_neg (Nat.succ_ne_zero m)]
  have key : ∀ j, cutF m (m + 1 - 1 - j) = cutG (m - j) := fun j => by
    rw [show m + 1 - 1 - j = m - j by omega, cutF_eq m (m - j) (by omega)]
    rfl
  exact congrArg (fun f => (List.range (m + 1)).flatMap f) (funext fun j => by rw [key])
theorem cutG_few : ∀ m, m < 9 → (cutG m).length ≤ 128 ∧ ∀ l, l ∈ cutG m → l.length ≤ 8 := by decide +kernel
theorem len_flat {α β : Type} {f : α → List β} {c : Nat} : ∀ {l : List α}, (∀ a, a ∈ l → (f a).length ≤ c) → (l.flatMap f).length ≤ l.length * c
  | [], _ => Nat.zero_le _
  | a :: r, h => by
    have h1 := h a List.mem_cons_self
    have h2 := len_flat (l := r) fun x hx => h x (List.mem_cons_of_mem _ hx)
    rw [List.flatMap_cons, List.length_append, List.length_cons, Nat.add_mul]
    omega
/-- rows of numbers -/
def RowsN (H : Hp) (R : Addr) (lss : List (List Nat)) : Prop := ∃ as : List Addr, H R = some (.lst (as.map V.ref)) ∧ Paired (fun a (l : List Nat) => H a = some (.lst (l.map natV))) as lss
theorem RowsN.same {H H' : Hp} {R : Addr} {lss : List (List Nat)} (s : Same H H') (h : RowsN H R lss) : RowsN H' R lss := by
  obtain ⟨as, e, p⟩ := h
  exact ⟨as, s _ _ e, Paired.mapP p fun _ _ q => s _ _ q⟩
section
variable {P : Program} {w : World} {K : PySem.W.Frag} {mg : Str → Option Value} {base : Heap}
theorem sc_law_cuttings : FnScope n_law_cuttings ["many"] (defScope s_law_cuttings) := ⟨rfl, rfl, rfl, by decide +kernel, rfl, by decide +kernel, by decide +kernel⟩
def spCuts (n : Nat) : Sp := fun vs H Q _ => ∃ m : Nat, vs = [natV m] ∧ m < n ∧ m ≤ 8 ∧ ∀ (H' : Hp) (q : Addr), Same H H' → H q = none → RowsN H' q (cutG m) → Q (.ref q) H'
theorem ok_cuts (B : Bl mg) (a : At K mg "_law_cuttings" s_law_cuttings) : ∀ n, Df P w K mg base "_law_cuttings" n ["many"] (spCuts n)
  | 0 => Df.none' a (fun vs H Q E h => by obtain ⟨m, _, h, _⟩ := h; exact absurd h (Nat.not_lt_zero _)) (fun _ _ _ _ _ _ us hl => match us, hl with | [_], _ => rfl) 0
  | n + 1 => by
    have D := ok_cuts B a n
    refine Df.mk' a sc_law_cuttings (fun vs H Q E h => ?_) (fun _ _ _ _ _ _ us hl => match us, hl with | [_], _ => rfl) (fun f cdv A outer s H vs Q E hr h => ?_)
    · obtain ⟨m, rfl, _⟩ := h
      rfl
    obtain ⟨m, rfl, hm, h8, q⟩ := h
    refine ⟨_, (pss_cons (ps_if (pt_cmpR op_eq (pv 0) pe_int (nomark _)) (pss_one (ps_ret (pe_lst (pa_cons (pe_lst pa_nil) pa_nil)))) pss_nil)
 (pss_cons (ps_set (i := 1) sc_law_cuttings.nd rfl (.inl rfl) (pe_lst pa_nil))
 (pss_cons (ps_for PassesOwn.never rfl (pi_range2 (by rfl) B.range (pa_cons pe_int (pa_cons (pe_op op_add (pv 0) pe_int) pa_nil))) (pg_name (i := 2) sc_law_cuttings.nd rfl (.inr rfl)) (pss_one (ps_set (i := 1) sc_law_cuttings.nd rfl (.inl rfl) (pe_op op_cat (pv 1) (pe_lc (own := [("rest", 3)]) (g := (gName 3)) (tt := tYes) (by rfl) sc_law_cuttings.nd (pi_list (pe_df D hr (pa_cons (pe_op op_sub (pv 0) (pv 2)) pa_nil))) (blkOk_by (N := n_law_cuttings) (sc := defScope s_law_cuttings) (by decide +kernel)) (fun _ _ _ _ _ => (pg_name (i := 3) sc_law_cuttings.nd rfl (.inl rfl))) (fun _ _ _ _ _ => pts_nil) (fun _ _ _ _ _ => (show PE _ _ (tOp rCat (tLst (tCons (tVar 2) tNil)) (tVar 3)) from pe_op op_cat (pe_lst (pa_cons (pv 2) pa_nil)) (pv 3))))))))
 (pss_one (ps_ret (pv 1)))))), ?_⟩
    have zero : 0 ≤ sizeLine := Nat.zero_le _
    have one : 1 ≤ sizeLine := by show 1 ≤ sizeLine; decide
    refine ⟨_, rfl, rfl, _, rfl, ?_⟩
    cases m with
    | zero =>
      refine iteT ⟨zero, fun E0 hE0 => ⟨one, fun L hL => ?_⟩⟩
      have sE := Same.new (o := .lst []) hE0
      have sL := Same.new (o := .lst [V.ref E0]) hL
      exact q _ L (sE.trans sL) (sE.free hL) ⟨[E0], upd_same, .cons (sL _ _ upd_same) .nil⟩
    | succ m =>
    refine ite_no (fun z => by have := V.int.inj z; omega) ?_
    refine ⟨zero, fun L0 hL0 => ?_⟩
    have sL0 := Same.new (o := .lst []) hL0
    refine ⟨_, rfl, _, _, rfl, rfl, 1, ((m + 1 : Nat) : Int) + 1, rfl, ⟨by omega, by omega, by omega, by omega⟩, for_range (lo := 1) (n := (((m + 1 : Nat) : Int) + 1 - 1).toNat) (fun i σ H1 => ∃ (r : Addr) (y2 y3 : Option V), σ = [some (natV (m + 1)), some (.ref r), y2, y3] ∧ Same H H1 ∧ H r = none ∧ RowsN H1 r ((List.range i).flatMap fun j => (cutG (m - j)).map fun r => (j + 1) :: r)) ⟨L0, _, _, rfl, sL0, hL0, [], upd_same, .nil⟩ (fun i σ H1 hi h1 => ?_) (fun σ H1 h1 => ?_)⟩
    · obtain ⟨r, y2, y3, rfl, s1, nr, as1, e1, p1⟩ := h1
      have him : i < m + 1 := by omega
      have lF : ((List.range i).flatMap fun j => (cutG (m - j)).map fun r => (j + 1) :: r).length ≤ i * 128 := by
        have := len_flat (l := List.range i) (f := fun j => (cutG (m - j)).map fun r => (j + 1) :: r) (c := 128) fun j _ => by
          rw [List.length_map]
          exact (cutG_few _ (by omega)).1
        rw [List.length_range] at this
        exact this
      have l1 := Paired.length p1
      refine ⟨_, rfl, _, rfl, _, rfl, _, _, rfl, rfl, m - i, congrArg (fun z => [V.int z]) (by omega), by omega, by omega, fun H2 M s2 nM ⟨as2, e2, p2⟩ => ?_⟩
      have l2 := Paired.length p2
      have few := cutG_few (m - i) (by omega)
      refine ⟨M, rfl, ⟨_, .of e2⟩, fun C hC => ?_⟩
      have sC := Same.new (o := .lst []) hC
      refine lc_list (xs := as2.map V.ref) (fun k H3 => Same H2 H3 ∧ ∃ zs : List Addr, H3 C = some (.lst (zs.map V.ref)) ∧ zs.length = k ∧ Paired (fun a (l : List Nat) => H3 a = some (.lst (l.map natV)) ∧ a ≠ C) zs (((cutG (m - i)).take k).map fun r => (i + 1) :: r)) ⟨sC, [], upd_same, rfl, .nil⟩ (fun k H3 _ h3 => .of (h3.1 _ _ e2)) (fun k y H3 hy h3 => ?_) (fun H3 h3 => ?_)
      · obtain ⟨s3, zs, e3, l3, p3⟩ := h3
        rw [List.getElem?_map] at hy
        obtain ⟨b, hb, rfl⟩ := Option.map_eq_some_iff.mp hy
        obtain ⟨ls, hl, el⟩ := Paired.getL p2 hb
        have ll := few.2 ls (List.mem_of_getElem? hl)
        have hk := (List.getElem?_eq_some_iff.mp hb).1
        refine ⟨rfl, ?_⟩
        refine ⟨_, rfl, one, fun F hF => ⟨_, rfl, F, b, _, _, rfl, rfl, upd_same, (Same.new hF) _ _ (s3 _ _ el), ?_, fun T hT => ?_⟩⟩
        · rw [List.length_map]
          have : sizeLine = 16777216 := rfl
          show 1 + ls.length ≤ sizeLine
          omega
        have sF := Same.new (o := .lst [V.int (1 + (i : Int))]) hF
        have sT := Same.new (o := .lst ([V.int (1 + (i : Int))] ++ ls.map natV)) hT
        have sFT := sF.trans sT
        have nCT : C ≠ T := ne_of_none (sF _ _ e3) hT
        refine ⟨_, sFT _ _ e3, ?_, fun b o e => ?_, zs ++ [T], ?_, ?_, ?_⟩
        · rw [List.length_map]
          exact small1000 (by omega)
        · rw [upd_ne (ne_of_none e hC)]
          exact sFT _ _ (s3 _ _ e)
        · rw [upd_same, List.map_append]
          rfl
        · rw [List.length_append, List.length_singleton, l3]
        · rw [List.take_add_one, hl, List.map_append]
          refine Paired.app (Paired.mapP p3 fun a l h => ⟨?_, h.2⟩) (.cons ⟨?_, nCT.symm⟩ .nil)
          · rw [upd_ne h.2]
            exact sFT _ _ h.1
          · rw [upd_ne nCT.symm, upd_same]
            show some (HO.lst (V.int (1 + (i : Int)) :: ls.map natV)) = some (HO.lst (natV (i + 1) :: ls.map natV))
            rw [show (1 : Int) + (i : Int) = ((i + 1 : Nat) : Int) by omega]
            rfl
      · obtain ⟨s3, zs, e3, l3, p3⟩ := h3
        rw [List.length_map, l2, List.take_length] at p3
        rw [List.length_map] at l3
        refine ⟨r, C, _, _, rfl, rfl, s3 _ _ (s2 _ _ e1), e3, ?_, fun R hR => ?_⟩
        · rw [List.length_map, List.length_map]
          have : sizeLine = 16777216 := rfl
          omega
        have sR := Same.new (o := .lst (as1.map V.ref ++ zs.map V.ref)) hR
        have s1R := s1.trans (s2.trans (s3.trans sR))
        refine ⟨R, _, _, rfl, s1R, s1.free (s2.free (s3.free hR)), as1 ++ zs, by rw [upd_same, List.map_append], ?_⟩
        rw [List.range_succ, List.flatMap_append]
        refine Paired.app (Paired.mapP p1 fun a l h => sR _ _ (s3 _ _ (s2 _ _ h))) ?_
        show Paired _ zs (((cutG (m - i)).map fun r => (i + 1) :: r) ++ [])
        rw [List.append_nil]
        exact Paired.mapP p3 fun a l h => sR _ _ h.1
    · obtain ⟨r, y2, y3, rfl, s1, nr, h1⟩ := h1
      refine ⟨_, rfl, q _ r s1 nr ?_⟩
      rw [cutG_succ]
      rw [show (((m + 1 : Nat) : Int) + 1 - 1).toNat = m + 1 by omega] at h1
      exact h1
end
end HSP
namespace HSP
open PySem PySem.Spec PyProof.Rows L2 PySem.W
/-! ### sorted of a list of data of one form: what comes out rises -/
def rSortedG {α : Type} (enc : α → PyData) (K : PySem.W.Frag) : List V → Hp → VK → Prop := fun vs H Q => ∃ (a : Addr) (rows : List (Addr × α)), vs = [V.ref a] ∧ SqL K H a (rows.map fun r => V.ref r.1) ∧ (∀ r, r ∈ rows → Dp K H (.ref r.1) (enc r.2) ∧ (enc r.2).depth ≤ 50) ∧
  AllAlike (rows.map fun r => enc r.2) ∧ Sortable (rows.map fun r => enc r.2) ∧
  ∀ (rows' : List (Addr × α)) (p : Addr), rows'.Perm rows → rows'.Pairwise (fun r s => lexLt itemOrd (keyToks (enc s.2)) (keyToks (enc r.2)) = false) → H p = none → Q (.ref p) (upd H p (.lst (rows'.map fun r => V.ref r.1)))
theorem refs_rowsG {α : Type} : ∀ {rows : List (Addr × α)} {its : List Value}, Vals (rows.map fun r => V.ref r.1) its → its = rows.map fun r => Value.ref r.1
  | [], _, .nil => rfl
  | r :: rows, _, .cons h t => by
    rw [refs_rowsG t]
    cases h
    rfl
theorem each_rowsG {α : Type} {its : List Value} : ∀ {rows : List (Addr × α)}, PySem.W.EachIs (fun (v : Value) (r : Addr × α) => v = .ref r.1) its rows → its = rows.map fun r => Value.ref r.1 := fun {rows} h => by
  induction h with
  | nil => rfl
  | cons h1 _ ih => rw [h1, ih]; rfl
theorem vals_rowsG {α : Type} : ∀ rows : List (Addr × α), Vals (rows.map fun r => V.ref r.1) (rows.map fun r => Value.ref r.1)
  | [] => .nil
  | _ :: r => .cons rfl (vals_rowsG r)
theorem cr_sortedG {X : Cx} {α : Type} (enc : α → PyData) (hu : X.A.units + 64 < cLine) : CallR X (.builtin "sorted") (rSortedG enc X.K) := by
  intro pins s σ H vs us Q I r h
  obtain ⟨a, rows, rfl, hs, hr, hal, hso, q⟩ := h
  obtain ⟨its, rv, hl, hz⟩ := I.list hs
  rw [Vals.ref1 r]
  have ei := refs_rowsG rv
  subst ei
  refine PySem.W.sorted_data (R := fun (v : Value) (r : Addr × α) => v = .ref r.1) (bs := rows) (enc := fun r => enc r.2) hl.isList ?_ ?_ hal hso ?_ (fun b hb => ?_) fun out lo ho => ?_
  · have key : ∀ l : List (Addr × α), PySem.W.EachIs (fun (v : Value) (r : Addr × α) => v = .ref r.1) (l.map fun r => Value.ref r.1) l := fun l => by
      induction l with
      | nil => exact .nil
      | cons x l ih => exact .cons rfl ih
    exact key rows
  · have key : ∀ l : List (Addr × α), (∀ r, r ∈ l → Dp X.K H (.ref r.1) (enc r.2)) → PySem.W.EachIs (fun (v : Value) (b : Addr × α) => ∃ as, Reads s.heap v (enc b.2) as) (l.map fun r => Value.ref r.1) l := fun l => by
      induction l with
      | nil => exact fun _ => .nil
      | cons x l ih => exact fun hl => .cons (Dp.reads I (enc x.2) (V.ref x.1) (.ref x.1) (hl x List.mem_cons_self) rfl) (ih fun r hr => hl r (List.mem_cons_of_mem _ hr))
    exact key rows fun r hr' => (hr r hr').1
  · rw [List.length_map] at hz
    exact hz
  · have := (hr b hb).2
    omega
  · have eo := each_rowsG ho
    subst eo
    obtain ⟨ep, he'⟩ := PyProof.Rows.sortedAll_at s.heap (rows.map fun r => Value.ref r.1) ((rows.mergeSort (PySem.W.dataLe false fun r => enc r.2)).map fun r => Value.ref r.1).toArray
    have pm := List.mergeSort_perm rows (PySem.W.dataLe false fun r => enc r.2)
    have tl := sortLe_total (listOrd itemOrd) false fun r : Addr × α => keyToks (enc r.2)
    have up := List.pairwise_mergeSort (le := PySem.W.dataLe false fun r : Addr × α => enc r.2) tl.trans (fun a b => by rw [Bool.or_eq_true]; exact tl.total a b) rows
    have hlen : ((rows.mergeSort (PySem.W.dataLe false fun r => enc r.2)).map fun r => V.ref r.1).length ≤ sizeLine := by
      rw [List.length_map] at hz
      rw [List.length_map, pm.length_eq]
      exact hz
    exact ⟨.ref _, upd H (s.heap.objs.size + 1) (.lst ((rows.mergeSort (PySem.W.dataLe false fun r => enc r.2)).map fun r => V.ref r.1)), I.laid (t' := s.toks) (fun _ _ => PyProof.Rows.sortedAll_old) (Nat.le_succ _) ⟨hlen, _, ep, vals_rowsG _, he'⟩, rfl,
      q _ _ pm (up.imp fun {a b} h => by
        have h' : (!lexLt itemOrd (keyToks (enc b.2)) (keyToks (enc a.2))) = true := h
        rw [Bool.not_eq_true'] at h'
        exact h') (I.hok.fresh (Nat.le_succ _))⟩
/-! ### lists of whole numbers -/
theorem toks_ints : ∀ {a b : List Int}, keyToksAll (a.map PyData.int) = keyToksAll (b.map PyData.int) → a = b
  | [], [], _ => rfl
  | [], y :: b, h => by
    simp only [List.map_nil, List.map_cons, keyToksAll, keyToks] at h
    cases h
  | x :: a, [], h => by
    simp only [List.map_nil, List.map_cons, keyToksAll, keyToks] at h
    cases h
  | x :: a, y :: b, h => by
    simp only [List.map_cons, keyToksAll, keyToks, List.cons_append, List.nil_append, List.cons.injEq, Sum.inl.injEq, true_and] at h
    rw [h.1, toks_ints h.2]
theorem alike_ints : ∀ (a b : List Int), PySem.W.alikeAll (a.map PyData.int) (b.map PyData.int) = true
  | [], [] => by simp [PySem.W.alikeAll]
  | [], _ :: _ => by simp [PySem.W.alikeAll]
  | _ :: _, [] => by simp [PySem.W.alikeAll]
  | x :: a, y :: b => by
    have ih := alike_ints a b
    simp only [List.map_cons, PySem.W.alikeAll, PySem.W.alike, ih, Bool.and_self]
theorem all_alike_ints {α : Type} (f : α → List Int) (l : List α) : AllAlike (l.map fun r => intsD (f r)) := by
  intro d hd d' hd'
  obtain ⟨x, _, rfl⟩ := List.mem_map.mp hd
  obtain ⟨y, _, rfl⟩ := List.mem_map.mp hd'
  show PySem.W.alike (.list _) (.list _) = true
  simp only [PySem.W.alike]
  exact alike_ints _ _
theorem sortable_ints {α : Type} (f : α → List Int) (l : List α) : Sortable (l.map fun r => intsD (f r)) := by
  refine .inr fun d hd => ?_
  obtain ⟨x, _, rfl⟩ := List.mem_map.mp hd
  exact ⟨fun z => (by cases z), fun xs z => (by cases z)⟩
/-- two such lists that hold the same are the same -/
theorem sorted_one {a b : List (List Int)} (ha : a.Pairwise fun r s => lexLt itemOrd (keyToks (intsD s)) (keyToks (intsD r)) = false) (hb : b.Pairwise fun r s => lexLt itemOrd (keyToks (intsD s)) (keyToks (intsD r)) = false) (pm : a.Perm b) : a = b :=
  List.Perm.eq_of_pairwise (fun r s _ _ h1 h2 => by
    have h := lex_total (O := itemOrd) _ _ h1 h2
    unfold intsD at h
    simp only [keyToks] at h
    exact (toks_ints h).symm) ha hb pm
end HSP
namespace HSP
open PySem PySem.Spec PyProof.Rows L2
theorem DrAt.neOf {H : Hp} {p q : Addr} {k : Nat} {ns : List Int} (d : DrAt H p k) (e : H q = some (.lst (ns.map V.int))) : q ≠ p := fun z => by
  obtain ⟨n, j, b, e2, _⟩ := d
  rw [z, e2] at e
  have h := HO.lst.inj (Option.some.inj e)
  match ns, h with
  | [], h => exact absurd (congrArg List.length h) (by simp)
  | [_], h => exact absurd (congrArg List.length h) (by simp)
  | [_, _], h => exact absurd (congrArg List.length h) (by simp)
  | _ :: _ :: z :: _, h => exact absurd (congrArg (fun l => l[2]?) h) (by simp)
theorem DrAt.put {H : Hp} {p q : Addr} {k : Nat} {o : HO} (d : DrAt H p k) (n : q ≠ p) : DrAt (upd H q o) p k := by
  obtain ⟨z, j, b, e, l⟩ := d
  exact ⟨z, j, b, by rw [upd_ne n.symm]; exact e, l⟩
/-- a place that was not tracked at first may be written -/
theorem Keep.put {p q : Addr} {H H1 : Hp} {o : HO} (h : H q = none) (k : Keep p H H1) : Keep p H (upd H1 q o) := fun b u n e => by
  rw [upd_ne (ne_of_none e h)]
  exact k b u n e
/-- a value drawn is near 0 -/
def Near (ns : List Int) : Prop := ∀ v, v ∈ ns → -1000001 ≤ v ∧ v ≤ 1000001
theorem Near.nil : Near [] := fun _ h => by cases h
theorem Near.snoc {ns : List Int} {v : Int} (h : Near ns) (h1 : -1000001 ≤ v ∧ v ≤ 1000001) : Near (ns ++ [v]) := fun x hx => by
  rcases List.mem_append.mp hx with z | z
  · exact h x z
  · rw [List.mem_singleton.mp z]
    exact h1
theorem Near.set {ns : List Int} {v : Int} {i : Nat} (h : Near ns) (h1 : -1000001 ≤ v ∧ v ≤ 1000001) : Near (ns.set i v) := fun x hx => by
  rcases List.mem_or_eq_of_mem_set hx with z | z
  · exact h x z
  · rw [z]
    exact h1
theorem near_of {r sp : Int} (h0 : 0 ≤ sp) (h1 : sp ≤ 1000000) : -1000001 ≤ r % (sp + 1) - sp / 2 ∧ r % (sp + 1) - sp / 2 ≤ 1000001 := by
  have a1 := Int.emod_nonneg r (show sp + 1 ≠ 0 by omega)
  have a2 := Int.emod_lt_of_pos r (show (0 : Int) < sp + 1 by omega)
  omega
end HSP
namespace HSP
open PySem PySem.Spec PyProof.Rows L2
/-- the tree turned about -/
def mir : Tr → Tr
  | .nil => .nil
  | .nod l r => .nod (mir r) (mir l)
theorem mir_size : ∀ t : Tr, (mir t).size = t.size
  | .nil => rfl
  | .nod l r => by
    have h1 := mir_size l
    have h2 := mir_size r
    show (mir r).size + 1 + (mir l).size = l.size + 1 + r.size
    omega
/-- how many nodes one edge has -/
def edgeN (right : Bool) : Tr → Nat
  | .nil => 0
  | .nod l r => 1 + if right = true then edgeN right r else edgeN right l
theorem edge_le (b : Bool) : ∀ t : Tr, edgeN b t ≤ t.size
  | .nil => Nat.le_refl _
  | .nod l r => by
    have h1 := edge_le b l
    have h2 := edge_le b r
    show 1 + (if b = true then edgeN b r else edgeN b l) ≤ l.size + 1 + r.size
    split <;> omega
section
variable {P : Program} {w : World} {K : PySem.W.Frag} {mg : Str → Option Value} {base : Heap}
def spTurned (n : Nat) : Sp := fun vs H Q _ => ∃ (v : V) (t : Tr), vs = [v] ∧ TrAt H v t ∧ t.ht < n ∧ ∀ (H' : Hp) (v' : V), Same H H' → TrAt H' v' (mir t) → Q v' H'
def spEdge : Sp := fun vs H Q _ => ∃ (v : V) (t : Tr) (b : Bool), vs = [v, natV b.toNat] ∧ TrAt H v t ∧ t.size ≤ 300 ∧ Q (natV (edgeN b t - 1)) H
def spLengths : Sp := fun vs H Q _ => ∃ (p : Addr) (m k : Nat), vs = [.ref p, .int (m : Int)] ∧ m ≤ 1000 ∧ DrAt H p k ∧ k + 2 * m ≤ 90000 ∧ ∀ (H' : Hp) (q : Addr) (ls : List Nat), Keep p H H' → DrAt H' p (k + 2 * m) → H q = none → H' q = some (.lst (ls.map natV)) → ls.sum = m → (∀ l, l ∈ ls → 0 < l) → Q (.ref q) H'
end
end HSP
namespace HSP
open PySem PySem.Spec PyProof.Rows L2
/-! ## one block -/
def One (ws : List Nat) (n c x : Nat) : Prop := ws.length = n ∧ ∀ i, i < n → ws.getD i 0 = if i = c then x else 0
theorem sum_none : ∀ ws : List Nat, (∀ i, i < ws.length → ws.getD i 0 = 0) → ws.sum = 0
  | [], _ => rfl
  | a :: r, h => by
    have h0 : a = 0 := h 0 (Nat.zero_lt_succ _)
    rw [List.sum_cons, h0, sum_none r fun i hi => h (i + 1) (Nat.succ_lt_succ hi)]
theorem One.sum : ∀ {ws : List Nat} {n c x : Nat}, One ws n c x → c < n → ws.sum = x
  | [], n, c, x, h, hc => by
    have : 0 = n := h.1
    omega
  | a :: r, n, c, x, h, hc => by
    obtain ⟨l, e⟩ := h
    rw [List.length_cons] at l
    rw [List.sum_cons]
    cases c with
    | zero =>
      have h0 : a = x := e 0 (by omega)
      rw [sum_none r fun i hi => (e (i + 1) (by omega)).trans (if_neg (Nat.succ_ne_zero i)), h0]
      rfl
    | succ c =>
      have h0 : a = 0 := e 0 (by omega)
      rw [h0, One.sum (n := n - 1) (c := c) (x := x) ⟨by omega, fun i hi => (e (i + 1) (by omega)).trans (by
        by_cases d : i = c
        · rw [if_pos d, if_pos (by omega)]
        · rw [if_neg d, if_neg (by omega)])⟩ (by omega)]
      omega
theorem getD_map_range (f : Nat → Nat) {n i : Nat} (h : i < n) : ((List.range n).map f).getD i 0 = f i := by
  rw [List.getD_eq_getElem?_getD, List.getElem?_map, List.getElem?_range h]
  rfl
theorem One.L {ws : List Nat} {n c x : Nat} (h : One ws n c x) (hc : c < n) : One (withL ws) (n + 1) (c + 1) (c * x) := by
  obtain ⟨l, e⟩ := h
  refine ⟨by rw [withL_len, l], fun i hi => ?_⟩
  unfold withL
  cases i with
  | zero => rw [if_neg (by omega)]; rfl
  | succ i =>
    rw [List.getD_cons_succ, l, getD_map_range _ (by omega), e i (by omega)]
    by_cases d : i = c
    · rw [if_pos d, if_pos (by omega), d]
    · rw [if_neg d, if_neg (by omega), Nat.mul_zero]
theorem One.H {ws : List Nat} {n c x : Nat} (h : One ws n c x) (hc : c < n) : One (withH ws) (n + 1) c ((n - c) * x) := by
  obtain ⟨l, e⟩ := h
  refine ⟨by rw [withH_len, l], fun i hi => ?_⟩
  unfold withH
  by_cases d : i < n
  · rw [List.getD_eq_getElem?_getD, List.getElem?_append_left (by rw [List.length_map, List.length_range]; omega), ← List.getD_eq_getElem?_getD, l, getD_map_range _ d, e i d]
    by_cases f : i = c
    · rw [if_pos f, if_pos f, f]
    · rw [if_neg f, if_neg f, Nat.mul_zero]
  · rw [List.getD_eq_getElem?_getD, List.getElem?_append_right (by rw [List.length_map, List.length_range]; omega), List.length_map, List.length_range, l, show i - n = 0 by omega, if_neg (by omega)]
    rfl
theorem One.F {ws : List Nat} {n : Nat} (h : One ws (n + 1) n 1) : One (withF ws) (n + 2) (n + 1) 1 := by
  have s := h.sum (Nat.lt_succ_self n)
  obtain ⟨l, e⟩ := h
  refine ⟨by rw [withF_len, l], fun i hi => ?_⟩
  unfold withF
  rw [l, getD_map_range _ hi]
  by_cases d : i = n + 1
  · rw [if_pos d, d, List.take_of_length_le (by omega), s]
  · rw [if_neg d]
    refine sum_none _ fun j hj => ?_
    rw [List.length_take] at hj
    rw [List.getD_eq_getElem?_getD, List.getElem?_take, if_pos (by omega), ← List.getD_eq_getElem?_getD, e j (by omega), if_neg (by omega)]
def nL (m : List (Kd × Nat)) : Nat := m.countP fun c => match c.1 with | .L => true | _ => false
def nH (m : List (Kd × Nat)) : Nat := m.countP fun c => match c.1 with | .H => true | _ => false
theorem ways_block (o : Nat) : ∀ m : List (Kd × Nat), (∀ c, c ∈ m → c.1 ≠ .F) → One (waysS (m ++ [(.F, o)])) (nL m + nH m + 2) (nL m + 1) (fct (nL m) * fct (nH m)) ∧ m.length = nL m + nH m
  | [], _ => ⟨⟨rfl, fun i hi => by
    have hi : i < 2 := hi
    match i, hi with
    | 0, _ => rfl
    | 1, _ => rfl⟩, rfl⟩
  | (.F, _) :: _, h => absurd rfl (h _ List.mem_cons_self)
  | (.L, x) :: m, h => by
    obtain ⟨ih, l⟩ := ways_block o m fun c hc => h c (List.mem_cons_of_mem _ hc)
    have e1 : nL ((Kd.L, x) :: m) = nL m + 1 := List.countP_cons_of_pos rfl
    have e2 : nH ((Kd.L, x) :: m) = nH m := List.countP_cons_of_neg (show ¬ false = true by decide)
    have s := ih.L (by omega)
    rw [e1, e2]
    refine ⟨?_, by rw [List.length_cons, l]; omega⟩
    have e3 : (nL m + 1) * (fct (nL m) * fct (nH m)) = fct (nL m + 1) * fct (nH m) := by
      show _ = fct (nL m) * (nL m + 1) * fct (nH m)
      rw [← Nat.mul_assoc, Nat.mul_comm (nL m + 1)]
    rw [e3] at s
    rw [show nL m + 1 + nH m + 2 = nL m + nH m + 2 + 1 by omega]
    exact s
  | (.H, x) :: m, h => by
    obtain ⟨ih, l⟩ := ways_block o m fun c hc => h c (List.mem_cons_of_mem _ hc)
    have e1 : nL ((Kd.H, x) :: m) = nL m := List.countP_cons_of_neg (show ¬ false = true by decide)
    have e2 : nH ((Kd.H, x) :: m) = nH m + 1 := List.countP_cons_of_pos rfl
    have s := ih.H (by omega)
    rw [e1, e2]
    refine ⟨?_, by rw [List.length_cons, l]; omega⟩
    have e3 : (nL m + nH m + 2 - (nL m + 1)) * (fct (nL m) * fct (nH m)) = fct (nL m) * fct (nH m + 1) := by
      show _ = fct (nL m) * (fct (nH m) * (nH m + 1))
      rw [show nL m + nH m + 2 - (nL m + 1) = nH m + 1 by omega, Nat.mul_comm, Nat.mul_assoc]
    rw [e3] at s
    rw [show nL m + (nH m + 1) + 2 = nL m + nH m + 2 + 1 by omega]
    exact s
theorem places_fct : ∀ k p, placesP 0 k (p + 1) * fct p = fct (p + k)
  | 0, p => Nat.one_mul _
  | k + 1, p => by
    show placesP 0 k (p + 1) * (p + 1 + k) * fct p = fct (p + k) * (p + k + 1)
    rw [← places_fct k p, Nat.mul_right_comm, show p + 1 + k = p + k + 1 by omega]
/-! ### a list of equal values -/
theorem low_const (c : Int) : ∀ p : List (Nat × Bool), lowOf (fun _ => c) p = if p.any (·.2) = true then some c else none
  | [] => rfl
  | (n, true) :: r => by
    show (match lowOf (fun _ => c) r with | none => some c | some m => some (max c m)) = _
    rw [low_const c r]
    have : ((n, true) :: r).any (·.2) = true := rfl
    rw [if_pos this]
    by_cases d : r.any (·.2) = true
    · rw [if_pos d]
      exact congrArg some (Int.max_self c)
    · rw [if_neg d]
  | (n, false) :: r => by
    show lowOf (fun _ => c) r = _
    rw [low_const c r]
    rfl
theorem high_const (c : Int) : ∀ p : List (Nat × Bool), highOf (fun _ => c) p = if p.any (fun z => !z.2) = true then some c else none
  | [] => rfl
  | (n, false) :: r => by
    show (match highOf (fun _ => c) r with | none => some c | some m => some (min c m)) = _
    rw [high_const c r]
    have : ((n, false) :: r).any (fun z => !z.2) = true := rfl
    rw [if_pos this]
    by_cases d : r.any (fun z => !z.2) = true
    · rw [if_pos d]
      exact congrArg some (Int.min_self c)
    · rw [if_neg d]
  | (n, true) :: r => by
    show highOf (fun _ => c) r = _
    rw [high_const c r]
    rfl
theorem lab_const (c : Int) (t : Tr) (i : Nat) : labAt (fun _ => c) t i = if (pOf t 0 i).any (·.2) = true then (if (pOf t 0 i).any (fun z => !z.2) = true then .dead else .low) else if (pOf t 0 i).any (fun z => !z.2) = true then .high else .found := by
  show lbOf (bndOf (fun _ => c) (pOf t 0 i)) c = _
  unfold bndOf
  rw [low_const, high_const]
  cases (pOf t 0 i).any (·.2) <;> cases (pOf t 0 i).any (fun z => !z.2)
  · rfl
  · show (if c ≥ c then Lb.high else .found) = .high
    rw [if_pos (Int.le_refl c)]
  · show (if c ≤ c then Lb.low else .found) = .low
    rw [if_pos (Int.le_refl c)]
  · show lbOf (if c ≥ c then none else some (some c, some c)) c = .dead
    rw [if_pos (Int.le_refl c)]
    rfl
theorem range_parts (q : Nat → Bool) (a b : Nat) : (List.range (a + 1 + b)).countP q = (List.range a).countP q + (if q a = true then 1 else 0) + (List.range b).countP fun i => q (a + 1 + i) := by
  rw [List.range_add, List.countP_append, List.range_succ, List.countP_append, List.countP_singleton, List.countP_map]
  rfl
/-- nodes whose path has turns of one side alone -/
theorem count_edge (b : Bool) : ∀ (t : Tr) (f : Nat), (List.range t.size).countP (fun i => (pOf t f (f + i)).all fun z => z.2 == b) = edgeN b t
  | .nil, _ => rfl
  | .nod l r, f => by
    have hs : (Tr.nod l r).size = l.size + 1 + r.size := rfl
    have e1 : ∀ i, i < l.size → pOf (.nod l r) f (f + i) = (f + l.size, false) :: pOf l f (f + i) := fun i hi => by rw [pOf_nod, if_neg (by omega), if_pos (by omega)]
    have e2 : pOf (.nod l r) f (f + l.size) = [] := by rw [pOf_nod, if_pos rfl]
    have e3 : ∀ i, pOf (.nod l r) f (f + (l.size + 1 + i)) = (f + l.size, true) :: pOf r (f + l.size + 1) (f + l.size + 1 + i) := fun i => by
      rw [pOf_nod, if_neg (by omega), if_neg (by omega), show f + (l.size + 1 + i) = f + l.size + 1 + i by omega]
    have il := count_edge b l f
    have ir := count_edge b r (f + l.size + 1)
    rw [hs, range_parts, e2, List.all_nil, if_pos rfl]
    have f1 : (List.range l.size).countP (fun i => (pOf (.nod l r) f (f + i)).all fun z => z.2 == b) = if b = true then 0 else edgeN b l := by
      cases b with
      | true =>
        refine List.countP_eq_zero.mpr fun i hi => ?_
        rw [e1 i (List.mem_range.mp hi)]
        intro z
        simp at z
      | false =>
        rw [if_neg (by decide), ← il]
        refine List.countP_congr fun i hi => ?_
        rw [e1 i (List.mem_range.mp hi), List.all_cons]
        simp
    have f3 : (List.range r.size).countP (fun i => (pOf (.nod l r) f (f + (l.size + 1 + i))).all fun z => z.2 == b) = if b = true then edgeN b r else 0 := by
      cases b with
      | false =>
        refine List.countP_eq_zero.mpr fun i hi => ?_
        rw [e3 i]
        intro z
        simp at z
      | true =>
        rw [if_pos rfl, ← ir]
        refine List.countP_congr fun i hi => ?_
        rw [e3 i, List.all_cons]
        simp
    rw [f1, f3]
    show _ = 1 + if b = true then edgeN b r else edgeN b l
    cases b
    · simp
      omega
    · simp
theorem path_root (l r : Tr) (i : Nat) (hi : i < (Tr.nod l r).size) : pOf (.nod l r) 0 i = [] ↔ i = l.size := by
  rw [pOf_nod]
  by_cases c : i = 0 + l.size
  · rw [if_pos c]
    exact ⟨fun _ => by omega, fun _ => rfl⟩
  · rw [if_neg c]
    split
    · exact ⟨fun z => (nomatch z), fun z => by omega⟩
    · exact ⟨fun z => (nomatch z), fun z => by omega⟩
theorem any_all {p : List (Nat × Bool)} : (p.any (·.2) = true ∧ ¬ p.any (fun z => !z.2) = true) ↔ p ≠ [] ∧ p.all (fun z => z.2 == true) = true := by
  induction p with
  | nil => exact ⟨fun h => (by cases h.1), fun h => absurd rfl h.1⟩
  | cons z r ih =>
    obtain ⟨n, b⟩ := z
    cases b <;> simp
theorem all_any {p : List (Nat × Bool)} : (¬ p.any (·.2) = true ∧ p.any (fun z => !z.2) = true) ↔ p ≠ [] ∧ p.all (fun z => z.2 == false) = true := by
  induction p with
  | nil => exact ⟨fun h => (by cases h.2), fun h => absurd rfl h.1⟩
  | cons z r ih =>
    obtain ⟨n, b⟩ := z
    cases b <;> simp
theorem count_but {q : Nat → Bool} {a : Nat} : ∀ {l : List Nat}, l.Nodup → a ∈ l → q a = true → l.countP q = l.countP (fun i => q i && decide (i ≠ a)) + 1
  | x :: r, nd, h, qa => by
    obtain ⟨nx, nd⟩ := List.nodup_cons.mp nd
    rw [List.countP_cons, List.countP_cons]
    by_cases c : x = a
    · subst c
      have e : r.countP q = r.countP fun i => q i && decide (i ≠ x) := List.countP_congr fun i hi => by
        rw [Bool.and_eq_true, decide_eq_true_iff]
        exact ⟨fun h => ⟨h, fun z => nx (z ▸ hi)⟩, fun h => h.1⟩
      rw [if_pos qa, if_neg (by rw [decide_eq_false (show ¬ x ≠ x from fun z => z rfl), Bool.and_false]; decide), e]
    · have ih := count_but nd ((List.mem_cons.mp h).resolve_left fun z => c z.symm) qa
      rw [ih, decide_eq_true c, Bool.and_true]
      split <;> omega
section
variable (c : Int) (l r : Tr)
theorem const_found {i : Nat} (hi : i < (Tr.nod l r).size) : labAt (fun _ => c) (.nod l r) i = .found ↔ i = l.size := by
  rw [lab_const, ← path_root l r i hi]
  generalize pOf (.nod l r) 0 i = p
  cases p with
  | nil => exact ⟨fun _ => rfl, fun _ => rfl⟩
  | cons z q =>
    obtain ⟨n, b⟩ := z
    refine ⟨fun h => ?_, fun h => nomatch h⟩
    cases b
    · rw [show ((n, false) :: q).any (fun z => !z.2) = true from rfl] at h
      split at h <;> simp at h
    · rw [show ((n, true) :: q).any (·.2) = true from rfl] at h
      rw [if_pos rfl] at h
      split at h <;> cases h
theorem const_low (i : Nat) : labAt (fun _ => c) (.nod l r) i = .low ↔ pOf (.nod l r) 0 i ≠ [] ∧ (pOf (.nod l r) 0 i).all (fun z => z.2 == true) = true := by
  rw [← any_all, lab_const]
  split <;> split <;> simp_all
theorem const_high (i : Nat) : labAt (fun _ => c) (.nod l r) i = .high ↔ pOf (.nod l r) 0 i ≠ [] ∧ (pOf (.nod l r) 0 i).all (fun z => z.2 == false) = true := by
  rw [← all_any, lab_const]
  split <;> split <;> simp_all
theorem const_count (b : Bool) (lb : Lb) (h : ∀ i, labAt (fun _ => c) (.nod l r) i = lb ↔ pOf (.nod l r) 0 i ≠ [] ∧ (pOf (.nod l r) 0 i).all (fun z => z.2 == b) = true) : (List.range (Tr.nod l r).size).countP (fun i => decide (labAt (fun _ => c) (.nod l r) i = lb)) = edgeN b (.nod l r) - 1 := by
  have hs : (Tr.nod l r).size = l.size + 1 + r.size := rfl
  have ce := count_edge b (.nod l r) 0
  have hr : pOf (.nod l r) 0 l.size = [] := (path_root l r l.size (by omega)).mpr rfl
  rw [List.countP_congr (q := fun i => (pOf (.nod l r) 0 i).all fun z => z.2 == b) fun i _ => by rw [Nat.zero_add], count_but List.nodup_range (List.mem_range.mpr (by omega : l.size < _)) (by rw [hr]; rfl)] at ce
  rw [← ce, Nat.add_sub_cancel]
  refine List.countP_congr fun i hi => ?_
  rw [decide_eq_true_iff, h i, Bool.and_eq_true, decide_eq_true_iff, And.comm]
  refine and_congr_right fun _ => not_congr ?_
  exact path_root l r i (List.mem_range.mp hi)
theorem const_steps : ∀ k, k ≤ (Tr.nod l r).size → stepsK (labAt (fun _ => c) (.nod l r)) (.nod l r) k = if l.size < k then (.F, l.size) :: insideK (labAt (fun _ => c) (.nod l r)) (.nod l r) l.size else []
  | 0, _ => rfl
  | k + 1, hk => by
    rw [stepsK_succ, const_steps k (by omega)]
    unfold blkK
    by_cases d : k = l.size
    · rw [if_pos ((const_found c l r (by omega)).mpr d), if_neg (by omega), if_pos (by omega), d]
      rfl
    · rw [if_neg (fun z => d ((const_found c l r (by omega)).mp z)), List.append_nil]
      by_cases f : l.size < k
      · rw [if_pos f, if_pos (by omega)]
      · rw [if_neg f, if_neg (by omega)]
theorem nL_rev (m : List (Kd × Nat)) : nL m.reverse = nL m := List.countP_reverse
theorem nH_rev (m : List (Kd × Nat)) : nH m.reverse = nH m := List.countP_reverse
theorem const_inside : nL (insideK (labAt (fun _ => c) (.nod l r)) (.nod l r) l.size) = edgeN true (.nod l r) - 1 ∧ nH (insideK (labAt (fun _ => c) (.nod l r)) (.nod l r) l.size) = edgeN false (.nod l r) - 1 := by
  have po : PossL (labAt (fun _ => c) (.nod l r)) (.nod l r) := fun n hn => labs_poss _ _ hn
  have bd : ∀ {i o d}, i < (Tr.nod l r).size → boundOf (lbStr (labAt (fun _ => c) (.nod l r))) d (pOf (.nod l r) 0 i) none = some o → o = l.size := fun {i o d} hi e => by
    obtain ⟨h1, h2⟩ := bound_lt hi e
    exact (const_found c l r h1).mp h2
  constructor
  · rw [← const_count c l r true .low (const_low c l r)]
    unfold nL insideK
    rw [List.countP_filterMap]
    refine List.countP_congr fun i hi => ?_
    have hi := List.mem_range.mp hi
    rw [decide_eq_true_iff]
    unfold nodeK
    constructor
    · intro h
      split at h
      · rename_i e
        exact e.1
      · split at h <;> simp at h
    · intro e
      obtain ⟨o, eo⟩ := poss_low po hi e
      rw [if_pos ⟨e, by rw [eo, bd hi eo]⟩]
      rfl
  · rw [← const_count c l r false .high (const_high c l r)]
    unfold nH insideK
    rw [List.countP_filterMap]
    refine List.countP_congr fun i hi => ?_
    have hi := List.mem_range.mp hi
    rw [decide_eq_true_iff]
    unfold nodeK
    constructor
    · intro h
      split at h
      · simp at h
      · split at h
        · rename_i e
          exact e.1
        · simp at h
    · intro e
      obtain ⟨o, eo⟩ := poss_high po hi e
      rw [if_neg (fun z => by rw [e] at z; cases z.1), if_pos ⟨e, by rw [eo, bd hi eo]⟩]
      rfl
end
theorem block_count (c : Int) {t : Tr} (hn : 0 < t.size) : cLab t (labSS (fun _ => c) t) * fct (edgeN true t - 1 + (edgeN false t - 1) + 1) = fct (edgeN true t - 1) * fct (edgeN false t - 1) * fct t.size := by
  cases t with
  | nil => cases hn
  | nod l r =>
    have hs : (Tr.nod l r).size = l.size + 1 + r.size := rfl
    have po : PossL (labAt (fun _ => c) (.nod l r)) (.nod l r) := fun n hn => labs_poss _ _ hn
    rw [cLab_g, orders_labs, count_steps po]
    have few := steps_few po
    have st := const_steps c l r (Tr.nod l r).size (Nat.le_refl _)
    rw [if_pos (by omega)] at st
    obtain ⟨c1, c2⟩ := const_inside c l r
    have nf : ∀ x, x ∈ (insideK (labAt (fun _ => c) (.nod l r)) (.nod l r) l.size).reverse → x.1 ≠ .F := fun x hx => inside_notF (List.mem_reverse.mp hx)
    obtain ⟨wb, ln⟩ := ways_block l.size _ nf
    rw [nL_rev, nH_rev, c1, c2] at wb
    rw [nL_rev, nH_rev, c1, c2, List.length_reverse] at ln
    rw [st, List.length_cons] at few
    rw [st, List.reverse_cons, wb.sum (by omega), List.length_cons, ln]
    rw [ln] at few
    have pf := places_fct ((Tr.nod l r).size - (edgeN true (.nod l r) - 1 + (edgeN false (.nod l r) - 1) + 1)) (edgeN true (.nod l r) - 1 + (edgeN false (.nod l r) - 1) + 1)
    rw [show edgeN true (.nod l r) - 1 + (edgeN false (.nod l r) - 1) + 1 + ((Tr.nod l r).size - (edgeN true (.nod l r) - 1 + (edgeN false (.nod l r) - 1) + 1)) = (Tr.nod l r).size by omega] at pf
    rw [Nat.mul_assoc, pf]
end HSP
namespace HSP
open PySem PySem.Spec PyProof.Rows L2
/-! ## all found -/
theorem all_F : ∀ (l : List Nat), One (waysS (l.map fun i => (Kd.F, i))) (l.length + 1) l.length 1
  | [] => ⟨rfl, fun i hi => by
    have hi : i < 1 := hi
    have : i = 0 := by omega
    rw [this]
    rfl⟩
  | _ :: r => (all_F r).F
theorem poss_found (t : Tr) : PossL (fun _ => Lb.found) t := fun n hn => by
  have k : ∀ p : List (Nat × Bool), killerOf (lbStr fun _ => Lb.found) p = none := fun p => by
    induction p with
    | nil => rfl
    | cons z r ih =>
      obtain ⟨m, b⟩ := z
      show (if kills (Lb.found).str b = true then some m else killerOf _ r) = none
      rw [kills_lb, ih]
      cases b <;> rfl
  unfold possAt
  rw [k, if_neg (by decide), if_neg (show ¬ lbStr (fun _ => Lb.found) n = ("low" : Str) from (show ¬ (Lb.found).str = ("low" : Str) by decide +kernel)), if_neg (show ¬ lbStr (fun _ => Lb.found) n = ("high" : Str) from (show ¬ (Lb.found).str = ("high" : Str) by decide +kernel))]
  exact decide_eq_true rfl
theorem steps_found (t : Tr) : ∀ k, stepsK (fun _ => Lb.found) t k = (List.range k).map fun i => (Kd.F, i)
  | 0 => rfl
  | k + 1 => by
    rw [stepsK_succ, steps_found t k, List.range_succ, List.map_append]
    congr 1
    have e : insideK (fun _ => Lb.found) t k = [] := by
      refine List.eq_nil_iff_forall_not_mem.mpr fun c hc => ?_
      rcases (inside_mem.mp hc).2 with h | h <;> exact absurd h.2.1 (by decide)
    unfold blkK
    rw [if_pos rfl, e]
    rfl
theorem all_found (t : Tr) : cLab t (List.replicate t.size "found") = 1 := by
  have po := poss_found t
  have e : List.replicate t.size ("found" : Str) = (List.range t.size).map fun _ => (Lb.found).str := by
    rw [List.map_const', List.length_range]
    rfl
  have ct := count_steps po
  rw [steps_found, List.length_map, List.length_range, Nat.sub_self] at ct
  rw [← List.map_reverse, (all_F _).sum (by omega)] at ct
  unfold cLab
  rw [e]
  refine (List.countP_congr fun o _ => ?_).trans ct
  rw [decide_eq_true_iff, List.all_eq_true]
  unfold labSS
  rw [List.map_inj_left]
  exact ⟨fun h i hi => decide_eq_true ((str_found _).mp (h i hi)), fun h i hi => by rw [of_decide_eq_true (h i hi)]⟩
/-! ## turned about -/
def swapB : Lb → Lb
  | .low => .high
  | .high => .low
  | b => b
theorem pOf_mir : ∀ (t : Tr) (f i N : Nat), f ≤ i → i < f + t.size → f + t.size ≤ N → pOf (mir t) (N - f - t.size) (N - 1 - i) = (pOf t f i).map fun z => (N - 1 - z.1, !z.2)
  | .nil, f, i, N, h1, h2, _ => by
    have : i < f + 0 := h2
    omega
  | .nod l r, f, i, N, h1, h2, h3 => by
    have hs : (Tr.nod l r).size = l.size + 1 + r.size := rfl
    have hm : (mir r).size = r.size := mir_size r
    rw [hs] at h2 h3
    show pOf (.nod (mir r) (mir l)) _ _ = _
    rw [pOf_nod, pOf_nod, hm, hs]
    by_cases c : i = f + l.size
    · rw [if_pos c, if_pos (by omega)]
      rfl
    rw [if_neg c, if_neg (by omega)]
    by_cases d : i < f + l.size
    · rw [if_pos d, if_neg (by omega), List.map_cons]
      congr 1
      · show (_, true) = (_, true)
        congr 1
        omega
      · have ih := pOf_mir l f i N h1 d (by omega)
        rw [← ih]
        congr 1
        omega
    · rw [if_neg d, if_pos (by omega), List.map_cons]
      congr 1
      · show (_, false) = (_, false)
        congr 1
        omega
      · have ih := pOf_mir r (f + l.size + 1) i N (by omega) (by omega) (by omega)
        rw [← ih]
        congr 1
        omega
section
variable {g g' : Nat → Int} {N : Nat} (h : ∀ j, j < N → g' (N - 1 - j) = - g j)
include h
theorem low_mir : ∀ p : List (Nat × Bool), (∀ z, z ∈ p → z.1 < N) → lowOf g' (p.map fun z => (N - 1 - z.1, !z.2)) = (highOf g p).map (- ·)
  | [], _ => rfl
  | (n, true) :: r, hp => low_mir r fun z hz => hp z (List.mem_cons_of_mem _ hz)
  | (n, false) :: r, hp => by
    have ih := low_mir r fun z hz => hp z (List.mem_cons_of_mem _ hz)
    have e := h n (hp _ List.mem_cons_self)
    show (match lowOf g' (r.map fun z => (N - 1 - z.1, !z.2)) with | none => some (g' (N - 1 - n)) | some m => some (max (g' (N - 1 - n)) m)) = (match highOf g r with | none => some (g n) | some m => some (min (g n) m)).map (- ·)
    rw [ih, e]
    cases highOf g r with
    | none => rfl
    | some m => exact congrArg some (show max (- g n) (- m) = - min (g n) m by omega)
theorem high_mir : ∀ p : List (Nat × Bool), (∀ z, z ∈ p → z.1 < N) → highOf g' (p.map fun z => (N - 1 - z.1, !z.2)) = (lowOf g p).map (- ·)
  | [], _ => rfl
  | (n, false) :: r, hp => high_mir r fun z hz => hp z (List.mem_cons_of_mem _ hz)
  | (n, true) :: r, hp => by
    have ih := high_mir r fun z hz => hp z (List.mem_cons_of_mem _ hz)
    have e := h n (hp _ List.mem_cons_self)
    show (match highOf g' (r.map fun z => (N - 1 - z.1, !z.2)) with | none => some (g' (N - 1 - n)) | some m => some (min (g' (N - 1 - n)) m)) = (match lowOf g r with | none => some (g n) | some m => some (max (g n) m)).map (- ·)
    rw [ih, e]
    cases lowOf g r with
    | none => rfl
    | some m => exact congrArg some (show min (- g n) (- m) = - max (g n) m by omega)
end
theorem lab_mir {g g' : Nat → Int} {t : Tr} (h : ∀ j, j < t.size → g' (t.size - 1 - j) = - g j) {i : Nat} (hi : i < t.size) : labAt g' (mir t) (t.size - 1 - i) = swapB (labAt g t i) := by
  have hp : ∀ z, z ∈ pOf t 0 i → z.1 < t.size := fun z hz => by have h3 : z.1 < 0 + t.size := (pOf_in t 0 i _ hz).2; omega
  have pe := pOf_mir t 0 i t.size (Nat.zero_le _) (by omega) (by omega)
  rw [show t.size - 0 - t.size = 0 by omega] at pe
  show lbOf (bndOf g' (pOf (mir t) 0 (t.size - 1 - i))) (g' (t.size - 1 - i)) = swapB (lbOf (bndOf g (pOf t 0 i)) (g i))
  rw [pe, h i hi]
  unfold bndOf
  rw [low_mir h _ hp, high_mir h _ hp]
  generalize g i = v
  cases lowOf g (pOf t 0 i) with
  | none => cases highOf g (pOf t 0 i) with
    | none => rfl
    | some b =>
      show (if - v ≤ - b then Lb.low else .found) = swapB (if v ≥ b then .high else .found)
      by_cases c : v ≥ b
      · rw [if_pos c, if_pos (by omega)]; rfl
      · rw [if_neg c, if_neg (by omega)]; rfl
  | some a => cases highOf g (pOf t 0 i) with
    | none =>
      show (if - v ≥ - a then Lb.high else .found) = swapB (if v ≤ a then .low else .found)
      by_cases c : v ≤ a
      · rw [if_pos c, if_pos (by omega)]; rfl
      · rw [if_neg c, if_neg (by omega)]; rfl
    | some b =>
      show lbOf (if - b ≥ - a then none else some (some (- b), some (- a))) (- v) = swapB (lbOf (if a ≥ b then none else some (some a, some b)) v)
      by_cases c : a ≥ b
      · rw [if_pos c, if_pos (by omega)]; rfl
      · rw [if_neg c, if_neg (by omega)]
        show (if - v ≤ - b then Lb.low else if - v ≥ - a then .high else .found) = swapB (if v ≤ a then .low else if v ≥ b then .high else .found)
        by_cases d : v ≤ a
        · rw [if_pos d, if_neg (by omega), if_pos (by omega)]; rfl
        · rw [if_neg d]
          by_cases e : v ≥ b
          · rw [if_pos e, if_pos (by omega)]; rfl
          · rw [if_neg e, if_neg (by omega), if_neg (by omega)]; rfl
/-- an order turned about -/
def mirO (n : Nat) (o : List Nat) : List Nat := (o.map fun x => n - 1 - x).reverse
theorem mirO_inv {n : Nat} {o : List Nat} (b : ∀ x, x ∈ o → x < n) : mirO n (mirO n o) = o := by
  unfold mirO
  rw [List.map_reverse, List.reverse_reverse, List.map_map]
  conv => rhs; rw [← List.map_id o]
  refine List.map_congr_left fun x hx => ?_
  have := b x hx
  show n - 1 - (n - 1 - x) = x
  omega
theorem mirO_mem {n : Nat} {o : List Nat} (h : o ∈ ordersOf n n) : mirO n o ∈ ordersOf n n := by
  obtain ⟨l, nd, b⟩ := (ordersOf_mem n n o).mp h
  refine (ordersOf_mem n n _).mpr ⟨by unfold mirO; rw [List.length_reverse, List.length_map, l], ?_, fun x hx => ?_⟩
  · unfold mirO
    refine List.pairwise_reverse.mpr (List.pairwise_map.mpr (nd.imp_of_mem fun {x y} hx hy ne e => ne ?_))
    have := b x hx
    have := b y hy
    omega
  · unfold mirO at hx
    obtain ⟨y, hy, rfl⟩ := List.mem_map.mp (List.mem_reverse.mp hx)
    have := b y hy
    omega
theorem orders_mir (n : Nat) : ((ordersOf n n).map (mirO n)).Perm (ordersOf n n) := by
  have bd : ∀ o, o ∈ ordersOf n n → ∀ x, x ∈ o → x < n := fun o h => ((ordersOf_mem n n o).mp h).2.2
  refine (List.perm_ext_iff_of_nodup ?_ (ordersOf_nodup n n)).mpr fun o => ?_
  · refine List.pairwise_map.mpr ((ordersOf_nodup n n).imp_of_mem fun {x y} hx hy ne e => ne ?_)
    rw [← mirO_inv (bd x hx), e, mirO_inv (bd y hy)]
  · rw [List.mem_map]
    exact ⟨fun ⟨p, hp, e⟩ => e ▸ mirO_mem hp, fun h => ⟨mirO n o, mirO_mem h, mirO_inv (bd o h)⟩⟩
theorem valN_mir {n : Nat} {o : List Nat} (h : o ∈ ordersOf n n) {j : Nat} (hj : j < n) : valN (mirO n o) (n - 1 - j) = ((n : Int) - 1) - valN o j := by
  obtain ⟨l, _, b⟩ := (ordersOf_mem n n o).mp h
  have hx := b _ (List.getElem_mem (show j < o.length by omega))
  unfold valN mirO
  rw [List.getD_eq_getElem?_getD, List.getElem?_reverse (by rw [List.length_map]; omega), List.length_map, l, show n - 1 - (n - 1 - j) = j by omega, List.getElem?_map, List.getD_eq_getElem?_getD, List.getElem?_eq_getElem (by omega)]
  show ((n - 1 - o[j] : Nat) : Int) = (n : Int) - 1 - ((o[j] : Nat) : Int)
  omega
def swapL (ls : List Lb) : List Lb := ls.reverse.map swapB
theorem lab_mirO {t : Tr} {o : List Nat} (h : o ∈ ordersOf t.size t.size) {i : Nat} (hi : i < t.size) : labAt (valN (mirO t.size o)) (mir t) (t.size - 1 - i) = swapB (labAt (valN o) t i) := by
  rw [← lab_mir (g := valN o) (g' := fun j => valN (mirO t.size o) j - ((t.size : Int) - 1)) (fun j hj => by
    show valN (mirO t.size o) (t.size - 1 - j) - _ = _
    rw [valN_mir h hj]
    omega) hi]
  refine lab_cmp (fun a b ha hb => ?_) (by rw [mir_size]; omega)
  show _ ↔ valN (mirO t.size o) a - _ < valN (mirO t.size o) b - _
  omega
/-- labels turned about, high and low exchanged -/
def backOf (g : Nat → Int) (t : Tr) : List Str := (List.range t.size).map fun i => (swapB (labAt g t (t.size - 1 - i))).str
theorem swapB_inj {a b : Lb} (h : swapB a = swapB b) : a = b := by
  cases a <;> cases b <;> first | rfl | cases h
theorem cLab_mir (g : Nat → Int) (t : Tr) : cLab (mir t) (backOf g t) = cLab t (labSS g t) := by
  unfold cLab
  rw [mir_size, ← (orders_mir t.size).countP_eq, List.countP_map]
  refine List.countP_congr fun o ho => ?_
  show decide (labSS (valN (mirO t.size o)) (mir t) = backOf g t) = true ↔ _
  rw [decide_eq_true_iff, decide_eq_true_iff, labSS_iff]
  unfold labSS backOf
  rw [mir_size, List.map_inj_left]
  constructor
  · intro h i hi
    have e := h (t.size - 1 - i) (List.mem_range.mpr (by omega))
    rw [lab_mirO ho hi, show t.size - 1 - (t.size - 1 - i) = i by omega, ← lbS_str (swapB (labAt (valN o) t i)), ← lbS_str (swapB (labAt g t i))] at e
    have e2 := congrArg lbS e
    rw [lbS_str, lbS_str, lbS_str, lbS_str] at e2
    exact swapB_inj e2
  · intro h i hi
    have hi := List.mem_range.mp hi
    have e := lab_mirO ho (i := t.size - 1 - i) (by omega)
    rw [show t.size - 1 - (t.size - 1 - i) = i by omega] at e
    rw [e, h _ (by omega)]
/-! ## there is an order -/
def rankN (g : Nat → Int) (n i : Nat) : Nat := (List.range n).countP fun j => decide (g j < g i)
theorem rank_lt {g : Nat → Int} {n a b : Nat} (ha : a < n) (h : g a < g b) : rankN g n a < rankN g n b := by
  unfold rankN
  have e : (List.range n).countP (fun j => decide (g j < g b)) = (List.range n).countP (fun j => decide (g j < g b) && decide (j ≠ a)) + 1 := count_but List.nodup_range (List.mem_range.mpr ha) (decide_eq_true h)
  rw [e]
  refine Nat.lt_succ_of_le (List.countP_mono_left fun j _ hj => ?_)
  have hj := of_decide_eq_true hj
  rw [Bool.and_eq_true, decide_eq_true_iff, decide_eq_true_iff]
  exact ⟨by omega, fun z => by rw [z] at hj; omega⟩
theorem rank_le {g : Nat → Int} {n i : Nat} (hi : i < n) : rankN g n i < n := by
  unfold rankN
  have e : (List.range n).countP (fun _ => true) = (List.range n).countP (fun j => true && decide (j ≠ i)) + 1 := count_but List.nodup_range (List.mem_range.mpr hi) rfl
  rw [List.countP_eq_length.mpr fun _ _ => rfl, List.length_range] at e
  have : (List.range n).countP (fun j => decide (g j < g i)) ≤ (List.range n).countP (fun j => true && decide (j ≠ i)) := List.countP_mono_left fun j _ hj => by
    have hj := of_decide_eq_true hj
    rw [Bool.true_and, decide_eq_true_iff]
    exact fun z => by rw [z] at hj; omega
  omega
/-- the order of a list without equal values -/
def ordOf (g : Nat → Int) (n : Nat) : List Nat := (List.range n).map (rankN g n)
theorem ordOf_mem {g : Nat → Int} {n : Nat} (inj : ∀ a b, a < n → b < n → g a = g b → a = b) : ordOf g n ∈ ordersOf n n := by
  refine (ordersOf_mem n n _).mpr ⟨by unfold ordOf; rw [List.length_map, List.length_range], ?_, fun x hx => ?_⟩
  · refine List.pairwise_map.mpr (List.nodup_range.imp_of_mem fun {a b} ha hb ne e => ne ?_)
    have ha := List.mem_range.mp ha
    have hb := List.mem_range.mp hb
    refine inj a b ha hb ?_
    rcases Int.lt_trichotomy (g a) (g b) with c | c | c
    · have := rank_lt ha c; omega
    · exact c
    · have := rank_lt hb c; omega
  · obtain ⟨i, hi, rfl⟩ := List.mem_map.mp hx
    exact rank_le (List.mem_range.mp hi)
theorem ordOf_val {g : Nat → Int} {n i : Nat} (hi : i < n) : valN (ordOf g n) i = ((rankN g n i : Nat) : Int) := by
  unfold valN ordOf
  rw [List.getD_eq_getElem?_getD, List.getElem?_map, List.getElem?_range hi]
  rfl
theorem ordOf_lab {g : Nat → Int} {t : Tr} (inj : ∀ a b, a < t.size → b < t.size → g a = g b → a = b) {i : Nat} (hi : i < t.size) : labAt (valN (ordOf g t.size)) t i = labAt g t i := by
  refine lab_cmp (fun a b ha hb => ?_) hi
  rw [ordOf_val ha, ordOf_val hb]
  constructor
  · intro h
    rcases Int.lt_trichotomy (g a) (g b) with c | c | c
    · exact c
    · rw [inj a b ha hb c] at h; omega
    · have := rank_lt hb c; omega
  · intro h
    have := rank_lt ha h
    omega
theorem keepV_inj (lab : Nat → Lb) {n a b : Nat} (ha : a < n) (hb : b < n) (h : keepV lab n a = keepV lab n b) : a = b := by
  unfold keepV at h
  cases ea : lab a <;> cases eb : lab b <;> rw [ea, eb] at h <;> dsimp only at h <;> omega
theorem cLab_pos (g : Nat → Int) (t : Tr) : 0 < cLab t (labSS g t) := by
  have po : PossL (labAt g t) t := fun n hn => labs_poss g t hn
  unfold cLab
  refine List.countP_pos_iff.mpr ⟨ordOf (keepV (labAt g t) t.size) t.size, ordOf_mem fun a b ha hb => keepV_inj _ ha hb, decide_eq_true ?_⟩
  refine labSS_iff.mpr fun i hi => ?_
  rw [ordOf_lab (fun a b ha hb => keepV_inj _ ha hb) hi]
  exact keeps_labs po (keepV_keeps _ t) _ i (Nat.lt_succ_self _) hi
/-! ## one label changed, dead or not -/
theorem dead_iff {g g' : Nat → Int} {t : Tr} {a : Nat} (ha : a < t.size) (e : ∀ i, i < t.size → i ≠ a → labAt g t i = labAt g' t i) : labAt g t a = .dead ↔ labAt g' t a = .dead := by
  have side := pOf_side t 0 a (Nat.zero_le _) (by omega)
  have ks : killerOf (lbStr (labAt g t)) (pOf t 0 a) = killerOf (lbStr (labAt g' t)) (pOf t 0 a) := killer_same fun y hy => by
    show (labAt g t y.1).str = (labAt g' t y.1).str
    rw [e y.1 (by have h3 : y.1 < 0 + t.size := (pOf_in t 0 a _ hy).2; omega) (side y hy).2]
  have key : ∀ g : Nat → Int, labAt g t a = .dead ↔ (killerOf (lbStr (labAt g t)) (pOf t 0 a)).isSome = true := fun g => by
    have p := labs_poss g t ha
    unfold possAt at p
    constructor
    · intro h
      by_cases c : (killerOf (lbStr (labAt g t)) (pOf t 0 a)).isSome = true
      · exact c
      · have el : lbStr (labAt g t) a = ("dead" : Str) := (str_dead _).mpr h
        rw [if_neg c, el, if_neg (by decide +kernel), if_neg (by decide +kernel)] at p
        exact absurd p (by decide +kernel)
    · intro c
      rw [if_pos c] at p
      exact (str_dead _).mp (of_decide_eq_true p)
  rw [key g, key g', ks]
theorem cLab_dead {g : Nat → Int} {t : Tr} {a : Nat} (ha : a < t.size) {ls : List Str} (l : ls.length = t.size) (e : ∀ i, i < t.size → i ≠ a → strAt ls i = (labAt g t i).str) (ne : (strAt ls a = ("dead" : Str)) ↔ ¬ labAt g t a = .dead) : cLab t ls = 0 := by
  refine List.countP_eq_zero.mpr fun o _ h => ?_
  have h := of_decide_eq_true h
  have es : ∀ i, i < t.size → strAt ls i = (labAt (valN o) t i).str := fun i hi => by rw [← h, labSS_at _ _ hi]
  have eo : ∀ i, i < t.size → i ≠ a → labAt (valN o) t i = labAt g t i := fun i hi hia => by
    have := (es i hi).symm.trans (e i hi hia)
    rw [← lbS_str (labAt (valN o) t i), this, lbS_str]
  have d := dead_iff ha eo
  rw [es a ha, str_dead, d] at ne
  by_cases c : labAt g t a = .dead
  · exact ne.mp c c
  · exact c (ne.mpr c)
end HSP
namespace HSP
open PySem PySem.Spec PyProof.Rows L2
/-! ## numbers put down by their label, then by their node -/
def keyL (lab : Nat → Lb) (n i : Nat) : Int := match lab i with
  | .low => (i : Int)
  | .found => (i : Int) + n
  | .dead => (i : Int) + 2 * n
  | .high => (i : Int) + 3 * n
theorem keyL_keeps (lab : Nat → Lb) (t : Tr) : Keeps lab t (keyL lab t.size) := by
  have fd : ∀ i, lab i = .found → keyL lab t.size i = (i : Int) + t.size := fun i e => by unfold keyL; rw [e]
  refine ⟨fun a b ab _ fa fb => by rw [fd a fa, fd b fb]; omega, fun n o hn l e => ?_, fun n o hn l e => ?_⟩
  · obtain ⟨h1, h2⟩ := bound_lt hn e
    rw [fd o h2]
    unfold keyL
    rw [l]
    show (n : Int) < (o : Int) + (t.size : Int)
    omega
  · obtain ⟨h1, h2⟩ := bound_lt hn e
    rw [fd o h2]
    unfold keyL
    rw [l]
    show (o : Int) + (t.size : Int) < (n : Int) + 3 * (t.size : Int)
    omega
theorem keyL_inj (lab : Nat → Lb) {n a b : Nat} (ha : a < n) (hb : b < n) (h : keyL lab n a = keyL lab n b) : a = b := by
  unfold keyL at h
  cases ea : lab a <;> cases eb : lab b <;> rw [ea, eb] at h <;> dsimp only at h <;> omega
/-- what list_for gives -/
def placeN (lab : Nat → Lb) (n i : Nat) : Nat := rankN (keyL lab n) n i
theorem place_labs {g : Nat → Int} {t : Tr} {i : Nat} (hi : i < t.size) : labAt (valN (ordOf (keyL (labAt g t) t.size) t.size)) t i = labAt g t i := by
  rw [ordOf_lab (fun a b ha hb => keyL_inj _ ha hb) hi]
  exact keeps_labs (fun n hn => labs_poss g t hn) (keyL_keeps _ t) _ i (Nat.lt_succ_self _) hi
def clsN : Lb → Nat
  | .low => 0
  | .found => 1
  | .dead => 2
  | .high => 3
/-- what is put down when class c has come to node m -/
def doneB (lab : Nat → Lb) (c m i : Nat) : Bool := decide (clsN (lab i) < c ∨ (clsN (lab i) = c ∧ i < m))
theorem key_done (lab : Nat → Lb) {n m : Nat} (hm : m < n) : placeN lab n m = (List.range n).countP (doneB lab (clsN (lab m)) m) := by
  unfold placeN rankN
  refine List.countP_congr fun j hj => ?_
  have hj := List.mem_range.mp hj
  unfold doneB
  rw [decide_eq_true_iff, decide_eq_true_iff]
  unfold keyL
  cases ej : lab j <;> cases em : lab m <;> dsimp only [clsN] <;> omega
theorem done_next (lab : Nat → Lb) {c m i : Nat} : doneB lab c (m + 1) i = (doneB lab c m i || (decide (i = m) && decide (clsN (lab i) = c))) := by
  unfold doneB
  rw [Bool.eq_iff_iff, Bool.or_eq_true, Bool.and_eq_true, decide_eq_true_iff, decide_eq_true_iff, decide_eq_true_iff, decide_eq_true_iff]
  constructor
  · rintro (h | ⟨h1, h2⟩)
    · exact .inl (.inl h)
    · by_cases e : i = m
      · exact .inr ⟨e, h1⟩
      · exact .inl (.inr ⟨h1, by omega⟩)
  · rintro ((h | ⟨h1, h2⟩) | ⟨h1, h2⟩)
    · exact .inl h
    · exact .inr ⟨h1, by omega⟩
    · exact .inr ⟨h2, by omega⟩
theorem done_cls (lab : Nat → Lb) {c n i : Nat} (hi : i < n) : doneB lab c n i = doneB lab (c + 1) 0 i := by
  unfold doneB
  rw [decide_eq_decide]
  omega
theorem done_all (lab : Nat → Lb) (i : Nat) : doneB lab 4 0 i = true := by
  unfold doneB
  refine decide_eq_true (.inl ?_)
  cases lab i <;> decide
theorem done_none (lab : Nat → Lb) (i : Nat) : doneB lab 0 0 i = false := by
  unfold doneB
  refine decide_eq_false fun h => ?_
  omega
/-- the list when class c has come to node m -/
def heldL (lab : Nat → Lb) (n c m : Nat) : List V := (List.range n).map fun i => if doneB lab c m i = true then natV (placeN lab n i) else V.int 0
theorem held_cls (lab : Nat → Lb) (n c : Nat) : heldL lab n c n = heldL lab n (c + 1) 0 := List.map_congr_left fun i hi => by rw [done_cls lab (List.mem_range.mp hi)]
theorem held_skip (lab : Nat → Lb) {n c m : Nat} (h : clsN (lab m) ≠ c) : heldL lab n c (m + 1) = heldL lab n c m := List.map_congr_left fun i _ => by
  rw [done_next]
  by_cases e : i = m
  · rw [e, decide_eq_false h, Bool.and_false, Bool.or_false]
  · rw [decide_eq_false e, Bool.false_and, Bool.or_false]
theorem held_put (lab : Nat → Lb) {n c m : Nat} (hm : m < n) (h : clsN (lab m) = c) : heldL lab n c (m + 1) = (heldL lab n c m).set m (natV (placeN lab n m)) := by
  unfold heldL
  refine List.ext_getElem? fun i => ?_
  rw [List.getElem?_set, List.getElem?_map, List.getElem?_map, List.length_map, List.length_range]
  by_cases hi : i < n
  · rw [List.getElem?_range hi, Option.map_some, Option.map_some, done_next]
    by_cases e : m = i
    · subst e
      rw [if_pos rfl, if_pos hm, decide_eq_true rfl, decide_eq_true h, Bool.and_true, Bool.or_true, if_pos rfl]
    · rw [if_neg e, decide_eq_false (fun z => e z.symm), Bool.false_and, Bool.or_false]
  · rw [List.getElem?_eq_none (by rw [List.length_range]; omega)]
    by_cases e : m = i
    · omega
    · rw [if_neg e]
      rfl
theorem held_len (lab : Nat → Lb) (n c m : Nat) : (heldL lab n c m).length = n := by unfold heldL; rw [List.length_map, List.length_range]
def cntD (lab : Nat → Lb) (n c m : Nat) : Nat := (List.range n).countP (doneB lab c m)
theorem cntD_cls (lab : Nat → Lb) (n c : Nat) : cntD lab n c n = cntD lab n (c + 1) 0 := List.countP_congr fun i hi => by rw [done_cls lab (List.mem_range.mp hi)]
theorem cntD_skip (lab : Nat → Lb) {n c m : Nat} (h : clsN (lab m) ≠ c) : cntD lab n c (m + 1) = cntD lab n c m := List.countP_congr fun i _ => by
  rw [done_next]
  by_cases e : i = m
  · rw [e, decide_eq_false h, Bool.and_false, Bool.or_false]
  · rw [decide_eq_false e, Bool.false_and, Bool.or_false]
theorem cntD_put (lab : Nat → Lb) {n c m : Nat} (hm : m < n) (h : clsN (lab m) = c) : cntD lab n c (m + 1) = cntD lab n c m + 1 := by
  unfold cntD
  rw [count_but List.nodup_range (List.mem_range.mpr hm) (show doneB lab c (m + 1) m = true by rw [done_next, decide_eq_true rfl, decide_eq_true h, Bool.and_true, Bool.or_true])]
  congr 1
  refine List.countP_congr fun i _ => ?_
  rw [done_next]
  by_cases e : i = m
  · subst e
    unfold doneB
    rw [decide_eq_false (show ¬ (clsN (lab i) < c ∨ clsN (lab i) = c ∧ i < i) by omega), decide_eq_false (show ¬ i ≠ i by omega), Bool.and_false]
  · rw [decide_eq_false e, Bool.false_and, Bool.or_false, decide_eq_true e, Bool.and_true]
theorem cntD_place (lab : Nat → Lb) {n c m : Nat} (hm : m < n) (h : clsN (lab m) = c) : cntD lab n c m = placeN lab n m := by
  rw [key_done lab hm, h]
  rfl
end HSP
namespace HSP
open PySem PySem.Spec PyProof.Rows L2
def lbOrd : List Lb := [.low, .found, .dead, .high]
section
variable {P : Program} {w : World} {K : PySem.W.Frag} {mg : Str → Option Value} {base : Heap}
/-! ### list_for -/
def spListFor : Sp := fun vs H Q _ => ∃ (v : V) (t : Tr) (p : Addr) (g : Nat → Int), vs = [v, .ref p] ∧ TrAt H v t ∧ t.size ≤ 300 ∧ H p = some (.lst (labsV g t t.size)) ∧ ∀ (H' : Hp) (q : Addr), Same H H' → H q = none → H' q = some (.lst ((List.range t.size).map fun i => natV (placeN (labAt g t) t.size i))) → Q (.ref q) H'
end
end HSP
namespace HSP
open PySem PySem.Spec PyProof.Rows L2
theorem own_count {g : Nat → Int} {t : Tr} {os : List Nat} (l : os.length = t.size) (O : ∀ n, n < t.size → Owns g t n (os.getD n 0)) {o : Nat} (h : o ∈ founds g t) : (os.map Int.ofNat).count ((o : Nat) : Int) = (repL g t).countP fun x => decide (x = g o) := by
  obtain ⟨h1, h2⟩ := isF_mem.mp h
  have key : ∀ (a : List Nat) (b : List Int), a.length = b.length → (∀ i x y, a[i]? = some x → b[i]? = some y → (x = o ↔ y = g o)) → (a.map Int.ofNat).count ((o : Nat) : Int) = b.countP fun x => decide (x = g o) := fun a => by
    induction a with
    | nil =>
      intro b lb _
      cases b with
      | nil => rfl
      | cons y r => cases lb
    | cons x a ih =>
      intro b lb hb
      cases b with
      | nil => cases lb
      | cons y b =>
        have ih := ih b (Nat.succ.inj lb) fun i x y hx hy => hb (i + 1) x y hx hy
        have h0 := hb 0 x y rfl rfl
        rw [List.map_cons, List.count_cons, List.countP_cons, ih]
        congr 1
        by_cases c : x = o
        · rw [if_pos (by rw [c]; simp), if_pos (decide_eq_true (h0.mp c))]
        · rw [if_neg (by
            intro z
            have := eq_of_beq z
            exact c (Int.ofNat.inj this)), if_neg (fun z => c (h0.mpr (of_decide_eq_true z)))]
  refine key os _ (by rw [l, repL_len]) fun i x y hx hy => ?_
  have hi : i < t.size := by
    have := (List.getElem?_eq_some_iff.mp hx).1
    omega
  have e1 : os.getD i 0 = x := by rw [List.getD_eq_getElem?_getD, hx]; rfl
  have e2 := repL_get (g := g) hi
  rw [hy] at e2
  have := owns_iff (O i hi) h1 h2
  rw [e1] at this
  rw [this, Option.some.inj e2]
  exact ⟨fun z => z.symm, fun z => z.symm⟩
section
variable {P : Program} {w : World} {K : PySem.W.Frag} {mg : Str → Option Value} {base : Heap}
theorem sc_blocks : FnScope n_blocks ["tree", "pattern"] (defScope s_blocks) := ⟨rfl, rfl, rfl, by decide +kernel, rfl, by decide +kernel, by decide +kernel⟩
def spBlocks : Sp := fun vs H Q _ => ∃ (v : V) (t : Tr) (p : Addr) (g : Nat → Int), vs = [v, .ref p] ∧ TrAt H v t ∧ t.size ≤ 300 ∧ H p = some (.lst (labsV g t t.size)) ∧ ∀ (H' : Hp) (q : Addr), Same H H' → H q = none → H' q = some (.lst ((blocksN g t).map natV)) → Q (.ref q) H'
theorem okB_blocks (B : Bl mg) (Cp : DfB P w K mg base "check_pattern" 4 ["tree", "pattern"] ["pattern", "tree"] spChkG) (Ow : Df P w K mg base "owners_of" 3 ["tree", "pattern"] spOwners) (a : At K mg "blocks" s_blocks) : DfB P w K mg base "blocks" 5 ["tree", "pattern"] ["pattern", "tree"] spBlocks := by
  refine DfB.mk' a sc_blocks (fun vs H Q E h => ?_) (fun _ _ _ _ _ _ us hl => match us, hl with | [_, _], _ => rfl) (fun _ _ _ _ _ _ us hl => match us, hl with | [_, _], _ => rfl) (fun f cdv A outer s H vs Q E hr h => ?_)
  · obtain ⟨_, _, _, _, rfl, _⟩ := h
    rfl
  obtain ⟨v, t, p, g, rfl, ht, hz, ep, q⟩ := h
  refine ⟨_, (pss_cons (ps_expr (pe_df Cp.df hr (pa_cons (pv 0) (pa_cons (pv 1) pa_nil))))
 (pss_cons (ps_set (i := 2) sc_blocks.nd rfl (.inr rfl) (pe_df Ow (hr.mono (by decide)) (pa_cons (pv 0) (pa_cons (pv 1) pa_nil))))
 (pss_one (ps_ret (pe_lc (own := [("node", 3), ("label", 4)]) (g := (gTup K 2 (gCons (gName 3) (gCons (gName 4) gNil)))) (by rfl) sc_blocks.nd (pi_enum (by rfl) B.enumerate (pa_cons (pv 1) pa_nil)) (blkOk_by (N := n_blocks) (sc := defScope s_blocks) (by decide +kernel)) (fun _ _ _ _ _ => (pg_tup rfl (pgs_cons (pg_name (i := 3) sc_blocks.nd rfl (.inl rfl)) (pgs_cons (pg_name (i := 4) sc_blocks.nd rfl (.inl rfl)) pgs_nil)))) (fun _ _ _ _ _ => (pts_one (pt_cmpR op_eq (pv 4) pe_str (nomark _)))) (fun _ _ _ _ _ => (show PE _ _ (tBM K "list" (rCntI K) (tVar 2) (tCons (tVar 3) tNil)) from pe_bm PySem.F.plainAttrs_list PySem.F.slot_list_count PySem.F.type_list_count mt_lcount (pv 2) (pa_cons (pv 3) pa_nil)))))))), ?_⟩
  have ep' := ep
  rw [labSS_V] at ep'
  have lbl : (labSS g t).length = t.size := by unfold labSS; rw [List.length_map, List.length_range]
  refine ⟨_, rfl, _, rfl, v, t, p, labSS g t, rfl, ht, hz, ep', labsS_ok g t, lbl, labSS_poss g t, fun H1 s1 => ?_⟩
  refine ⟨_, rfl, _, rfl, v, t, p, g, rfl, ht.same s1, hz, s1 _ _ ep, fun H2 qo os s2 n2 eo lo O => ?_⟩
  have s12 := s1.trans s2
  have ep2 := s12 _ _ ep
  have eo' : H2 qo = some (.lst ((os.map Int.ofNat).map V.int)) := by
    rw [eo, List.map_map]
    rfl
  refine ⟨_, rfl, p, _, rfl, .of ep2, fun D hD => ?_⟩
  refine lc_it (walk_enum (K := K) (a := p) (xs := labsV g t t.size)) (fun i H' => Same H2 H' ∧ H' D = some (.lst ((((List.range i).filter fun i => decide (labAt g t i = .found)).map fun o => (repL g t).countP fun x => decide (x = g o)).map natV))) ⟨Same.new hD, upd_same⟩ (fun i H3 _ h3 => .of (h3.1 _ _ ep2)) (fun i x H3 H4 hi h3 hy => ?_) (fun H3 h3 => ?_)
  · obtain ⟨s3, e3⟩ := h3
    obtain ⟨T, x1, x2, rfl, nT, rfl, g1, g2⟩ := hy
    rw [labsV_len] at hi
    cases (show some (V.int ((i : Nat) : Int)) = some x1 from g1)
    have g2 : (labsV g t t.size)[i]? = some x2 := g2
    unfold labsV at g2
    rw [List.getElem?_map, List.getElem?_range hi] at g2
    cases g2
    have sT := Same.new (o := .tup [V.int ((i : Nat) : Int), V.str (labAt g t i).str]) nT
    have eT : (upd H3 T (.tup [V.int ((i : Nat) : Int), V.str (labAt g t i).str])) T = some (.tup [V.int ((i : Nat) : Int), V.str (labAt g t i).str]) := upd_same
    have e4 := sT _ _ e3
    have eo4 := sT _ _ (s3 _ _ eo')
    have s4 := s3.trans sT
    generalize upd H3 T (.tup [V.int ((i : Nat) : Int), V.str (labAt g t i).str]) = H4 at e4 eo4 eT s4 ⊢
    refine ⟨T, _, rfl, .of eT, rfl, _, _, rfl, _, [], rfl, rfl, rfl, ?_⟩
    have ef : decide (V.str (labAt g t i).str = V.str "found") = decide (labAt g t i = .found) := by cases labAt g t i <;> decide +kernel
    refine ⟨_, rfl, rfl, _, rfl, ?_⟩
    rw [ef]
    by_cases c : labAt g t i = .found
    · rw [decide_eq_true c]
      refine iteT ⟨_, rfl, .inl ⟨rfl, _, .of eo4⟩, _, rfl, qo, os.map Int.ofNat, _, rfl, rfl, .of eo4, ?_⟩
      refine ⟨_, e4, ?_, fun b o e => ?_, ?_⟩
      · rw [List.length_map, List.length_map]
        have h1 := List.length_filter_le (fun i => decide (labAt g t i = .found)) (List.range i)
        rw [List.length_range] at h1
        exact small1000 (by omega)
      · rw [upd_ne (ne_of_none e hD)]
        exact s4 _ _ e
      · rw [upd_same, List.range_succ, List.filter_append, List.filter_cons_of_pos (p := fun i => decide (labAt g t i = .found)) (decide_eq_true c), List.filter_nil, List.map_append, List.map_append, own_count lo O (isF_mem.mpr ⟨hi, c⟩)]
        rfl
    · rw [decide_eq_false c]
      refine iteF ⟨s4, ?_⟩
      rw [List.range_succ, List.filter_append, List.filter_cons_of_neg (p := fun i => decide (labAt g t i = .found)) (fun z => c (of_decide_eq_true z)), List.filter_nil, List.append_nil]
      exact e4
  · obtain ⟨s3, e3⟩ := h3
    rw [labsV_len] at e3
    exact q _ _ (s12.trans s3) (s12.free hD) e3
end
end HSP
namespace HSP
open PySem PySem.Spec PyProof.Rows L2
section
variable {P : Program} {w : World} {K : PySem.W.Frag} {mg : Str → Option Value} {base : Heap}
/-! ### _law_size -/
theorem sc_law_size : FnScope n_law_size n_law_size (defScope s_law_size) := ⟨rfl, rfl, rfl, by decide +kernel, rfl, by decide +kernel, by decide +kernel⟩
theorem ok_size (a : At K mg "_law_size" s_law_size) : ∀ n, Df P w K mg base "_law_size" n n_law_size (spSize n)
  | 0 => Df.none' a (fun vs H Q E h => by obtain ⟨v, t, _, _, h, _⟩ := h; exact absurd h (Nat.not_lt_zero _)) (fun _ _ _ _ _ _ us hl => match us, hl with | [_], _ => rfl) 0
  | n + 1 => by
    have S := ok_size a n
    refine Df.mk' a sc_law_size (fun vs H Q E h => ?_) (fun _ _ _ _ _ _ us hl => match us, hl with | [_], _ => rfl) (fun f cdv A outer s H vs Q E hr h => ?_)
    · obtain ⟨v, t, rfl, _⟩ := h
      rfl
    obtain ⟨v, t, rfl, ht, hd, q⟩ := h
    refine ⟨_, (pss_one (ps_ret (pe_ifExp (pt_cmpR op_isN (pv 0) pe_non (nomark _)) pe_int (pe_op op_add (pe_op op_add (pe_df S hr (pa_cons (pe_ix ix_tup (pv 0) pe_int (fun _ _ => rfl)) pa_nil)) pe_int) (pe_df S hr (pa_cons (pe_ix ix_tup (pv 0) pe_int (fun _ _ => rfl)) pa_nil)))))), ?_⟩
    refine ⟨v, rfl, rfl, _, rfl, ?_⟩
    cases ht with
    | nil => exact iteT q
    | @nod b x1 x2 l r e hl hr2 =>
      have hd' : max l.ht r.ht + 1 < n + 1 := hd
      refine iteF ?_
      refine ⟨_, rfl, b, _, _, x1, rfl, rfl, .of e, atI_nat (j := 0) rfl, x1, l, rfl, hl, by omega, ?_⟩
      refine ⟨_, _, rfl, rfl, _, rfl, b, _, _, x2, rfl, rfl, .of e, atI_nat (j := 1) rfl, x2, r, rfl, hr2, by omega, ?_⟩
      refine ⟨_, _, rfl, rfl, ?_⟩
      have e2 : ((l.size : Int) + 1 + (r.size : Int)) = (((Tr.nod l r).size : Nat) : Int) := by
        show _ = ((l.size + 1 + r.size : Nat) : Int)
        omega
      rw [← e2] at q
      exact q
/-! ### _law_tree -/
theorem sc_law_tree : FnScope n_law_tree ["draws", "room"] (defScope s_law_tree) := ⟨rfl, rfl, rfl, by decide +kernel, rfl, by decide +kernel, by decide +kernel⟩
def spDraw (n : Nat) : Sp := fun vs H Q _ => ∃ (p : Addr) (m k : Nat), vs = [.ref p, .int (m : Int)] ∧ m < n ∧ DrAt H p k ∧ k + 2 * m ≤ 100000 ∧ ∀ (H' : Hp) (v : V) (t : Tr), Keep p H H' → DrAt H' p (k + 2 * m) → TrAt H' v t → t.size = m → Q v H'
theorem ok_drawT (B : Bl mg) (N : Df P w K mg base "_law_next" 1 ["draws"] spNext) (a : At K mg "_law_tree" s_law_tree) : ∀ n, Df P w K mg base "_law_tree" (n + 1) ["draws", "room"] (spDraw n)
  | 0 => Df.none' a (fun vs H Q E h => by obtain ⟨p, m, k, _, h, _⟩ := h; exact absurd h (Nat.not_lt_zero _)) (fun _ _ _ _ _ _ us hl => match us, hl with | [_, _], _ => rfl) 1
  | n + 1 => by
    have D := ok_drawT B N a n
    refine Df.mk' a sc_law_tree (fun vs H Q E h => ?_) (fun _ _ _ _ _ _ us hl => match us, hl with | [_, _], _ => rfl) (fun f cdv A outer s H vs Q E hr h => ?_)
    · obtain ⟨p, m, k, rfl, _⟩ := h
      rfl
    obtain ⟨p, m, k, rfl, hm, hd, hk, q⟩ := h
    refine ⟨_, (pss_cons (ps_if (pt_cmpR op_eq (pv 1) pe_int (nomark _)) (pss_one (ps_ret pe_non)) pss_nil)
 (pss_cons (ps_set (i := 2) sc_law_tree.nd rfl (.inl rfl) (pe_ix ix_list (pe_lst (pa_cons (pe_op op_fdiv (pv 1) pe_int) (pa_cons (pe_op op_fdiv (pe_op op_sub (pv 1) pe_int) pe_int) (pa_cons (pe_op op_mod (pe_callTy call_int1 (by rfl) B.int (by decide +kernel) (pa_cons (pe_df N (hr.mono (by omega)) (pa_cons (pv 0) pa_nil)) pa_nil)) (pv 1)) (pa_cons pe_int (pa_cons (pe_op op_sub (pv 1) pe_int) pa_nil)))))) (pe_op op_mod (pe_callTy call_int1 (by rfl) B.int (by decide +kernel) (pa_cons (pe_df N (hr.mono (by omega)) (pa_cons (pv 0) pa_nil)) pa_nil)) pe_int) (fun _ _ => rfl)))
 (pss_one (ps_ret (pe_tup (pa_cons (pe_df D hr (pa_cons (pv 0) (pa_cons (pv 2) pa_nil))) (pa_cons (pe_df D hr (pa_cons (pv 0) (pa_cons (pe_op op_sub (pe_op op_sub (pv 1) (pv 2)) pe_int) pa_nil))) pa_nil))))))), ?_⟩
    refine ⟨_, rfl, rfl, _, rfl, ?_⟩
    refine ite2 (fun c => ?_) (fun c => ?_)
    · have m0 : (m : Int) = 0 := V.int.inj (of_decide_eq_true c)
      exact q H .non .nil (Keep.refl _ _) (hd.mono (by omega)) .nil (by show 0 = m; omega)
    have m1 : ¬ (m : Int) = 0 := fun z => c (decide_eq_true (congrArg V.int z))
    have mp : (0 : Int) < (m : Int) := by omega
    refine ⟨_, rfl, _, _, rfl, rfl, ⟨by decide, by decide⟩, _, rfl, _, _, rfl, rfl, _, _, rfl, rfl, ⟨by decide, by decide⟩, _, rfl, p, k, rfl, hd, by omega, fun H1 r1 kp1 d1 a1 a2 => .inl ⟨_, rfl, _, rfl, _, _, rfl, rfl, mp, _, rfl, _, _, rfl, rfl, (by show 5 ≤ sizeLine; decide), fun L hL => ?_⟩⟩
    refine ⟨_, rfl, p, k + 1, rfl, d1.same (Same.new hL), by omega, fun H2 r2 kp2 d2 a3 a4 => .inl ⟨_, rfl, _, _, rfl, rfl, (by show (0 : Int) < 5; decide), ?_⟩⟩
    have eL := kp2 L _ (d1.ne hL) upd_same
    obtain ⟨x, hx, j, rfl, hj⟩ := at_any (xs := [V.int ((m : Int) / 2), V.int (((m : Int) - 1) / 2), V.int (r1 % (m : Int)), V.int 0, V.int ((m : Int) - 1)]) (C := fun x => ∃ j : Nat, x = V.int (j : Int) ∧ j < m) (fun x hx => by
      have nat : ∀ z : Int, 0 ≤ z → z < (m : Int) → ∃ j : Nat, V.int z = V.int (j : Int) ∧ j < m := fun z z0 z1 => ⟨z.toNat, congrArg V.int (by omega), by omega⟩
      simp only [List.mem_cons, List.not_mem_nil, or_false] at hx
      rcases hx with rfl | rfl | rfl | rfl | rfl
      · exact nat _ (by omega) (by omega)
      · exact nat _ (by omega) (by omega)
      · exact nat _ (Int.emod_nonneg _ (by omega)) (Int.emod_lt_of_pos _ mp)
      · exact nat _ (by omega) (by omega)
      · exact nat _ (by omega) (by omega)) (i := r2 % 5) (Int.emod_nonneg _ (by decide)) (Int.emod_lt_of_pos _ (by decide))
    refine ⟨L, _, _, _, rfl, rfl, .of eL, hx, ?_⟩
    have kpA : Keep p H H2 := kp1.trans ((Keep.new hL).trans kp2)
    refine ⟨_, rfl, _, rfl, p, j, k + 1 + 1, rfl, by omega, d2, by omega, fun H3 v3 t3 kp3 d3 b3 s3 => ?_⟩
    refine ⟨_, rfl, _, rfl, _, rfl, _, _, rfl, rfl, _, _, rfl, rfl, p, m - 1 - j, k + 1 + 1 + 2 * j, congrArg (fun z => [V.ref p, V.int z]) (by omega : (m : Int) - (j : Int) - 1 = ((m - 1 - j : Nat) : Int)), by omega, d3, by omega, fun H4 v4 t4 kp4 d4 b4 s4 => ?_⟩
    refine ⟨(by show 2 ≤ sizeLine; decide), fun T hT => ?_⟩
    have s5 := Same.new (o := .tup [v3, v4]) hT
    refine q _ (.ref T) (.nod t3 t4) (kpA.trans (kp3.trans (kp4.trans (Keep.new hT)))) ((d4.mono (by omega)).same s5) (.nod upd_same ((d3.tree kp4 b3).same s5) (b4.same s5)) ?_
    show t3.size + 1 + t4.size = m
    omega
end
end HSP
namespace HSP
open PySem PySem.Spec PyProof.Rows L2
section
variable {P : Program} {w : World} {K : PySem.W.Frag} {mg : Str → Option Value} {base : Heap}
/-! ### _law_values -/
theorem sc_law_values : FnScope n_law_values ["draws", "many"] (defScope s_law_values) := ⟨rfl, rfl, rfl, by decide +kernel, rfl, by decide +kernel, by decide +kernel⟩
def spValues : Sp := fun vs H Q _ => ∃ (p : Addr) (m k : Nat), vs = [.ref p, .int (m : Int)] ∧ m ≤ 1000 ∧ DrAt H p k ∧ k + m + 10 ≤ 100000 ∧ ∀ (H' : Hp) (q : Addr) (ns : List Int), Keep p H H' → DrAt H' p (k + m + 10) → H q = none → H' q = some (.lst (ns.map V.int)) → ns.length = m → Near ns → Q (.ref q) H'
theorem ok_values (B : Bl mg) (N : Df P w K mg base "_law_next" 1 ["draws"] spNext) (a : At K mg "_law_values" s_law_values) : Df P w K mg base "_law_values" 2 ["draws", "many"] spValues := by
  refine Df.mk' a sc_law_values (fun vs H Q E h => ?_) (fun _ _ _ _ _ _ us hl => match us, hl with | [_, _], _ => rfl) (fun f cdv A outer s H vs Q E hr h => ?_)
  · obtain ⟨p, m, k, rfl, _⟩ := h
    rfl
  obtain ⟨p, m, k, rfl, hm, hd, hk, q⟩ := h
  refine ⟨_, (pss_cons (ps_set (i := 2) sc_law_values.nd rfl (.inl rfl) (pe_df N hr (pa_cons (pv 0) pa_nil)))
 (pss_cons (ps_set (i := 3) sc_law_values.nd rfl (.inr rfl) (pe_ix ix_list (pe_lst (pa_cons pe_int (pa_cons (pv 1) (pa_cons (pe_op op_add (pe_op op_mul pe_int (pv 1)) pe_int) (pa_cons (pe_op op_powW pe_int pe_int) pa_nil))))) (pe_op op_mod (pe_callTy call_int1 (by rfl) B.int (by decide +kernel) (pa_cons (pv 2) pa_nil)) pe_int) (fun _ _ => rfl)))
 (pss_cons (ps_setLc (i := 5) (own := [("k", 4)]) (g := (gName 4)) (tt := tYes) (by rfl) sc_law_values.nd rfl rfl (sw_true rfl rfl rfl (by decide +kernel)) (pi_range1 (by rfl) B.range (pa_cons (pv 1) pa_nil)) (blkOk_by (N := n_law_values) (sc := defScope s_law_values) (by decide +kernel)) (fun _ _ _ _ _ => (pg_name (i := 4) sc_law_values.nd rfl (.inl rfl))) (fun _ _ _ _ _ => pts_nil) (fun _ _ _ _ _ => (pe_op op_sub (pe_op op_mod (pe_callTy call_int1 (by rfl) B.int (by decide +kernel) (pa_cons (pe_df N hr (pa_cons (pv 0) pa_nil)) pa_nil)) (pe_op op_add (pv 3) pe_int)) (pe_op op_fdiv (pv 3) pe_int))))
 (pss_cons (ps_if (PW.pt (pw_and (pt_cmpR op_eq (pe_op op_mod (pe_callTy call_int1 (by rfl) B.int (by decide +kernel) (pa_cons (pe_op op_fdiv (pv 2) pe_int) pa_nil)) pe_int) pe_int (nomark _)) (pw_and1 (pt_cmpR op_gt (pv 1) pe_int (nomark _))))) (pss_cons (ps_set (i := 5) sc_law_values.nd rfl (.inl rfl) (pe_callB cr_sortedI (by rfl) B.sorted (by decide +kernel) (pa_cons (pv 5) pa_nil)))
 (pss_one (ps_for PassesOwn.never rfl (pi_range1 (by rfl) B.range (pa_cons (pe_op op_mod (pe_callTy call_int1 (by rfl) B.int (by decide +kernel) (pa_cons (pe_op op_fdiv (pv 2) pe_int) pa_nil)) pe_int) pa_nil)) (pg_name (i := 4) sc_law_values.nd rfl (.inl rfl)) (pss_cons (ps_set (i := 6) sc_law_values.nd rfl (.inl rfl) (pe_op op_mod (pe_callTy call_int1 (by rfl) B.int (by decide +kernel) (pa_cons (pe_df N hr (pa_cons (pv 0) pa_nil)) pa_nil)) (pv 1)))
 (pss_one (ps_asg (pe_op op_sub (pe_op op_mod (pe_callTy call_int1 (by rfl) B.int (by decide +kernel) (pa_cons (pe_df N hr (pa_cons (pv 0) pa_nil)) pa_nil)) (pe_op op_add (pv 3) pe_int)) (pe_op op_fdiv (pv 3) pe_int)) (pg_sub (pv 5) (pv 6) set_list))))))) pss_nil)
 (pss_one (ps_ret (pv 5))))))), ?_⟩
  refine ⟨_, rfl, p, k, rfl, hd, by omega, fun H1 r1 kp1 d1 a1 a2 => ?_⟩
  refine ⟨_, rfl, _, rfl, _, _, rfl, rfl, .inl ⟨by decide, by decide⟩, _, _, rfl, rfl, _, _, rfl, rfl, ⟨by decide, by decide +kernel⟩, (by show 4 ≤ sizeLine; decide), fun L hL => ?_⟩
  obtain ⟨x, hx, sp, rfl, hsp, hsp2⟩ := at_any (xs := [V.int 3, V.int (m : Int), V.int (4 * (m : Int) + 1), V.int ((10 : Int) ^ (6 : Int).toNat)]) (C := fun x => ∃ j : Int, x = V.int j ∧ 0 ≤ j ∧ j ≤ 1000000) (fun x hx => by
    simp only [List.mem_cons, List.not_mem_nil, or_false] at hx
    rcases hx with rfl | rfl | rfl | rfl
    · exact ⟨3, rfl, by decide, by decide⟩
    · exact ⟨_, rfl, by omega, by omega⟩
    · exact ⟨_, rfl, by omega, by omega⟩
    · exact ⟨_, rfl, by decide, by decide⟩) (i := r1 % 4) (Int.emod_nonneg _ (by decide)) (Int.emod_lt_of_pos _ (by decide))
  refine ⟨_, rfl, .inl ⟨_, rfl, _, _, rfl, rfl, (by show (0 : Int) < 4; decide), L, _, _, _, rfl, rfl, .of upd_same, hx, ?_⟩⟩
  have kp2 : Keep p H (upd H1 L (.lst [V.int 3, V.int (m : Int), V.int (4 * (m : Int) + 1), V.int ((10 : Int) ^ (6 : Int).toNat)])) := kp1.trans (Keep.new hL)
  have d2 := d1.same (Same.new (o := .lst [V.int 3, V.int (m : Int), V.int (4 * (m : Int) + 1), V.int ((10 : Int) ^ (6 : Int).toNat)]) hL)
  have free2 : ∀ b, (upd H1 L (.lst [V.int 3, V.int (m : Int), V.int (4 * (m : Int) + 1), V.int ((10 : Int) ^ (6 : Int).toNat)])) b = none → H b = none ∧ b ≠ p := fun b hb => by
    refine ⟨?_, d2.ne hb⟩
    cases e : H b with
    | none => rfl
    | some o => cases hb.symm.trans (kp2 b o (d2.ne hb) e)
  generalize upd H1 L (.lst [V.int 3, V.int (m : Int), V.int (4 * (m : Int) + 1), V.int ((10 : Int) ^ (6 : Int).toNat)]) = H2 at kp2 d2 free2 ⊢
  refine ⟨_, rfl, _, rfl, by omega, by omega, fun D hD => ?_⟩
  refine lc_range (lo := 0) (n := m) (fun i H' => ∃ ns : List Int, Keep p H H' ∧ DrAt H' p (k + 1 + i) ∧ H' D = some (.lst (ns.map V.int)) ∧ ns.length = i ∧ Near ns) ⟨[], kp2.trans (Keep.new hD), d2.same (Same.new hD), upd_same, rfl, .nil⟩ (fun i H3 hi h3 => ?_) (fun H3 h3 => ?_)
  · obtain ⟨ns, kp3, d3, e3, l3, w3⟩ := h3
    refine ⟨rfl, ?_⟩
    refine ⟨_, rfl, p, k + 1 + i, rfl, d3, by omega, fun H4 r2 kp4 d4 b1 b2 => .inl ⟨_, rfl, _, rfl, _, _, rfl, rfl, _, _, rfl, rfl, (by show 0 < sp + 1; omega), _, rfl, _, _, rfl, rfl, ⟨by decide, by decide⟩, _, _, rfl, rfl, _, kp4 D _ (d3.neOf e3) e3, ?_, ?_⟩⟩
    · rw [List.length_map]
      exact small1000 (by omega)
    · refine ⟨ns ++ [r2 % (sp + 1) - sp / 2], Keep.put (free2 D hD).1 (kp3.trans kp4), d4.put (d3.neOf e3), ?_, ?_, w3.snoc (near_of hsp hsp2)⟩
      · rw [upd_same, List.map_append]
        rfl
      · rw [List.length_append, List.length_singleton, l3]
  · obtain ⟨ns, kp3, d3, e3, l3, w3⟩ := h3
    have nD := d3.neOf e3
    refine ⟨_, rfl, _, _, rfl, rfl, ⟨by decide, by decide⟩, .inl ⟨_, rfl, _, _, rfl, rfl, (by show (0 : Int) < 3; decide), rfl, _, rfl, ?_⟩⟩
    have back : Q (.ref D) H3 := q H3 D ns kp3 (d3.mono (by omega)) (free2 D hD).1 e3 l3 w3
    refine ite2 (fun c1 => ?_) (fun c1 => iteF ⟨_, rfl, back⟩)
    refine ⟨_, rfl, _, _, rfl, rfl, _, rfl, ite2 (fun c2 => ?_) (fun c2 => ⟨_, rfl, back⟩)⟩
    have mp : (0 : Int) < (m : Int) := of_decide_eq_true c2
    refine ⟨_, rfl, D, ns, rfl, .of e3, fun ns2 D2 hperm _ hD2 => ?_⟩
    refine ⟨_, rfl, _, _, rfl, rfl, ⟨by decide, by decide⟩, .inl ⟨_, rfl, _, _, rfl, rfl, (by show (0 : Int) < 4; decide), ?_⟩⟩
    have u1 := Int.emod_nonneg (r1 / 12) (show (4 : Int) ≠ 0 by decide)
    have u2 := Int.emod_lt_of_pos (r1 / 12) (show (0 : Int) < 4 by decide)
    refine ⟨_, rfl, by omega, by omega, ?_⟩
    have hD2' : H D2 = none ∧ D2 ≠ p := by
      refine ⟨?_, d3.ne hD2⟩
      cases e : H D2 with
      | none => rfl
      | some o => cases hD2.symm.trans (kp3 D2 o (d3.ne hD2) e)
    refine for_range (lo := 0) (n := (r1 / 12 % 4).toNat) (fun i σ H' => ∃ (ns' : List Int) (y4 y6 : Option V), σ = [some (.ref p), some (.int (m : Int)), some (.int r1), some (.int sp), y4, some (.ref D2), y6] ∧ Keep p H H' ∧ DrAt H' p (k + 1 + m + 2 * i) ∧ H' D2 = some (.lst (ns'.map V.int)) ∧ ns'.length = m ∧ Near ns')
      ⟨ns2, _, _, rfl, Keep.put hD2'.1 kp3, d3.put hD2'.2, upd_same, by rw [hperm.length_eq, l3], fun x hx => w3 x (hperm.mem_iff.mp hx)⟩ (fun i σ H4 hi h4 => ?_) (fun σ H4 h4 => ?_)
    · obtain ⟨ns', y4, y6, rfl, kp4, d4, e4, l4, w4⟩ := h4
      refine ⟨_, rfl, p, k + 1 + m + 2 * i, rfl, d4, by omega, fun H5 r5 kp5 d5 b1 b2 => .inl ⟨_, rfl, _, rfl, _, _, rfl, rfl, mp, ?_⟩⟩
      refine ⟨_, rfl, p, k + 1 + m + 2 * i + 1, rfl, d5, by omega, fun H6 r6 kp6 d6 b3 b4 => .inl ⟨_, rfl, _, rfl, _, _, rfl, rfl, _, _, rfl, rfl, (by show 0 < sp + 1; omega), _, rfl, _, _, rfl, rfl, ⟨by decide, by decide⟩, _, _, rfl, rfl, ?_⟩⟩
      have n4 := d4.neOf e4
      have e6 := kp6 D2 _ n4 (kp5 D2 _ n4 e4)
      have v1 := Int.emod_nonneg r5 (show (m : Int) ≠ 0 by omega)
      have v2 := Int.emod_lt_of_pos r5 mp
      refine ⟨_, rfl, _, rfl, D2, _, _, (r5 % (m : Int)).toNat, rfl, rfl, e6, ?_, ?_⟩
      · rw [List.length_map, l4]
        exact ixN_in v1 v2
      · refine ⟨ns'.set (r5 % (m : Int)).toNat (r6 % (sp + 1) - sp / 2), _, _, rfl, Keep.put hD2'.1 ((kp4.trans kp5).trans kp6), d6.put n4, ?_, ?_, w4.set (near_of hsp hsp2)⟩
        · rw [upd_same, List.map_set]
        · rw [List.length_set, l4]
    · obtain ⟨ns', y4, y6, rfl, kp4, d4, e4, l4, w4⟩ := h4
      exact ⟨_, rfl, q H4 D2 ns' kp4 (d4.mono (by omega)) hD2'.1 e4 l4 w4⟩
end
end HSP
namespace HSP
open PySem PySem.Spec PyProof.Rows L2
/-! ## what the laws' right sides share -/
theorem Mid.of {ns : List Int} (h : Near ns) : Mid ns := fun v hv => by
  have := h v hv
  omega
def spRight : Sp := fun vs H Q _ => ∃ (p : Addr) (k : Nat), vs = [.ref p] ∧ DrAt H p k ∧ k ≤ 1000 ∧ ∀ H' : Hp, Keep p H H' → DrAt H' p (k + 200) → Q (.bl true) H'
end HSP
namespace HSP
open PySem PySem.Spec PyProof.Rows L2
section
variable {P : Program} {w : World} {K : PySem.W.Frag} {mg : Str → Option Value} {base : Heap}
/-! ### found_of, found -/
def spFound : Sp := fun vs H Q _ => ∃ (v : V) (t : Tr) (a : Addr) (ns : List Int), vs = [v, .ref a] ∧ TrAt H v t ∧ t.size ≤ 300 ∧ H a = some (.lst (ns.map V.int)) ∧ ns.length = t.size ∧ ∀ (H' : Hp) (q : Addr), Same H H' → H q = none → H' q = some (.lst ((foundOf (valAt ns) t t.size).map natV)) → Q (.ref q) H'
end
end HSP
namespace HSP
open PySem PySem.Spec PyProof.Rows L2
section
variable {P : Program} {w : World} {K : PySem.W.Frag} {mg : Str → Option Value} {base : Heap}
end
end HSP
namespace HSP
open PySem PySem.Spec PyProof.Rows L2
section
variable {P : Program} {w : World} {K : PySem.W.Frag} {mg : Str → Option Value} {base : Heap}
theorem sc_labels : FnScope n_labels ["tree", "values"] (defScope s_labels) := ⟨rfl, rfl, rfl, by decide +kernel, rfl, by decide +kernel, by decide +kernel⟩
theorem okB_labels (C : Df P w K mg base "check_values" 3 ["tree", "values"] spChkV) (L : Df P w K mg base "labels_of" 4 ["tree", "values"] spLabels) (a : At K mg "labels" s_labels) : DfB P w K mg base "labels" 5 ["tree", "values"] ["values", "tree"] spLabels := by
  refine DfB.mk' a sc_labels (fun vs H Q E h => ?_) (fun _ _ _ _ _ _ us hl => match us, hl with | [_, _], _ => rfl) (fun _ _ _ _ _ _ us hl => match us, hl with | [_, _], _ => rfl) (fun f cdv A outer s H vs Q E hr h => ?_)
  · obtain ⟨v, t, a, ns, rfl, _⟩ := h
    rfl
  obtain ⟨v, t, a, ns, rfl, ht, hz, ha, hn, q⟩ := h
  refine ⟨_, (pss_cons (ps_expr (pe_df C (hr.mono (by decide)) (pa_cons (pv 0) (pa_cons (pv 1) pa_nil))))
 (pss_one (ps_ret (pe_df L hr (pa_cons (pv 0) (pa_cons (pv 1) pa_nil)))))), ?_⟩
  refine ⟨v, rfl, _, rfl, v, t, a, ns, rfl, ht, by omega, ha, hn, fun H1 s1 => ?_⟩
  exact ⟨v, rfl, _, rfl, v, t, a, ns, rfl, ht.same s1, hz, s1 _ _ ha, hn, fun H2 q0 s2 n2 e2 => q H2 q0 (s1.trans s2) (s1.free n2) e2⟩
end
end HSP
namespace HSP
open PySem PySem.Spec PyProof.Rows L2
/-! ### all trees of so many nodes -/
def trees : Nat → Nat → List Tr
  | _, 0 => [.nil]
  | 0, _ + 1 => []
  | f + 1, n + 1 => (List.range (n + 1)).flatMap fun a => (trees f a).flatMap fun l => (trees f (n - a)).map fun r => .nod l r
theorem trees_all : ∀ (f : Nat) (t : Tr), t.size ≤ f → t ∈ trees f t.size
  | 0, .nil, _ => List.mem_singleton.mpr rfl
  | _ + 1, .nil, _ => List.mem_singleton.mpr rfl
  | 0, .nod l r, h => by
    have : l.size + 1 + r.size ≤ 0 := h
    omega
  | f + 1, .nod l r, h => by
    have h' : l.size + 1 + r.size ≤ f + 1 := h
    have e : (Tr.nod l r).size = (l.size + r.size) + 1 := by
      show l.size + 1 + r.size = _
      omega
    rw [e]
    show Tr.nod l r ∈ (List.range (l.size + r.size + 1)).flatMap fun a => (trees f a).flatMap fun l' => (trees f (l.size + r.size - a)).map fun r' => Tr.nod l' r'
    refine List.mem_flatMap.mpr ⟨l.size, List.mem_range.mpr (by omega), List.mem_flatMap.mpr ⟨l, trees_all f l (by omega), List.mem_map.mpr ⟨r, ?_, rfl⟩⟩⟩
    have e2 : l.size + r.size - l.size = r.size := by omega
    rw [e2]
    exact trees_all f r (by omega)
theorem trees_size : ∀ (f n : Nat) (t : Tr), t ∈ trees f n → t.size = n
  | 0, 0, t, h => by rw [List.mem_singleton.mp h]; rfl
  | _ + 1, 0, t, h => by rw [List.mem_singleton.mp h]; rfl
  | 0, _ + 1, t, h => by cases h
  | f + 1, n + 1, t, h => by
    obtain ⟨a, ha, h⟩ := List.mem_flatMap.mp h
    obtain ⟨l, hl, h⟩ := List.mem_flatMap.mp h
    obtain ⟨r, hr, rfl⟩ := List.mem_map.mp h
    have h1 := List.mem_range.mp ha
    have h2 := trees_size f a l hl
    have h3 := trees_size f (n - a) r hr
    show l.size + 1 + r.size = n + 1
    omega
theorem flatMap_same {α β : Type} {f g : α → List β} : ∀ {l : List α}, (∀ x, x ∈ l → f x = g x) → l.flatMap f = l.flatMap g
  | [], _ => rfl
  | x :: r, h => by rw [List.flatMap_cons, List.flatMap_cons, h x List.mem_cons_self, flatMap_same fun y hy => h y (List.mem_cons_of_mem _ hy)]
/-- more room makes no more trees -/
theorem trees_same : ∀ (f g n : Nat), n ≤ f → n ≤ g → trees f n = trees g n
  | 0, 0, 0, _, _ => rfl
  | 0, _ + 1, 0, _, _ => rfl
  | _ + 1, 0, 0, _, _ => rfl
  | _ + 1, _ + 1, 0, _, _ => rfl
  | 0, _, _ + 1, h, _ => absurd h (by omega)
  | _ + 1, 0, _ + 1, _, h => absurd h (by omega)
  | f + 1, g + 1, n + 1, h1, h2 => by
    show ((List.range (n + 1)).flatMap fun a => (trees f a).flatMap fun l => (trees f (n - a)).map fun r => Tr.nod l r) = (List.range (n + 1)).flatMap fun a => (trees g a).flatMap fun l => (trees g (n - a)).map fun r => Tr.nod l r
    refine flatMap_same fun a ha => ?_
    have ha' := List.mem_range.mp ha
    rw [trees_same f g a (by omega) (by omega), trees_same f g (n - a) (by omega) (by omega)]
/-- all trees of so many nodes -/
def shapesOf (n : Nat) : List Tr := trees n n
theorem shapes_succ (n : Nat) : shapesOf (n + 1) = (List.range (n + 1)).flatMap fun a => (shapesOf a).flatMap fun l => (shapesOf (n - a)).map fun r => Tr.nod l r := by
  show ((List.range (n + 1)).flatMap fun a => (trees n a).flatMap fun l => (trees n (n - a)).map fun r => Tr.nod l r) = _
  refine flatMap_same fun a ha => ?_
  have ha' := List.mem_range.mp ha
  rw [trees_same n a a (by omega) (by omega), trees_same n (n - a) (n - a) (by omega) (by omega)]
  rfl
theorem shapes_in (t : Tr) : t ∈ shapesOf t.size := trees_all _ t (Nat.le_refl _)
theorem shapes_size {n : Nat} {t : Tr} (h : t ∈ shapesOf n) : t.size = n := trees_size _ _ t h
theorem shapes_few : ((List.range 6).all fun n => decide ((shapesOf n).length ≤ 42)) = true := by decide +kernel
theorem shapes_le {n : Nat} (h : n < 6) : (shapesOf n).length ≤ 42 := of_decide_eq_true (List.all_eq_true.mp shapes_few n (List.mem_range.mpr h))
theorem len_flatMap_le {α β : Type} {f : α → List β} {c : Nat} : ∀ {l : List α}, (∀ x, x ∈ l → (f x).length ≤ c) → (l.flatMap f).length ≤ l.length * c
  | [], _ => Nat.zero_le _
  | x :: r, h => by
    have h1 := h x List.mem_cons_self
    have h2 := len_flatMap_le fun y hy => h y (List.mem_cons_of_mem _ hy)
    rw [List.flatMap_cons, List.length_append, List.length_cons, Nat.add_mul, Nat.one_mul]
    omega
end HSP
namespace HSP
/-! ## all orders of a few, counted by what stands lowIn a place -/
/-- the numbers at two places stand as the places do -/
def alike (o : List Nat) (i j : Nat) : Bool := if j < i then decide (o.getD j 0 < o.getD i 0) else decide (o.getD i 0 < o.getD j 0)
def bitsOf (c : Nat → Bool) : Nat → Nat
  | 0 => 0
  | n + 1 => (c 0).toNat + 2 * bitsOf (fun j => c (j + 1)) n
theorem bits_at : ∀ (n : Nat) (c : Nat → Bool) (j : Nat), Nat.testBit (bitsOf c n) j = (decide (j < n) && c j)
  | 0, c, j => by simp [bitsOf]
  | n + 1, c, 0 => by
    unfold bitsOf
    rw [Nat.testBit_zero]
    cases c 0 <;> simp <;> omega
  | n + 1, c, j + 1 => by
    have e : ((c 0).toNat + 2 * bitsOf (fun j => c (j + 1)) n) / 2 = bitsOf (fun j => c (j + 1)) n := by
      have : (c 0).toNat ≤ 1 := by cases c 0 <;> decide
      omega
    unfold bitsOf
    rw [Nat.testBit_succ, e, bits_at n _ j]
    congr 1
    exact decide_eq_decide.mpr (by omega)
theorem bits_lt : ∀ (n : Nat) (c : Nat → Bool), bitsOf c n < 2 ^ n
  | 0, _ => by show 0 < 2 ^ 0; decide
  | n + 1, c => by
    have ih := bits_lt n fun j => c (j + 1)
    have : (c 0).toNat ≤ 1 := by cases c 0 <;> decide
    unfold bitsOf
    rw [Nat.pow_succ]
    omega
def masks (n i : Nat) : List Nat := (ordersOf n n).map fun o => bitsOf (alike o i) n
def lowIn (x i : Nat) : Nat := (List.range i).countP fun j => Nat.testBit x j
def highIn (x n i : Nat) : Nat := (List.range n).countP fun j => Nat.testBit x j && decide (i < j)
def chk (n i : Nat) (ms : List Nat) : Bool := (List.range (2 ^ n)).all fun x => Nat.testBit x i || Nat.beq ((ms.countP fun m => Nat.beq (Nat.land m x) x) * fct (lowIn x i + highIn x n i + 1)) (fct (highIn x n i) * fct (lowIn x i) * fct n)
def ms50 : List Nat := [30, 30, 30, 30, 30, 30, 30, 30, 30, 30, 30, 30, 30, 30, 30, 30, 30, 30, 30, 30, 30, 30, 30, 30, 28, 28, 28, 28, 28, 28, 26, 26, 22, 14, 22, 14, 26, 26, 22, 14, 22, 14, 26, 26, 22, 14, 22, 14, 24, 24, 20, 12, 20, 12, 24, 24, 20, 12, 20, 12, 18, 10, 18, 10, 6, 6, 18, 10, 18, 10, 6, 6, 16, 8, 16, 8, 4, 4, 16, 8, 16, 8, 4, 4, 16, 8, 16, 8, 4, 4, 2, 2, 2, 2, 2, 2, 0, 0, 0, 0, 0, 0, 0, 0, 0, 0, 0, 0, 0, 0, 0, 0, 0, 0, 0, 0, 0, 0, 0, 0]
theorem ms50_is : masks 5 0 = ms50 := by decide +kernel
theorem ok50 : chk 5 0 ms50 = true := by decide +kernel
def ms51 : List Nat := [29, 29, 29, 29, 29, 29, 25, 25, 21, 13, 21, 13, 17, 9, 17, 9, 5, 5, 1, 1, 1, 1, 1, 1, 28, 28, 28, 28, 28, 28, 25, 25, 21, 13, 21, 13, 17, 9, 17, 9, 5, 5, 1, 1, 1, 1, 1, 1, 28, 28, 28, 28, 28, 28, 24, 24, 20, 12, 20, 12, 17, 9, 17, 9, 5, 5, 1, 1, 1, 1, 1, 1, 28, 28, 28, 28, 28, 28, 24, 24, 20, 12, 20, 12, 16, 8, 16, 8, 4, 4, 1, 1, 1, 1, 1, 1, 28, 28, 28, 28, 28, 28, 24, 24, 20, 12, 20, 12, 16, 8, 16, 8, 4, 4, 0, 0, 0, 0, 0, 0]
theorem ms51_is : masks 5 1 = ms51 := by decide +kernel
theorem ok51 : chk 5 1 ms51 = true := by decide +kernel
def ms52 : List Nat := [27, 27, 19, 11, 3, 3, 25, 25, 19, 11, 3, 3, 25, 25, 17, 9, 3, 3, 25, 25, 17, 9, 1, 1, 27, 27, 19, 11, 3, 3, 24, 24, 19, 11, 3, 3, 24, 24, 17, 9, 3, 3, 24, 24, 17, 9, 1, 1, 26, 26, 19, 11, 3, 3, 24, 24, 19, 11, 3, 3, 24, 24, 16, 8, 3, 3, 24, 24, 16, 8, 1, 1, 26, 26, 18, 10, 3, 3, 24, 24, 18, 10, 3, 3, 24, 24, 16, 8, 3, 3, 24, 24, 16, 8, 0, 0, 26, 26, 18, 10, 2, 2, 24, 24, 18, 10, 2, 2, 24, 24, 16, 8, 2, 2, 24, 24, 16, 8, 0, 0]
theorem ms52_is : masks 5 2 = ms52 := by decide +kernel
theorem ok52 : chk 5 2 ms52 = true := by decide +kernel
def ms53 : List Nat := [23, 7, 19, 7, 19, 3, 23, 7, 17, 7, 17, 3, 21, 7, 17, 7, 17, 1, 21, 5, 17, 5, 17, 1, 23, 7, 19, 7, 19, 3, 23, 7, 16, 7, 16, 3, 21, 7, 16, 7, 16, 1, 21, 5, 16, 5, 16, 1, 23, 7, 18, 7, 18, 3, 23, 7, 16, 7, 16, 3, 20, 7, 16, 7, 16, 0, 20, 5, 16, 5, 16, 0, 22, 7, 18, 7, 18, 2, 22, 7, 16, 7, 16, 2, 20, 7, 16, 7, 16, 0, 20, 4, 16, 4, 16, 0, 22, 6, 18, 6, 18, 2, 22, 6, 16, 6, 16, 2, 20, 6, 16, 6, 16, 0, 20, 4, 16, 4, 16, 0]
theorem ms53_is : masks 5 3 = ms53 := by decide +kernel
theorem ok53 : chk 5 3 ms53 = true := by decide +kernel
def ms54 : List Nat := [15, 7, 15, 3, 11, 3, 15, 7, 15, 1, 11, 1, 15, 5, 15, 1, 9, 1, 13, 5, 13, 1, 9, 1, 15, 7, 15, 3, 11, 3, 15, 7, 15, 0, 11, 0, 15, 5, 15, 0, 9, 0, 13, 5, 13, 0, 9, 0, 15, 7, 15, 2, 11, 2, 15, 7, 15, 0, 11, 0, 15, 4, 15, 0, 8, 0, 13, 4, 13, 0, 8, 0, 15, 6, 15, 2, 10, 2, 15, 6, 15, 0, 10, 0, 15, 4, 15, 0, 8, 0, 12, 4, 12, 0, 8, 0, 14, 6, 14, 2, 10, 2, 14, 6, 14, 0, 10, 0, 14, 4, 14, 0, 8, 0, 12, 4, 12, 0, 8, 0]
theorem ms54_is : masks 5 4 = ms54 := by decide +kernel
theorem ok54 : chk 5 4 ms54 = true := by decide +kernel
def ms60 : List Nat := [62, 62, 62, 62, 62, 62, 62, 62, 62, 62, 62, 62, 62, 62, 62, 62, 62, 62, 62, 62, 62, 62, 62, 62, 62, 62, 62, 62, 62, 62, 62, 62, 62, 62, 62, 62, 62, 62, 62, 62, 62, 62, 62, 62, 62, 62, 62, 62, 62, 62, 62, 62, 62, 62, 62, 62, 62, 62, 62, 62, 62, 62, 62, 62, 62, 62, 62, 62, 62, 62, 62, 62, 62, 62, 62, 62, 62, 62, 62, 62, 62, 62, 62, 62, 62, 62, 62, 62, 62, 62, 62, 62, 62, 62, 62, 62, 62, 62, 62, 62, 62, 62, 62, 62, 62, 62, 62, 62, 62, 62, 62, 62, 62, 62, 62, 62, 62, 62, 62, 62, 60, 60, 60, 60, 60, 60, 60, 60, 60, 60, 60, 60, 60, 60, 60, 60, 60, 60, 60, 60, 60, 60, 60, 60, 58, 58, 58, 58, 58, 58, 54, 54, 46, 30, 46, 30, 54, 54, 46, 30, 46, 30, 54, 54, 46, 30, 46, 30, 58, 58, 58, 58, 58, 58, 54, 54, 46, 30, 46, 30, 54, 54, 46, 30, 46, 30, 54, 54, 46, 30, 46, 30, 58, 58, 58, 58, 58, 58, 54, 54, 46, 30, 46, 30, 54, 54, 46, 30, 46, 30, 54, 54, 46, 30, 46, 30, 58, 58, 58, 58, 58, 58, 54, 54, 46, 30, 46, 30, 54, 54, 46, 30, 46, 30, 54, 54, 46, 30, 46, 30, 56, 56, 56, 56, 56, 56, 52, 52, 44, 28, 44, 28, 52, 52, 44, 28, 44, 28, 52, 52, 44, 28, 44, 28, 56, 56, 56, 56, 56, 56, 52, 52, 44, 28, 44, 28, 52, 52, 44, 28, 44, 28, 52, 52, 44, 28, 44, 28, 50, 50, 42, 26, 42, 26, 50, 50, 42, 26, 42, 26, 38, 22, 38, 22, 14, 14, 38, 22, 38, 22, 14, 14, 50, 50, 42, 26, 42, 26, 50, 50, 42, 26, 42, 26, 38, 22, 38, 22, 14, 14, 38, 22, 38, 22, 14, 14, 50, 50, 42, 26, 42, 26, 50, 50, 42, 26, 42, 26, 38, 22, 38, 22, 14, 14, 38, 22, 38, 22, 14, 14, 48, 48, 40, 24, 40, 24, 48, 48, 40, 24, 40, 24, 36, 20, 36, 20, 12, 12, 36, 20, 36, 20, 12, 12, 48, 48, 40, 24, 40, 24, 48, 48, 40, 24, 40, 24, 36, 20, 36, 20, 12, 12, 36, 20, 36, 20, 12, 12, 48, 48, 40, 24, 40, 24, 48, 48, 40, 24, 40, 24, 36, 20, 36, 20, 12, 12, 36, 20, 36, 20, 12, 12, 34, 18, 34, 18, 10, 10, 34, 18, 34, 18, 10, 10, 34, 18, 34, 18, 10, 10, 6, 6, 6, 6, 6, 6, 34, 18, 34, 18, 10, 10, 34, 18, 34, 18, 10, 10, 34, 18, 34, 18, 10, 10, 6, 6, 6, 6, 6, 6, 32, 16, 32, 16, 8, 8, 32, 16, 32, 16, 8, 8, 32, 16, 32, 16, 8, 8, 4, 4, 4, 4, 4, 4, 32, 16, 32, 16, 8, 8, 32, 16, 32, 16, 8, 8, 32, 16, 32, 16, 8, 8, 4, 4, 4, 4, 4, 4, 32, 16, 32, 16, 8, 8, 32, 16, 32, 16, 8, 8, 32, 16, 32, 16, 8, 8, 4, 4, 4, 4, 4, 4, 32, 16, 32, 16, 8, 8, 32, 16, 32, 16, 8, 8, 32, 16, 32, 16, 8, 8, 4, 4, 4, 4, 4, 4, 2, 2, 2, 2, 2, 2, 2, 2, 2, 2, 2, 2, 2, 2, 2, 2, 2, 2, 2, 2, 2, 2, 2, 2, 0, 0, 0, 0, 0, 0, 0, 0, 0, 0, 0, 0, 0, 0, 0, 0, 0, 0, 0, 0, 0, 0, 0, 0, 0, 0, 0, 0, 0, 0, 0, 0, 0, 0, 0, 0, 0, 0, 0, 0, 0, 0, 0, 0, 0, 0, 0, 0, 0, 0, 0, 0, 0, 0, 0, 0, 0, 0, 0, 0, 0, 0, 0, 0, 0, 0, 0, 0, 0, 0, 0, 0, 0, 0, 0, 0, 0, 0, 0, 0, 0, 0, 0, 0, 0, 0, 0, 0, 0, 0, 0, 0, 0, 0, 0, 0, 0, 0, 0, 0, 0, 0, 0, 0, 0, 0, 0, 0, 0, 0, 0, 0, 0, 0, 0, 0, 0, 0, 0, 0]
theorem ms60_is : masks 6 0 = ms60 := by decide +kernel
theorem ok60 : chk 6 0 ms60 = true := by decide +kernel
def ms61 : List Nat := [61, 61, 61, 61, 61, 61, 61, 61, 61, 61, 61, 61, 61, 61, 61, 61, 61, 61, 61, 61, 61, 61, 61, 61, 57, 57, 57, 57, 57, 57, 53, 53, 45, 29, 45, 29, 53, 53, 45, 29, 45, 29, 53, 53, 45, 29, 45, 29, 49, 49, 41, 25, 41, 25, 49, 49, 41, 25, 41, 25, 37, 21, 37, 21, 13, 13, 37, 21, 37, 21, 13, 13, 33, 17, 33, 17, 9, 9, 33, 17, 33, 17, 9, 9, 33, 17, 33, 17, 9, 9, 5, 5, 5, 5, 5, 5, 1, 1, 1, 1, 1, 1, 1, 1, 1, 1, 1, 1, 1, 1, 1, 1, 1, 1, 1, 1, 1, 1, 1, 1, 60, 60, 60, 60, 60, 60, 60, 60, 60, 60, 60, 60, 60, 60, 60, 60, 60, 60, 60, 60, 60, 60, 60, 60, 57, 57, 57, 57, 57, 57, 53, 53, 45, 29, 45, 29, 53, 53, 45, 29, 45, 29, 53, 53, 45, 29, 45, 29, 49, 49, 41, 25, 41, 25, 49, 49, 41, 25, 41, 25, 37, 21, 37, 21, 13, 13, 37, 21, 37, 21, 13, 13, 33, 17, 33, 17, 9, 9, 33, 17, 33, 17, 9, 9, 33, 17, 33, 17, 9, 9, 5, 5, 5, 5, 5, 5, 1, 1, 1, 1, 1, 1, 1, 1, 1, 1, 1, 1, 1, 1, 1, 1, 1, 1, 1, 1, 1, 1, 1, 1, 60, 60, 60, 60, 60, 60, 60, 60, 60, 60, 60, 60, 60, 60, 60, 60, 60, 60, 60, 60, 60, 60, 60, 60, 56, 56, 56, 56, 56, 56, 52, 52, 44, 28, 44, 28, 52, 52, 44, 28, 44, 28, 52, 52, 44, 28, 44, 28, 49, 49, 41, 25, 41, 25, 49, 49, 41, 25, 41, 25, 37, 21, 37, 21, 13, 13, 37, 21, 37, 21, 13, 13, 33, 17, 33, 17, 9, 9, 33, 17, 33, 17, 9, 9, 33, 17, 33, 17, 9, 9, 5, 5, 5, 5, 5, 5, 1, 1, 1, 1, 1, 1, 1, 1, 1, 1, 1, 1, 1, 1, 1, 1, 1, 1, 1, 1, 1, 1, 1, 1, 60, 60, 60, 60, 60, 60, 60, 60, 60, 60, 60, 60, 60, 60, 60, 60, 60, 60, 60, 60, 60, 60, 60, 60, 56, 56, 56, 56, 56, 56, 52, 52, 44, 28, 44, 28, 52, 52, 44, 28, 44, 28, 52, 52, 44, 28, 44, 28, 48, 48, 40, 24, 40, 24, 48, 48, 40, 24, 40, 24, 36, 20, 36, 20, 12, 12, 36, 20, 36, 20, 12, 12, 33, 17, 33, 17, 9, 9, 33, 17, 33, 17, 9, 9, 33, 17, 33, 17, 9, 9, 5, 5, 5, 5, 5, 5, 1, 1, 1, 1, 1, 1, 1, 1, 1, 1, 1, 1, 1, 1, 1, 1, 1, 1, 1, 1, 1, 1, 1, 1, 60, 60, 60, 60, 60, 60, 60, 60, 60, 60, 60, 60, 60, 60, 60, 60, 60, 60, 60, 60, 60, 60, 60, 60, 56, 56, 56, 56, 56, 56, 52, 52, 44, 28, 44, 28, 52, 52, 44, 28, 44, 28, 52, 52, 44, 28, 44, 28, 48, 48, 40, 24, 40, 24, 48, 48, 40, 24, 40, 24, 36, 20, 36, 20, 12, 12, 36, 20, 36, 20, 12, 12, 32, 16, 32, 16, 8, 8, 32, 16, 32, 16, 8, 8, 32, 16, 32, 16, 8, 8, 4, 4, 4, 4, 4, 4, 1, 1, 1, 1, 1, 1, 1, 1, 1, 1, 1, 1, 1, 1, 1, 1, 1, 1, 1, 1, 1, 1, 1, 1, 60, 60, 60, 60, 60, 60, 60, 60, 60, 60, 60, 60, 60, 60, 60, 60, 60, 60, 60, 60, 60, 60, 60, 60, 56, 56, 56, 56, 56, 56, 52, 52, 44, 28, 44, 28, 52, 52, 44, 28, 44, 28, 52, 52, 44, 28, 44, 28, 48, 48, 40, 24, 40, 24, 48, 48, 40, 24, 40, 24, 36, 20, 36, 20, 12, 12, 36, 20, 36, 20, 12, 12, 32, 16, 32, 16, 8, 8, 32, 16, 32, 16, 8, 8, 32, 16, 32, 16, 8, 8, 4, 4, 4, 4, 4, 4, 0, 0, 0, 0, 0, 0, 0, 0, 0, 0, 0, 0, 0, 0, 0, 0, 0, 0, 0, 0, 0, 0, 0, 0]
theorem ms61_is : masks 6 1 = ms61 := by decide +kernel
theorem ok61 : chk 6 1 ms61 = true := by decide +kernel
def ms62 : List Nat := [59, 59, 59, 59, 59, 59, 51, 51, 43, 27, 43, 27, 35, 19, 35, 19, 11, 11, 3, 3, 3, 3, 3, 3, 57, 57, 57, 57, 57, 57, 51, 51, 43, 27, 43, 27, 35, 19, 35, 19, 11, 11, 3, 3, 3, 3, 3, 3, 57, 57, 57, 57, 57, 57, 49, 49, 41, 25, 41, 25, 35, 19, 35, 19, 11, 11, 3, 3, 3, 3, 3, 3, 57, 57, 57, 57, 57, 57, 49, 49, 41, 25, 41, 25, 33, 17, 33, 17, 9, 9, 3, 3, 3, 3, 3, 3, 57, 57, 57, 57, 57, 57, 49, 49, 41, 25, 41, 25, 33, 17, 33, 17, 9, 9, 1, 1, 1, 1, 1, 1, 59, 59, 59, 59, 59, 59, 51, 51, 43, 27, 43, 27, 35, 19, 35, 19, 11, 11, 3, 3, 3, 3, 3, 3, 56, 56, 56, 56, 56, 56, 51, 51, 43, 27, 43, 27, 35, 19, 35, 19, 11, 11, 3, 3, 3, 3, 3, 3, 56, 56, 56, 56, 56, 56, 49, 49, 41, 25, 41, 25, 35, 19, 35, 19, 11, 11, 3, 3, 3, 3, 3, 3, 56, 56, 56, 56, 56, 56, 49, 49, 41, 25, 41, 25, 33, 17, 33, 17, 9, 9, 3, 3, 3, 3, 3, 3, 56, 56, 56, 56, 56, 56, 49, 49, 41, 25, 41, 25, 33, 17, 33, 17, 9, 9, 1, 1, 1, 1, 1, 1, 58, 58, 58, 58, 58, 58, 51, 51, 43, 27, 43, 27, 35, 19, 35, 19, 11, 11, 3, 3, 3, 3, 3, 3, 56, 56, 56, 56, 56, 56, 51, 51, 43, 27, 43, 27, 35, 19, 35, 19, 11, 11, 3, 3, 3, 3, 3, 3, 56, 56, 56, 56, 56, 56, 48, 48, 40, 24, 40, 24, 35, 19, 35, 19, 11, 11, 3, 3, 3, 3, 3, 3, 56, 56, 56, 56, 56, 56, 48, 48, 40, 24, 40, 24, 33, 17, 33, 17, 9, 9, 3, 3, 3, 3, 3, 3, 56, 56, 56, 56, 56, 56, 48, 48, 40, 24, 40, 24, 33, 17, 33, 17, 9, 9, 1, 1, 1, 1, 1, 1, 58, 58, 58, 58, 58, 58, 50, 50, 42, 26, 42, 26, 35, 19, 35, 19, 11, 11, 3, 3, 3, 3, 3, 3, 56, 56, 56, 56, 56, 56, 50, 50, 42, 26, 42, 26, 35, 19, 35, 19, 11, 11, 3, 3, 3, 3, 3, 3, 56, 56, 56, 56, 56, 56, 48, 48, 40, 24, 40, 24, 35, 19, 35, 19, 11, 11, 3, 3, 3, 3, 3, 3, 56, 56, 56, 56, 56, 56, 48, 48, 40, 24, 40, 24, 32, 16, 32, 16, 8, 8, 3, 3, 3, 3, 3, 3, 56, 56, 56, 56, 56, 56, 48, 48, 40, 24, 40, 24, 32, 16, 32, 16, 8, 8, 1, 1, 1, 1, 1, 1, 58, 58, 58, 58, 58, 58, 50, 50, 42, 26, 42, 26, 34, 18, 34, 18, 10, 10, 3, 3, 3, 3, 3, 3, 56, 56, 56, 56, 56, 56, 50, 50, 42, 26, 42, 26, 34, 18, 34, 18, 10, 10, 3, 3, 3, 3, 3, 3, 56, 56, 56, 56, 56, 56, 48, 48, 40, 24, 40, 24, 34, 18, 34, 18, 10, 10, 3, 3, 3, 3, 3, 3, 56, 56, 56, 56, 56, 56, 48, 48, 40, 24, 40, 24, 32, 16, 32, 16, 8, 8, 3, 3, 3, 3, 3, 3, 56, 56, 56, 56, 56, 56, 48, 48, 40, 24, 40, 24, 32, 16, 32, 16, 8, 8, 0, 0, 0, 0, 0, 0, 58, 58, 58, 58, 58, 58, 50, 50, 42, 26, 42, 26, 34, 18, 34, 18, 10, 10, 2, 2, 2, 2, 2, 2, 56, 56, 56, 56, 56, 56, 50, 50, 42, 26, 42, 26, 34, 18, 34, 18, 10, 10, 2, 2, 2, 2, 2, 2, 56, 56, 56, 56, 56, 56, 48, 48, 40, 24, 40, 24, 34, 18, 34, 18, 10, 10, 2, 2, 2, 2, 2, 2, 56, 56, 56, 56, 56, 56, 48, 48, 40, 24, 40, 24, 32, 16, 32, 16, 8, 8, 2, 2, 2, 2, 2, 2, 56, 56, 56, 56, 56, 56, 48, 48, 40, 24, 40, 24, 32, 16, 32, 16, 8, 8, 0, 0, 0, 0, 0, 0]
theorem ms62_is : masks 6 2 = ms62 := by decide +kernel
theorem ok62 : chk 6 2 ms62 = true := by decide +kernel
def ms63 : List Nat := [55, 55, 39, 23, 7, 7, 51, 51, 39, 23, 7, 7, 51, 51, 35, 19, 7, 7, 51, 51, 35, 19, 3, 3, 55, 55, 39, 23, 7, 7, 49, 49, 39, 23, 7, 7, 49, 49, 35, 19, 7, 7, 49, 49, 35, 19, 3, 3, 53, 53, 39, 23, 7, 7, 49, 49, 39, 23, 7, 7, 49, 49, 33, 17, 7, 7, 49, 49, 33, 17, 3, 3, 53, 53, 37, 21, 7, 7, 49, 49, 37, 21, 7, 7, 49, 49, 33, 17, 7, 7, 49, 49, 33, 17, 1, 1, 53, 53, 37, 21, 5, 5, 49, 49, 37, 21, 5, 5, 49, 49, 33, 17, 5, 5, 49, 49, 33, 17, 1, 1, 55, 55, 39, 23, 7, 7, 51, 51, 39, 23, 7, 7, 51, 51, 35, 19, 7, 7, 51, 51, 35, 19, 3, 3, 55, 55, 39, 23, 7, 7, 48, 48, 39, 23, 7, 7, 48, 48, 35, 19, 7, 7, 48, 48, 35, 19, 3, 3, 53, 53, 39, 23, 7, 7, 48, 48, 39, 23, 7, 7, 48, 48, 33, 17, 7, 7, 48, 48, 33, 17, 3, 3, 53, 53, 37, 21, 7, 7, 48, 48, 37, 21, 7, 7, 48, 48, 33, 17, 7, 7, 48, 48, 33, 17, 1, 1, 53, 53, 37, 21, 5, 5, 48, 48, 37, 21, 5, 5, 48, 48, 33, 17, 5, 5, 48, 48, 33, 17, 1, 1, 55, 55, 39, 23, 7, 7, 50, 50, 39, 23, 7, 7, 50, 50, 35, 19, 7, 7, 50, 50, 35, 19, 3, 3, 55, 55, 39, 23, 7, 7, 48, 48, 39, 23, 7, 7, 48, 48, 35, 19, 7, 7, 48, 48, 35, 19, 3, 3, 52, 52, 39, 23, 7, 7, 48, 48, 39, 23, 7, 7, 48, 48, 32, 16, 7, 7, 48, 48, 32, 16, 3, 3, 52, 52, 37, 21, 7, 7, 48, 48, 37, 21, 7, 7, 48, 48, 32, 16, 7, 7, 48, 48, 32, 16, 1, 1, 52, 52, 37, 21, 5, 5, 48, 48, 37, 21, 5, 5, 48, 48, 32, 16, 5, 5, 48, 48, 32, 16, 1, 1, 54, 54, 39, 23, 7, 7, 50, 50, 39, 23, 7, 7, 50, 50, 34, 18, 7, 7, 50, 50, 34, 18, 3, 3, 54, 54, 39, 23, 7, 7, 48, 48, 39, 23, 7, 7, 48, 48, 34, 18, 7, 7, 48, 48, 34, 18, 3, 3, 52, 52, 39, 23, 7, 7, 48, 48, 39, 23, 7, 7, 48, 48, 32, 16, 7, 7, 48, 48, 32, 16, 3, 3, 52, 52, 36, 20, 7, 7, 48, 48, 36, 20, 7, 7, 48, 48, 32, 16, 7, 7, 48, 48, 32, 16, 0, 0, 52, 52, 36, 20, 5, 5, 48, 48, 36, 20, 5, 5, 48, 48, 32, 16, 5, 5, 48, 48, 32, 16, 0, 0, 54, 54, 38, 22, 7, 7, 50, 50, 38, 22, 7, 7, 50, 50, 34, 18, 7, 7, 50, 50, 34, 18, 2, 2, 54, 54, 38, 22, 7, 7, 48, 48, 38, 22, 7, 7, 48, 48, 34, 18, 7, 7, 48, 48, 34, 18, 2, 2, 52, 52, 38, 22, 7, 7, 48, 48, 38, 22, 7, 7, 48, 48, 32, 16, 7, 7, 48, 48, 32, 16, 2, 2, 52, 52, 36, 20, 7, 7, 48, 48, 36, 20, 7, 7, 48, 48, 32, 16, 7, 7, 48, 48, 32, 16, 0, 0, 52, 52, 36, 20, 4, 4, 48, 48, 36, 20, 4, 4, 48, 48, 32, 16, 4, 4, 48, 48, 32, 16, 0, 0, 54, 54, 38, 22, 6, 6, 50, 50, 38, 22, 6, 6, 50, 50, 34, 18, 6, 6, 50, 50, 34, 18, 2, 2, 54, 54, 38, 22, 6, 6, 48, 48, 38, 22, 6, 6, 48, 48, 34, 18, 6, 6, 48, 48, 34, 18, 2, 2, 52, 52, 38, 22, 6, 6, 48, 48, 38, 22, 6, 6, 48, 48, 32, 16, 6, 6, 48, 48, 32, 16, 2, 2, 52, 52, 36, 20, 6, 6, 48, 48, 36, 20, 6, 6, 48, 48, 32, 16, 6, 6, 48, 48, 32, 16, 0, 0, 52, 52, 36, 20, 4, 4, 48, 48, 36, 20, 4, 4, 48, 48, 32, 16, 4, 4, 48, 48, 32, 16, 0, 0]
theorem ms63_is : masks 6 3 = ms63 := by decide +kernel
theorem ok63 : chk 6 3 ms63 = true := by decide +kernel
def ms64 : List Nat := [47, 15, 39, 15, 39, 7, 47, 15, 35, 15, 35, 7, 43, 15, 35, 15, 35, 3, 43, 11, 35, 11, 35, 3, 47, 15, 39, 15, 39, 7, 47, 15, 33, 15, 33, 7, 43, 15, 33, 15, 33, 3, 43, 11, 33, 11, 33, 3, 47, 15, 37, 15, 37, 7, 47, 15, 33, 15, 33, 7, 41, 15, 33, 15, 33, 1, 41, 11, 33, 11, 33, 1, 45, 15, 37, 15, 37, 5, 45, 15, 33, 15, 33, 5, 41, 15, 33, 15, 33, 1, 41, 9, 33, 9, 33, 1, 45, 13, 37, 13, 37, 5, 45, 13, 33, 13, 33, 5, 41, 13, 33, 13, 33, 1, 41, 9, 33, 9, 33, 1, 47, 15, 39, 15, 39, 7, 47, 15, 35, 15, 35, 7, 43, 15, 35, 15, 35, 3, 43, 11, 35, 11, 35, 3, 47, 15, 39, 15, 39, 7, 47, 15, 32, 15, 32, 7, 43, 15, 32, 15, 32, 3, 43, 11, 32, 11, 32, 3, 47, 15, 37, 15, 37, 7, 47, 15, 32, 15, 32, 7, 41, 15, 32, 15, 32, 1, 41, 11, 32, 11, 32, 1, 45, 15, 37, 15, 37, 5, 45, 15, 32, 15, 32, 5, 41, 15, 32, 15, 32, 1, 41, 9, 32, 9, 32, 1, 45, 13, 37, 13, 37, 5, 45, 13, 32, 13, 32, 5, 41, 13, 32, 13, 32, 1, 41, 9, 32, 9, 32, 1, 47, 15, 39, 15, 39, 7, 47, 15, 34, 15, 34, 7, 43, 15, 34, 15, 34, 3, 43, 11, 34, 11, 34, 3, 47, 15, 39, 15, 39, 7, 47, 15, 32, 15, 32, 7, 43, 15, 32, 15, 32, 3, 43, 11, 32, 11, 32, 3, 47, 15, 36, 15, 36, 7, 47, 15, 32, 15, 32, 7, 40, 15, 32, 15, 32, 0, 40, 11, 32, 11, 32, 0, 45, 15, 36, 15, 36, 5, 45, 15, 32, 15, 32, 5, 40, 15, 32, 15, 32, 0, 40, 9, 32, 9, 32, 0, 45, 13, 36, 13, 36, 5, 45, 13, 32, 13, 32, 5, 40, 13, 32, 13, 32, 0, 40, 9, 32, 9, 32, 0, 47, 15, 38, 15, 38, 7, 47, 15, 34, 15, 34, 7, 42, 15, 34, 15, 34, 2, 42, 11, 34, 11, 34, 2, 47, 15, 38, 15, 38, 7, 47, 15, 32, 15, 32, 7, 42, 15, 32, 15, 32, 2, 42, 11, 32, 11, 32, 2, 47, 15, 36, 15, 36, 7, 47, 15, 32, 15, 32, 7, 40, 15, 32, 15, 32, 0, 40, 11, 32, 11, 32, 0, 44, 15, 36, 15, 36, 4, 44, 15, 32, 15, 32, 4, 40, 15, 32, 15, 32, 0, 40, 8, 32, 8, 32, 0, 44, 13, 36, 13, 36, 4, 44, 13, 32, 13, 32, 4, 40, 13, 32, 13, 32, 0, 40, 8, 32, 8, 32, 0, 46, 15, 38, 15, 38, 6, 46, 15, 34, 15, 34, 6, 42, 15, 34, 15, 34, 2, 42, 10, 34, 10, 34, 2, 46, 15, 38, 15, 38, 6, 46, 15, 32, 15, 32, 6, 42, 15, 32, 15, 32, 2, 42, 10, 32, 10, 32, 2, 46, 15, 36, 15, 36, 6, 46, 15, 32, 15, 32, 6, 40, 15, 32, 15, 32, 0, 40, 10, 32, 10, 32, 0, 44, 15, 36, 15, 36, 4, 44, 15, 32, 15, 32, 4, 40, 15, 32, 15, 32, 0, 40, 8, 32, 8, 32, 0, 44, 12, 36, 12, 36, 4, 44, 12, 32, 12, 32, 4, 40, 12, 32, 12, 32, 0, 40, 8, 32, 8, 32, 0, 46, 14, 38, 14, 38, 6, 46, 14, 34, 14, 34, 6, 42, 14, 34, 14, 34, 2, 42, 10, 34, 10, 34, 2, 46, 14, 38, 14, 38, 6, 46, 14, 32, 14, 32, 6, 42, 14, 32, 14, 32, 2, 42, 10, 32, 10, 32, 2, 46, 14, 36, 14, 36, 6, 46, 14, 32, 14, 32, 6, 40, 14, 32, 14, 32, 0, 40, 10, 32, 10, 32, 0, 44, 14, 36, 14, 36, 4, 44, 14, 32, 14, 32, 4, 40, 14, 32, 14, 32, 0, 40, 8, 32, 8, 32, 0, 44, 12, 36, 12, 36, 4, 44, 12, 32, 12, 32, 4, 40, 12, 32, 12, 32, 0, 40, 8, 32, 8, 32, 0]
theorem ms64_is : masks 6 4 = ms64 := by decide +kernel
theorem ok64 : chk 6 4 ms64 = true := by decide +kernel
def ms65 : List Nat := [31, 15, 31, 7, 23, 7, 31, 15, 31, 3, 23, 3, 31, 11, 31, 3, 19, 3, 27, 11, 27, 3, 19, 3, 31, 15, 31, 7, 23, 7, 31, 15, 31, 1, 23, 1, 31, 11, 31, 1, 19, 1, 27, 11, 27, 1, 19, 1, 31, 15, 31, 5, 23, 5, 31, 15, 31, 1, 23, 1, 31, 9, 31, 1, 17, 1, 27, 9, 27, 1, 17, 1, 31, 13, 31, 5, 21, 5, 31, 13, 31, 1, 21, 1, 31, 9, 31, 1, 17, 1, 25, 9, 25, 1, 17, 1, 29, 13, 29, 5, 21, 5, 29, 13, 29, 1, 21, 1, 29, 9, 29, 1, 17, 1, 25, 9, 25, 1, 17, 1, 31, 15, 31, 7, 23, 7, 31, 15, 31, 3, 23, 3, 31, 11, 31, 3, 19, 3, 27, 11, 27, 3, 19, 3, 31, 15, 31, 7, 23, 7, 31, 15, 31, 0, 23, 0, 31, 11, 31, 0, 19, 0, 27, 11, 27, 0, 19, 0, 31, 15, 31, 5, 23, 5, 31, 15, 31, 0, 23, 0, 31, 9, 31, 0, 17, 0, 27, 9, 27, 0, 17, 0, 31, 13, 31, 5, 21, 5, 31, 13, 31, 0, 21, 0, 31, 9, 31, 0, 17, 0, 25, 9, 25, 0, 17, 0, 29, 13, 29, 5, 21, 5, 29, 13, 29, 0, 21, 0, 29, 9, 29, 0, 17, 0, 25, 9, 25, 0, 17, 0, 31, 15, 31, 7, 23, 7, 31, 15, 31, 2, 23, 2, 31, 11, 31, 2, 19, 2, 27, 11, 27, 2, 19, 2, 31, 15, 31, 7, 23, 7, 31, 15, 31, 0, 23, 0, 31, 11, 31, 0, 19, 0, 27, 11, 27, 0, 19, 0, 31, 15, 31, 4, 23, 4, 31, 15, 31, 0, 23, 0, 31, 8, 31, 0, 16, 0, 27, 8, 27, 0, 16, 0, 31, 13, 31, 4, 21, 4, 31, 13, 31, 0, 21, 0, 31, 8, 31, 0, 16, 0, 25, 8, 25, 0, 16, 0, 29, 13, 29, 4, 21, 4, 29, 13, 29, 0, 21, 0, 29, 8, 29, 0, 16, 0, 25, 8, 25, 0, 16, 0, 31, 15, 31, 6, 23, 6, 31, 15, 31, 2, 23, 2, 31, 10, 31, 2, 18, 2, 27, 10, 27, 2, 18, 2, 31, 15, 31, 6, 23, 6, 31, 15, 31, 0, 23, 0, 31, 10, 31, 0, 18, 0, 27, 10, 27, 0, 18, 0, 31, 15, 31, 4, 23, 4, 31, 15, 31, 0, 23, 0, 31, 8, 31, 0, 16, 0, 27, 8, 27, 0, 16, 0, 31, 12, 31, 4, 20, 4, 31, 12, 31, 0, 20, 0, 31, 8, 31, 0, 16, 0, 24, 8, 24, 0, 16, 0, 29, 12, 29, 4, 20, 4, 29, 12, 29, 0, 20, 0, 29, 8, 29, 0, 16, 0, 24, 8, 24, 0, 16, 0, 31, 14, 31, 6, 22, 6, 31, 14, 31, 2, 22, 2, 31, 10, 31, 2, 18, 2, 26, 10, 26, 2, 18, 2, 31, 14, 31, 6, 22, 6, 31, 14, 31, 0, 22, 0, 31, 10, 31, 0, 18, 0, 26, 10, 26, 0, 18, 0, 31, 14, 31, 4, 22, 4, 31, 14, 31, 0, 22, 0, 31, 8, 31, 0, 16, 0, 26, 8, 26, 0, 16, 0, 31, 12, 31, 4, 20, 4, 31, 12, 31, 0, 20, 0, 31, 8, 31, 0, 16, 0, 24, 8, 24, 0, 16, 0, 28, 12, 28, 4, 20, 4, 28, 12, 28, 0, 20, 0, 28, 8, 28, 0, 16, 0, 24, 8, 24, 0, 16, 0, 30, 14, 30, 6, 22, 6, 30, 14, 30, 2, 22, 2, 30, 10, 30, 2, 18, 2, 26, 10, 26, 2, 18, 2, 30, 14, 30, 6, 22, 6, 30, 14, 30, 0, 22, 0, 30, 10, 30, 0, 18, 0, 26, 10, 26, 0, 18, 0, 30, 14, 30, 4, 22, 4, 30, 14, 30, 0, 22, 0, 30, 8, 30, 0, 16, 0, 26, 8, 26, 0, 16, 0, 30, 12, 30, 4, 20, 4, 30, 12, 30, 0, 20, 0, 30, 8, 30, 0, 16, 0, 24, 8, 24, 0, 16, 0, 28, 12, 28, 4, 20, 4, 28, 12, 28, 0, 20, 0, 28, 8, 28, 0, 16, 0, 24, 8, 24, 0, 16, 0]
theorem ms65_is : masks 6 5 = ms65 := by decide +kernel
theorem ok65 : chk 6 5 ms65 = true := by decide +kernel
theorem chk_small : ((List.range 5).all fun n => (List.range n).all fun i => chk n i (masks n i)) = true := by decide +kernel
theorem chk_all : ∀ n i, n ≤ 6 → i < n → chk n i (masks n i) = true
  | 0, _, _, h => absurd h (Nat.not_lt_zero _)
  | 5, 0, _, _ => by rw [ms50_is]; exact ok50
  | 5, 1, _, _ => by rw [ms51_is]; exact ok51
  | 5, 2, _, _ => by rw [ms52_is]; exact ok52
  | 5, 3, _, _ => by rw [ms53_is]; exact ok53
  | 5, 4, _, _ => by rw [ms54_is]; exact ok54
  | 6, 0, _, _ => by rw [ms60_is]; exact ok60
  | 6, 1, _, _ => by rw [ms61_is]; exact ok61
  | 6, 2, _, _ => by rw [ms62_is]; exact ok62
  | 6, 3, _, _ => by rw [ms63_is]; exact ok63
  | 6, 4, _, _ => by rw [ms64_is]; exact ok64
  | 6, 5, _, _ => by rw [ms65_is]; exact ok65
  | 5, i + 5, _, h => by omega
  | 6, i + 6, _, h => by omega
  | n + 7, _, h, _ => by omega
  | 1, i, _, h => List.all_eq_true.mp (List.all_eq_true.mp chk_small 1 (by decide)) i (List.mem_range.mpr h)
  | 2, i, _, h => List.all_eq_true.mp (List.all_eq_true.mp chk_small 2 (by decide)) i (List.mem_range.mpr h)
  | 3, i, _, h => List.all_eq_true.mp (List.all_eq_true.mp chk_small 3 (by decide)) i (List.mem_range.mpr h)
  | 4, i, _, h => List.all_eq_true.mp (List.all_eq_true.mp chk_small 4 (by decide)) i (List.mem_range.mpr h)
end HSP
namespace HSP
open PySem PySem.Spec PyProof.Rows L2
/-! ### math.factorial -/
theorem fac_fct : ∀ n, Builtin.Math.factorialNat n = fct n
  | 0 => rfl
  | n + 1 => by rw [PySem.W.mc_fac_succ, fac_fct n]; rfl
section
variable {X : Cx}
def rFac : List V → Hp → VK → Prop := fun vs H Q => ∃ n : Nat, vs = [.int (n : Int)] ∧ n ≤ 20000 ∧ Q (.int ((fct n : Nat) : Int)) H
theorem cr_fac : CallR X (.builtin "math.factorial") rFac := by
  intro pins s σ H vs us Q I r h
  obtain ⟨n, rfl, hn, q⟩ := h
  cases r with
  | cons r1 t1 =>
    cases t1
    obtain ⟨t, rfl⟩ := r1
    refine PySem.W.mc_factorial (by omega) (by omega) fun _ => ?_
    refine ⟨.int _, H, I.tok _, ⟨_, rfl⟩, ?_⟩
    rw [show Builtin.Math.factorialNat ((n : Int)).toNat = fct n from by rw [Int.toNat_natCast, fac_fct]]
    exact q
/-! ### list.count of a text -/
def eqkS (k : Str) (v : Value) : Bool := match v with
  | .str n _ => n == k
  | _ => false
theorem eqkS_gives {k : Str} {t : Tok} : ∀ {us : List Value} {ns : List Str}, Vals (ns.map V.str) us → (∀ y ∈ us, MeetsSeq.EqGives y (.str k t) (eqkS k y)) ∧ us.countP (eqkS k) = ns.count k
  | [], [], .nil => ⟨fun y hy => (by cases hy), rfl⟩
  | u :: us, n :: ns, .cons h1 h2 => by
    obtain ⟨g, c⟩ := eqkS_gives (k := k) (t := t) h2
    obtain ⟨t', rfl⟩ := h1
    refine ⟨fun y hy => ?_, ?_⟩
    · rcases List.mem_cons.mp hy with e | e
      · rw [e]
        show MeetsSeq.EqGives (.str n t') (.str k t) (n == k)
        rw [← PySem.SeqAt.str_beq]
        exact SeqRoads2.EqGives.str n k t' t
      · exact g y e
    · rw [List.countP_cons, List.count_cons, c] <;> rfl
def rCntS (K : PySem.W.Frag) : V → List V → Hp → VK → Prop := fun x xs H Q => ∃ (p : Addr) (ns : List Str) (k : Str), x = .ref p ∧ xs = [.str k] ∧ SqL K H p (ns.map V.str) ∧ Q (.int (ns.count k : Nat)) H
theorem mt_countS : MtR X "list.count" (rCntS X.K) := by
  intro pins s σ H x xs v us Q I rx rxs h
  obtain ⟨p, ns, k, rfl, rfl, hs, q⟩ := h
  cases rx
  obtain ⟨u, rfl, ru⟩ := rxs.one
  obtain ⟨t, rfl⟩ := ru
  obtain ⟨its, rv, ⟨⟨cls, dd, data, sl⟩, n, ho, hc, hdn, hd⟩, hlen⟩ := I.list hs
  simp only at hc hd
  subst hc hd
  obtain ⟨gives, cnt⟩ := eqkS_gives (k := k) (t := t) rv
  refine call_meets PySem.F.slot_list_count ⟨_, ho, rfl⟩ PySem.F.entry_list_count (PySem.F.args_list_count_2 _ _)
    (SeqAt.list_countAt p its.toArray n dd sl (.str k t) (eqkS k)) ⟨ho, fun y hy => (gives y (by simpa using hy)).at _ _, ?_⟩
  have ec : its.toArray.toList.countP (eqkS k) = ns.count k := cnt
  refine ⟨.int (ns.count k : Nat), H, I.tok _, ⟨s.toks, ?_⟩, q⟩
  show Value.int ((its.toArray.toList.countP (eqkS k) : Nat) : Int) s.toks = Value.int ((ns.count k : Nat) : Int) s.toks
  rw [ec]
end
end HSP
namespace HSP
open PySem PySem.Spec PyProof.Rows L2
/-! ### lists of data as data -/
theorem dl_can : ∀ {ds : List PyData}, (∀ d, d ∈ ds → PyData.canLay0 d = true) → PyData.canLayAll0 ds = true
  | [], _ => by simp [PyData.canLayAll0]
  | z :: r, h => by
    have ih := dl_can (ds := r) fun d hd => h d (List.mem_cons_of_mem _ hd)
    have h1 := h z List.mem_cons_self
    simp only [PyData.canLayAll0, ih, h1, Bool.and_self]
theorem dl_deep : ∀ {ds : List PyData}, (∀ d, d ∈ ds → d.depth ≤ 5) → PyData.depthAll ds ≤ 6
  | [], _ => by simp [PyData.depthAll]
  | z :: r, h => by
    have ih := dl_deep (ds := r) fun d hd => h d (List.mem_cons_of_mem _ hd)
    have h1 := h z List.mem_cons_self
    simp only [PyData.depthAll]
    omega
theorem dl_can0 {ds : List PyData} (h : ∀ d, d ∈ ds → PyData.canLay0 d = true) : PyData.canLay0 (.list ds) = true := by
  simp only [PyData.canLay0]
  exact dl_can h
theorem dl_shaped {ds : List PyData} (h : ∀ d, d ∈ ds → PyData.canLay0 d = true) (h2 : ∀ d, d ∈ ds → d.depth ≤ 5) : SeqAt.shaped (.list ds) = true := by
  unfold SeqAt.shaped
  rw [Bool.and_eq_true]
  refine ⟨dl_can0 h, decide_eq_true ?_⟩
  have := dl_deep h2
  simp only [PyData.depth]
  omega
theorem ints_depth (l : List Int) : (intsD l).depth ≤ 5 := by
  have := ints_deep l
  unfold intsD
  simp only [PyData.depth]
  omega
theorem ssD_depth (l : List Str) : (ssD l).depth ≤ 5 := by
  have := ss_deep l
  unfold ssD
  simp only [PyData.depth]
  omega
theorem dl_all {K : PySem.W.Frag} {H : Hp} {α : Type} {f : α → PyData} {g : α → Addr} : ∀ {l : List α}, (∀ r, r ∈ l → Dp K H (.ref (g r)) (f r)) → DpAll K H (l.map fun r => V.ref (g r)) (l.map f)
  | [], _ => .nil
  | z :: r, h => .cons (h z List.mem_cons_self) (dl_all fun x hx => h x (List.mem_cons_of_mem _ hx))
theorem labSS_in (g : Nat → Int) (t : Tr) : ∀ s, s ∈ labSS g t → PyData.strOk s = true := fun s hs => by
  unfold labSS at hs
  obtain ⟨i, _, rfl⟩ := List.mem_map.mp hs
  cases labAt g t i <;> decide +kernel
/-- the row of a pattern, and its blocks -/
def rwS (t : Tr) (ls : List Str) : List Int := ((rowsN t.size).find? fun r => decide (labSS (valAt r) t = ls)).getD []
theorem rwS_of {t : Tr} {r : List Int} (h : r ∈ rowsN t.size) : rwS t (labSS (valAt r) t) = r := by
  unfold rwS
  have he : ((rowsN t.size).find? fun x => decide (labSS (valAt x) t = labSS (valAt r) t)).isSome = true := List.find?_isSome.mpr ⟨r, h, decide_eq_true rfl⟩
  obtain ⟨x, hx⟩ := Option.isSome_iff_exists.mp he
  rw [hx]
  show x = r
  exact row_one (List.mem_of_find?_eq_some hx) h (labSS_iff.mp (of_decide_eq_true (List.find?_some (p := fun x => decide (labSS (valAt x) t = labSS (valAt r) t)) hx)))
def bkS (t : Tr) (ls : List Str) : List Nat := blocksN (valAt (rwS t ls)) t
theorem bks_pats {t : Tr} (h : t.size ≤ 8) {lss : List (List Str)} (pm : lss.Perm (patL t)) : (lss.map (bkS t)).Perm (cutG t.size) := by
  have h1 := pm.map (bkS t)
  have h2 : (patL t).map (bkS t) = (rowsN t.size).map fun r => blocksN (valAt r) t := by
    unfold patL
    rw [List.map_map]
    exact List.map_congr_left fun r hr => by
      show blocksN (valAt (rwS t (labSS (valAt r) t))) t = _
      rw [rwS_of hr]
  rw [h2] at h1
  exact h1.trans (all_cuts (Nat.le_refl _))
/-- rows of numbers, each with its place -/
theorem rows_pairs {H : Hp} : ∀ {as : List Addr} {lss : List (List Nat)}, Paired (fun a (l : List Nat) => H a = some (.lst (l.map natV))) as lss →
    ∃ rows : List (Addr × List Int), rows.map (fun r => V.ref r.1) = as.map V.ref ∧ rows.map Prod.snd = lss.map (fun l => l.map Int.ofNat) ∧ ∀ r, r ∈ rows → H r.1 = some (.lst (r.2.map V.int))
  | _, _, .nil => ⟨[], rfl, rfl, fun r hr => nomatch hr⟩
  | _, _, .cons (a := a) (b := b) h t' => by
    obtain ⟨rows, e1, e2, e3⟩ := rows_pairs t'
    refine ⟨(a, b.map Int.ofNat) :: rows, by rw [List.map_cons, List.map_cons, e1], by rw [List.map_cons, List.map_cons, e2], fun r hr => ?_⟩
    rcases List.mem_cons.mp hr with z | z
    · rw [z]
      show H a = some (.lst ((b.map Int.ofNat).map V.int))
      rw [h, List.map_map]
      rfl
    · exact e3 r z
theorem room_65 {k : Nat} {A : Around} (r : Room k A) : A.units + 65 < cLine := by have := r.un; omega
def spRightL : Sp := fun vs H Q _ => ∃ (p : Addr) (k : Nat), vs = [.ref p] ∧ DrAt H p k ∧ k ≤ 1000 ∧ ∀ H' : Hp, Keep p H H' → DrAt H' p (k + 600) → Q (.bl true) H'
section
variable {P : Program} {w : World} {K : PySem.W.Frag} {mg : Str → Option Value} {base : Heap}
theorem sc_law_right : FnScope n_law_right ["draws"] (defScope s_law_right) := ⟨rfl, rfl, rfl, by decide +kernel, rfl, by decide +kernel, by decide +kernel⟩
theorem ok_right (B : Bl mg) (N : Df P w K mg base "_law_next" 1 ["draws"] spNext) (T : Df P w K mg base "_law_tree" 10 ["draws", "room"] (spDraw 9)) (Z : Df P w K mg base "_law_size" 9 n_law_size (spSize 9)) (Va : Df P w K mg base "_law_values" 2 ["draws", "many"] spValues)
    (Cu : Df P w K mg base "_law_cuttings" 9 ["many"] (spCuts 9)) (Ep : DfGn P w K mg base "each_pattern" 6 ["tree"] spEach) (Bk : DfB P w K mg base "blocks" 5 ["tree", "pattern"] ["pattern", "tree"] spBlocks) (Po : DfB P w K mg base "pattern_of" 5 ["tree", "lengths"] ["lengths", "tree"] spPatOf) (Cg : DfB P w K mg base "check_pattern" 4 ["tree", "pattern"] ["pattern", "tree"] spChkG)
    (Lb : DfB P w K mg base "labels" 5 ["tree", "values"] ["values", "tree"] spLabels) (Cp : Df P w K mg base "count_patterns" 3 ["tree"] spCntP)
    (a : At K mg "_law_right" s_law_right) : DfG P w K mg base "_law_right" 17 ["draws"] spRightL := by
  refine DfG.mk' a sc_law_right (fun vs H Q E h => ?_) (fun _ _ _ _ _ _ us hl => match us, hl with | [_], _ => rfl) (fun f cdv A0 outer s H vs Q E hg hr h => ?_)
  · obtain ⟨p, k, rfl, _⟩ := h
    rfl
  obtain ⟨p, k, rfl, hd, hk, q⟩ := h
  refine ⟨_, (pss_cons (ps_set (i := 1) sc_law_right.nd rfl (.inr rfl) (pe_df T (hr.mono (by decide)) (pa_cons (pv 0) (pa_cons (pe_op op_mod (pe_callTy call_int1 (by rfl) B.int (by decide +kernel) (pa_cons (pe_df N (hr.mono (by decide)) (pa_cons (pv 0) pa_nil)) pa_nil)) pe_int) pa_nil))))
 (pss_cons (ps_set (i := 2) sc_law_right.nd rfl (.inl rfl) (pe_df Z (hr.mono (by decide)) (pa_cons (pv 1) pa_nil)))
 (pss_cons (ps_set (i := 3) sc_law_right.nd rfl (.inl rfl) (pe_listDf Ep (hr.mono (by decide)) B.list (pa_cons (pv 1) pa_nil)))
 (pss_cons (ps_if (pt_cmpR (op_neD hr.units) (pe_callB (cr_sortedG intsD hr.units) (by rfl) B.sorted (by decide +kernel) (pa_cons (pe_lc (own := [("pattern", 4)]) (g := (gName 4)) (tt := tYes) (by rfl) sc_law_right.nd (pi_list (pv 3)) (blkOk_by (N := n_law_right) (sc := defScope s_law_right) (by decide +kernel)) (fun _ _ _ _ _ => (pg_name (i := 4) sc_law_right.nd rfl (.inl rfl))) (fun _ _ _ _ _ => pts_nil) (fun _ _ _ _ _ => (pe_df Bk.df (hr.mono (by decide)) (pa_cons (pv 1) (pa_cons (pv 4) pa_nil))))) pa_nil)) (pe_callB (cr_sortedG intsD hr.units) (by rfl) B.sorted (by decide +kernel) (pa_cons (pe_df Cu (hr.mono (by decide)) (pa_cons (pv 2) pa_nil)) pa_nil)) (nomark _)) (pss_one (ps_ret pe_bl)) pss_nil)
 (C8.pss_cut (ps_if (pt_cmpR op_ne (pe_callB call_len_seq (by rfl) B.len PySem.boot_len (pa_cons (pv 3) pa_nil)) (pe_df Cp (hr.mono (by decide)) (pa_cons (pv 1) pa_nil)) (nomark _)) (pss_one (ps_ret pe_bl)) pss_nil)
 (C8.pss_cut (ps_for PassesOwn.never rfl (pi_list (pv 3)) (pg_name (i := 4) sc_law_right.nd rfl (.inl rfl)) (pss_cons (ps_if (PW.pt (pw_or (pt_cmpR (op_neD hr.units) (pe_df Po.df (hr.mono (by decide)) (pa_cons (pv 1) (pa_cons (pe_df Bk.df (hr.mono (by decide)) (pa_cons (pv 1) (pa_cons (pv 4) pa_nil))) pa_nil))) (pv 4) (nomark _)) (pw_or1 (pt_cmpR op_notN (pe_df Cg.df (hr.mono (by decide)) (pa_cons (pv 1) (pa_cons (pv 4) pa_nil))) pe_non (nomark _))))) (pss_one (ps_ret pe_bl)) pss_nil)
 (pss_one (ps_if (pt_cmpR op_ne (pe_bm PySem.F.plainAttrs_list PySem.F.slot_list_count PySem.F.type_list_count mt_countS (pv 4) (pa_cons pe_str pa_nil)) (pe_callB call_len_seq (by rfl) B.len PySem.boot_len (pa_cons (pe_df Bk.df (hr.mono (by decide)) (pa_cons (pv 1) (pa_cons (pv 4) pa_nil))) pa_nil)) (nomark _)) (pss_one (ps_ret pe_bl)) pss_nil))))
 (C8.pss_cut (ps_for PassesOwn.never rfl (pi_range1 (by rfl) B.range (pa_cons pe_int pa_nil)) (pg_name (i := 5) sc_law_right.nd rfl (.inl rfl)) (pss_one (ps_if (pt_cmpR (op_notInD (room_65 hr)) (pe_df Lb.df (hr.mono (by decide)) (pa_cons (pv 1) (pa_cons (pe_df Va (hr.mono (by decide)) (pa_cons (pv 0) (pa_cons (pv 2) pa_nil))) pa_nil))) (pv 3) (by rfl)) (pss_one (ps_ret pe_bl)) pss_nil)))
 (pss_one (ps_ret pe_bl))))))))), ?_⟩
  refine ⟨_, rfl, _, rfl, p, k, rfl, hd, by omega, fun H1 r1 kp1 d1 a1 a2 => .inl ⟨_, rfl, _, _, rfl, rfl, (by show (0 : Int) < 9; decide), ?_⟩⟩
  have m1 := Int.emod_nonneg r1 (show (9 : Int) ≠ 0 by decide)
  have m2 := Int.emod_lt_of_pos r1 (show (0 : Int) < 9 by decide)
  refine ⟨p, (r1 % 9).toNat, k + 1, congrArg (fun z => [V.ref p, V.int z]) (by omega : r1 % 9 = (((r1 % 9).toNat : Nat) : Int)), by omega, d1, by omega, fun H2 v t kp2 d2 ht2 hs => ?_⟩
  have sz : t.size ≤ 8 := by omega
  have hht : t.ht < 9 := Nat.lt_of_le_of_lt t.ht_le (by omega)
  have d2' := d2.mono (show _ ≤ k + 20 by omega)
  have kpA := kp1.trans kp2
  refine ⟨v, rfl, v, t, rfl, ht2, hht, ?_⟩
  refine ⟨_, rfl, v, t, rfl, ht2, by omega, fun H4 rows s4 pm ea L nL => ?_⟩
  have nLp := (d2'.same s4).ne nL
  have sL := Same.new (o := .lst (rows.map fun r => V.ref r.1)) nL
  have eL : (upd H4 L (.lst (rows.map fun r => V.ref r.1))) L = some (.lst (rows.map fun r => V.ref r.1)) := upd_same
  have s5 := s4.trans sL
  have ea5 : ∀ r, r ∈ rows → (upd H4 L (.lst (rows.map fun r => V.ref r.1))) r.1 = some (.lst (r.2.map V.str)) := fun r hr' => sL _ _ (ea r hr')
  have kp5 := kpA.trans (.of s5)
  have ht5 := ht2.same s5
  have d5 := d2'.same s5
  generalize upd H4 L (.lst (rows.map fun r => V.ref r.1)) = H5 at eL ea5 s5 kp5 ht5 d5 ⊢
  clear s4 sL ea nL s5 ht2 d2 d2' kpA kp1 kp2 d1 m1 m2 a1 a2
  have hpat : ∀ r, r ∈ rows → ∃ x, x ∈ rowsN t.size ∧ r.2 = labSS (valAt x) t := fun r hr' => by
    have h1 : r.2 ∈ patL t := pm.mem_iff.mp (List.mem_map.mpr ⟨r, hr', rfl⟩)
    obtain ⟨x, hx, e⟩ := List.mem_map.mp h1
    exact ⟨x, hx, e.symm⟩
  have lrow : rows.length = 2 ^ (t.size - 1) := by
    have h1 := pm.length_eq
    rw [List.length_map] at h1
    rw [h1, ← rows_many]
    exact List.length_map ..
  have few : rows.length ≤ 128 := by
    rw [lrow]
    exact Nat.le_trans (Nat.pow_le_pow_right (by decide) (show t.size - 1 ≤ 7 by omega)) (by decide)
  -- the blocks of all
  refine ⟨_, rfl, L, rfl, ⟨_, .of eL⟩, fun D hD => ?_⟩
  refine lc_list (K := K) (a := L) (xs := rows.map fun r => V.ref r.1) (fun i H' => Same H5 H' ∧ ∃ zs : List Addr, H' D = some (.lst (zs.map V.ref)) ∧ zs.length = i ∧ Paired (fun a (l : List Nat) => H' a = some (.lst (l.map natV)) ∧ a ≠ D) zs (((rows.map Prod.snd).take i).map (bkS t))) ⟨Same.new hD, [], upd_same, rfl, .nil⟩ (fun i H6 _ h6 => .of (h6.1 _ _ eL)) (fun i x H6 hx h6 => ?_) (fun H6 h6 => ?_)
  · obtain ⟨s6, zs, e6, l6, p6⟩ := h6
    rw [List.getElem?_map] at hx
    obtain ⟨r, hr', rfl⟩ := Option.map_eq_some_iff.mp hx
    obtain ⟨x, hx, er⟩ := hpat r (List.mem_of_getElem? hr')
    have hi := (List.getElem?_eq_some_iff.mp hr').1
    have ebk : bkS t r.2 = blocksN (valAt x) t := by rw [er]; show blocksN (valAt (rwS t (labSS (valAt x) t))) t = _; rw [rwS_of hx]
    refine ⟨rfl, ?_⟩
    refine ⟨v, rfl, _, rfl, v, t, r.1, valAt x, rfl, ht5.same s6, by omega, by rw [labSS_V, ← er]; exact s6 _ _ (ea5 r (List.mem_of_getElem? hr')), fun H7 Y s7 nY eY => ?_⟩
    have nDY : D ≠ Y := ne_of_none e6 nY
    refine ⟨_, s7 _ _ e6, ?_, fun b o e => ?_, zs ++ [Y], ?_, ?_, ?_⟩
    · rw [List.length_map]
      exact small1000 (by omega)
    · rw [upd_ne (ne_of_none e hD)]
      exact s7 _ _ (s6 _ _ e)
    · rw [upd_same, List.map_append]
      rfl
    · rw [List.length_append, List.length_singleton, l6]
    · rw [List.take_add_one, List.getElem?_map, hr', List.map_append]
      refine Paired.app (Paired.mapP p6 fun a l h => ⟨?_, h.2⟩) (.cons ⟨?_, nDY.symm⟩ .nil)
      · rw [upd_ne h.2]
        exact s7 _ _ h.1
      · rw [upd_ne nDY.symm, ebk]
        exact eY
  obtain ⟨s6, zs, e6, l6, p6⟩ := h6
  rw [List.length_map] at p6 l6
  rw [show (rows.map Prod.snd).take rows.length = rows.map Prod.snd from List.take_of_length_le (by rw [List.length_map]; exact Nat.le_refl _)] at p6
  obtain ⟨rz, e1z, e2z, e3z⟩ := rows_pairs (Paired.mapP p6 fun _ _ h => h.1)
  refine ⟨D, rz, rfl, by rw [e1z]; exact .of e6, fun r hr => ⟨.lst (.of (e3z r hr)) (ints_dpAll _), by have := ints_depth r.2; omega⟩, all_alike_ints Prod.snd rz, sortable_ints Prod.snd rz, fun rz' S1 pm1 up1 n1 => ?_⟩
  have s1 := Same.new (o := .lst (rz'.map fun r => V.ref r.1)) n1
  refine ⟨_, rfl, t.size, rfl, by omega, sz, fun H7 Y s7 nY hY => ?_⟩
  obtain ⟨as, eY, pY⟩ := hY
  obtain ⟨rc, e1c, e2c, e3c⟩ := rows_pairs pY
  refine ⟨Y, rc, rfl, by rw [e1c]; exact .of eY, fun r hr => ⟨.lst (.of (e3c r hr)) (ints_dpAll _), by have := ints_depth r.2; omega⟩, all_alike_ints Prod.snd rc, sortable_ints Prod.snd rc, fun rc' S2 pm2 up2 n2 => ?_⟩
  have s2 := Same.new (o := .lst (rc'.map fun r => V.ref r.1)) n2
  have e12 := s2 _ _ (s7 _ _ (show (upd H6 S1 (.lst (rz'.map fun r => V.ref r.1))) S1 = some (.lst (rz'.map fun r => V.ref r.1)) from upd_same))
  have s17 := s1.trans (s7.trans s2)
  have s72 := s2
  have eq : rz'.map Prod.snd = rc'.map Prod.snd := by
    refine sorted_one (List.pairwise_map.mpr up1) (List.pairwise_map.mpr up2) ?_
    have q1 := pm1.map Prod.snd
    have q2 := (pm2.map Prod.snd).symm
    refine q1.trans (List.Perm.trans ?_ q2)
    rw [e2z, e2c]
    exact (bks_pats sz pm).map _
  have d1 : Dp K (upd H7 S2 (.lst (rc'.map fun r => V.ref r.1))) (.ref S1) (.list (rz'.map fun r => intsD r.2)) := .lst (.of e12) (dl_all fun r hr => .lst (.of (s17 _ _ (e3z r (pm1.mem_iff.mp hr)))) (ints_dpAll _))
  have d2 : Dp K (upd H7 S2 (.lst (rc'.map fun r => V.ref r.1))) (.ref S2) (.list (rc'.map fun r => intsD r.2)) := .lst (.of upd_same) (dl_all fun r hr => .lst (.of (s2 _ _ (e3c r (pm2.mem_iff.mp hr)))) (ints_dpAll _))
  have can : ∀ rows : List (Addr × List Int), (∀ d, d ∈ rows.map (fun r => intsD r.2) → PyData.canLay0 d = true) ∧ ∀ d, d ∈ rows.map (fun r => intsD r.2) → d.depth ≤ 5 := fun rows => ⟨fun d hd => by
    obtain ⟨r, _, rfl⟩ := List.mem_map.mp hd
    exact ints_can0 _, fun d hd => by
    obtain ⟨r, _, rfl⟩ := List.mem_map.mp hd
    exact ints_depth _⟩
  have eqD : rz'.map (fun r => intsD r.2) = rc'.map (fun r => intsD r.2) := by
    have h1 : rz'.map (fun r => intsD r.2) = (rz'.map Prod.snd).map intsD := by rw [List.map_map]; rfl
    have h2 : rc'.map (fun r => intsD r.2) = (rc'.map Prod.snd).map intsD := by rw [List.map_map]; rfl
    rw [h1, h2, eq]
  refine ⟨_, _, d1, d2, dl_shaped (can _).1 (can _).2, dl_shaped (can _).1 (can _).2, _, rfl, ?_⟩
  rw [eqD, SeqAt.eqv_refl _ (dl_can0 (can rc').1)]
  refine iteF ?_
  have s8 := s6.trans s17
  generalize upd H7 S2 (.lst (rc'.map fun r => V.ref r.1)) = H8 at s8
  clear d1 d2 eqD eq e12 s17 s72 s2 s7 s1 e3c e2c e1c pY eY e3z e2z e1z p6 e6 s6
  have eL8 := s8 _ _ eL
  have ea8 : ∀ r, r ∈ rows → H8 r.1 = some (.lst (r.2.map V.str)) := fun r hr' => s8 _ _ (ea5 r hr')
  have kp8 := kp5.trans (.of s8)
  have ht8 := ht5.same s8
  have d8 := d5.same s8
  clear s8 eL ea5 kp5 ht5 d5
  refine ⟨fun σ H' => σ = [some (.ref p), some v, some (natV t.size), some (.ref L), none, none] ∧ Same H8 H', ?_, fun σ H9 hX => ?_⟩
  · refine ⟨_, rfl, L, _, rfl, .inl (.of eL8), ?_⟩
    refine ⟨v, rfl, v, t, rfl, ht8, by omega, fun H9 s9 => ⟨rfl, ?_⟩⟩
    rw [List.length_map, lrow]
    refine ⟨_, rfl, ?_⟩
    rw [show decide (V.int ((2 ^ (t.size - 1) : Nat) : Int) = natV (2 ^ (t.size - 1))) = true from decide_eq_true rfl]
    exact iteF ⟨rfl, s9⟩
  obtain ⟨rfl, s9⟩ := hX
  have eL9 := s9 _ _ eL8
  have ea9 : ∀ r, r ∈ rows → H9 r.1 = some (.lst (r.2.map V.str)) := fun r hr' => s9 _ _ (ea8 r hr')
  have kp9 := kp8.trans (.of s9)
  have ht9 := ht8.same s9
  have d9 := d8.same s9
  clear s9 eL8 ea8 kp8 ht8 d8
  refine ⟨fun σ H' => (∃ y4 : Option V, σ = [some (.ref p), some v, some (natV t.size), some (.ref L), y4, none]) ∧ Same H9 H', ?_, fun σ H10 hX => ?_⟩
  · refine ⟨_, rfl, L, rfl, ⟨_, .of eL9⟩, for_list (xs := rows.map fun r => V.ref r.1) (fun i σ H' => (∃ y4 : Option V, σ = [some (.ref p), some v, some (natV t.size), some (.ref L), y4, none]) ∧ Same H9 H') ⟨⟨none, rfl⟩, .refl _⟩ (fun i σ H' _ h' => .of (h'.2 _ _ eL9)) (fun i x σ H10 hx h10 => ?_) (fun σ H10 h10 => h10)⟩
    obtain ⟨⟨y4, rfl⟩, s10⟩ := h10
    rw [List.getElem?_map] at hx
    obtain ⟨r, hr', rfl⟩ := Option.map_eq_some_iff.mp hx
    have hrm := List.mem_of_getElem? hr'
    obtain ⟨x, hx, er⟩ := hpat r hrm
    obtain ⟨ls, hp1, hp2, ex⟩ := row_cut hx
    have eb : blocksN (valAt x) t = ls := by rw [ex]; exact flat_blocks hp2 hp1
    have er10 := s10 _ _ (ea9 r hrm)
    have ht10 := ht9.same s10
    have ok : StrsOk r.2 := by rw [er]; exact labSS_in _ t
    refine ⟨v, rfl, v, rfl, _, rfl, v, t, r.1, valAt x, rfl, ht10, by omega, by rw [labSS_V, ← er]; exact er10, fun H11 Y s11 nY eY => ?_⟩
    rw [eb] at eY
    refine ⟨v, t, Y, ls, rfl, ht10.same s11, by omega, eY, hp2, hp1, fun H12 W s12 nW eW => ?_⟩
    rw [labSS_V, ← ex, ← er] at eW
    have er12 := s12 _ _ (s11 _ _ er10)
    refine ⟨_, rfl, ssD r.2, ssD r.2, .lst (.of eW) (ss_dpAll _), .lst (.of er12) (ss_dpAll _), ss_shaped ok, ss_shaped ok, _, rfl, ?_⟩
    rw [SeqAt.eqv_refl _ (ss_can ok)]
    refine iteF ?_
    have ht12 := (ht10.same s11).same s12
    refine ⟨v, rfl, _, rfl, v, t, r.1, r.2, rfl, ht12, by omega, er12, ok, by rw [er, labSS_len], by rw [er]; exact labSS_poss _ t, fun H13 s13 => ⟨rfl, _, rfl, ?_⟩⟩
    rw [decide_eq_true rfl]
    refine iteF ?_
    have er13 := s13 _ _ er12
    refine ⟨_, rfl, .inl ⟨rfl, _, .of er13⟩, r.1, r.2, _, rfl, rfl, .of er13, ?_⟩
    refine ⟨v, rfl, _, rfl, v, t, r.1, valAt x, rfl, ht12.same s13, by omega, by rw [labSS_V, ← er]; exact er13, fun H14 Y2 s14 nY2 eY2 => ?_⟩
    rw [eb] at eY2
    refine ⟨Y2, _, rfl, .inl (.of eY2), rfl, _, rfl, ?_⟩
    have ec : r.2.count ("found" : Str) = ls.length := by
      rw [er, ex]
      exact flat_found hp2 hp1
    rw [List.length_map, ec, decide_eq_true rfl]
    exact iteF ⟨⟨_, rfl⟩, s10.trans (s11.trans (s12.trans (s13.trans s14)))⟩
  obtain ⟨⟨y4, rfl⟩, s10⟩ := hX
  have eL10 := s10 _ _ eL9
  have ea10 : ∀ r, r ∈ rows → H10 r.1 = some (.lst (r.2.map V.str)) := fun r hr' => s10 _ _ (ea9 r hr')
  have kp10 := kp9.trans (.of s10)
  have ht10 := ht9.same s10
  have d10 := d9.same s10
  clear s10 eL9 ea9 kp9 ht9 d9
  have nrp : ∀ r, r ∈ rows → r.1 ≠ p := fun r hr' z => by
    obtain ⟨n, j, b, e, _⟩ := d10
    have h1 := ea10 r hr'
    rw [z, e] at h1
    have h2 := HO.lst.inj (Option.some.inj h1)
    cases h3 : r.2 with
    | nil => rw [h3] at h2; cases h2
    | cons a b => rw [h3] at h2; cases h2
  refine ⟨fun σ H' => (∃ y5 : Option V, σ = [some (.ref p), some v, some (natV t.size), some (.ref L), y4, y5]) ∧ Keep p H10 H' ∧ DrAt H' p (k + 300), ?_, fun σ H11 hX => ?_⟩
  · refine ⟨_, rfl, by decide, by decide, for_range (lo := 0) (n := 12) (fun j σ H' => (∃ y5 : Option V, σ = [some (.ref p), some v, some (natV t.size), some (.ref L), y4, y5]) ∧ Keep p H10 H' ∧ DrAt H' p (k + 20 + 18 * j)) ⟨⟨none, rfl⟩, .refl _ _, d10⟩ (fun j σ H11 hj h11 => ?_) (fun σ H11 h11 => ?_)⟩
    · obtain ⟨⟨y5, rfl⟩, kp11, d11⟩ := h11
      have ht11 := d10.tree kp11 ht10
      refine ⟨v, rfl, _, rfl, _, rfl, p, t.size, k + 20 + 18 * j, rfl, by omega, d11, by omega, fun H12 W ns kp12 d12 nW eW ln nr => ?_⟩
      have ht12 := d11.tree kp12 ht11
      refine ⟨v, t, W, ns, rfl, ht12, by omega, eW, ln, fun H13 Y s13 nY eY => ?_⟩
      rw [labSS_V] at eY
      have kp13 := kp11.trans (kp12.trans (.of s13))
      have eL13 := kp13 _ _ nLp eL10
      have ok := labSS_in (valAt ns) t
      have okr : ∀ r, r ∈ rows → StrsOk r.2 := fun r hr' => by
        obtain ⟨x, _, er⟩ := hpat r hr'
        rw [er]
        exact labSS_in _ t
      refine ⟨_, rfl, ssD (labSS (valAt ns) t), rows.map fun r => ssD r.2, .lst (.of eY) (ss_dpAll _), .lst (.of eL13) (dl_all fun r hr' => .lst (.of (kp13 _ _ (nrp r hr') (ea10 r hr'))) (ss_dpAll _)), ss_shaped ok, dl_shaped (fun d hd => ?_) (fun d hd => ?_), _, rfl, ?_⟩
      · obtain ⟨r, hr', rfl⟩ := List.mem_map.mp hd
        exact ss_can (okr r hr')
      · obtain ⟨r, hr', rfl⟩ := List.mem_map.mp hd
        exact ssD_depth _
      have hin : ((rows.map fun r => ssD r.2).any fun z => PyData.eqv z (ssD (labSS (valAt ns) t))) = true := by
        obtain ⟨x, hx, e⟩ := row_there (valAt ns) t
        have h1 : labSS (valAt x) t = labSS (valAt ns) t := labSS_iff.mpr e
        have h2 : labSS (valAt ns) t ∈ rows.map Prod.snd := pm.mem_iff.mpr (List.mem_map.mpr ⟨x, hx, h1⟩)
        obtain ⟨r, hr', e2⟩ := List.mem_map.mp h2
        refine List.any_eq_true.mpr ⟨ssD r.2, List.mem_map.mpr ⟨r, hr', rfl⟩, ?_⟩
        rw [ss_eqv]
        exact decide_eq_true e2
      rw [hin]
      exact iteF ⟨⟨_, rfl⟩, kp13, (d12.same s13).mono (by omega)⟩
    · obtain ⟨h1, h2, h3⟩ := h11
      exact ⟨h1, h2, h3.mono (by omega)⟩
  obtain ⟨⟨y5, rfl⟩, kp11, d11⟩ := hX
  exact q _ (kp10.trans kp11) (d11.mono (by omega))
end
end HSP
namespace HSP
open PySem PySem.Spec PyProof.Rows L2
section
variable {P : Program} {w : World} {K : PySem.W.Frag} {mg : Str → Option Value} {base : Heap}
/-! ### law -/
theorem sc_law : FnScope n_law ["script"] (defScope s_law) := ⟨rfl, rfl, rfl, by decide +kernel, rfl, by decide +kernel, by decide +kernel⟩
def spLaw (K : PySem.W.Frag) : Sp := fun vs H Q _ => ∃ (a : Addr) (ns : List Int), vs = [.ref a] ∧ SqL K H a (ns.map V.int) ∧ ns.length ≤ 63 ∧ ∀ H', Q (.bl true) H'
theorem ok_law {f : Addr} {fd : FuncData} (B : Bl mg) (F : Fun K "law" "law" s_law f fd) (D : Df P w K mg base "_law_draws" 1 ["cell"] spDraws) (R : DfG P w K mg base "_law_right" 17 ["draws"] spRightL) : FnG P w K mg base CX0 18 f fd ["script"] (spLaw K) := by
  refine FnG.mk' F sc_law (fun vs H Q E h => ?_) (fun cdv A outer s H vs Q E hg hr h => ?_)
  · obtain ⟨a, ns, rfl, _⟩ := h
    rfl
  obtain ⟨a, ns, rfl, hS, h63, q⟩ := h
  refine ⟨_, PSs.nox (pss_cons (ps_for PassesOwn.never rfl (pi_list (pe_op op_cat (pe_slice sl_list (pv 0) po_none (po_some pe_int)) (pe_lst (pa_cons pe_int pa_nil)))) (pg_name (i := 1) sc_law.nd rfl (.inl rfl)) (pss_cons (ps_set (i := 2) sc_law.nd rfl (.inl rfl) (pe_df D (hr.mono (by decide)) (pa_cons (pv 1) pa_nil)))
 (pss_one (ps_if (pt_not (pt_val (pe_dfG R hg hr (pa_cons (pv 2) pa_nil)))) (pss_one (ps_ret pe_bl)) pss_nil))))
 (pss_one (ps_ret pe_bl))), ?_⟩
  refine ⟨_, rfl, 6, rfl, a, _, rfl, hS, fun c1 hc1 => ?_⟩
  refine ⟨(by show 1 ≤ sizeLine; decide), fun c2 hc2 => ?_⟩
  have s1 := Same.new (o := .lst (cutV (ns.map V.int) none (some 6))) hc1
  have s2 := Same.new (o := .lst [V.int 0]) hc2
  refine ⟨c1, c2, _, _, rfl, rfl, s2 _ _ upd_same, upd_same, ?_, fun C hC => ?_⟩
  · have z := cutV_length (ns.map V.int) none (some 6)
    rw [List.length_map] at z
    show _ + 1 ≤ sizeLine
    exact Nat.le_of_lt (small1000 (by omega))
  have cells : ∀ x, x ∈ cutV (ns.map V.int) none (some 6) ++ [V.int 0] → ∃ z, x = V.int z := fun x hx => by
    rcases List.mem_append.mp hx with hx | hx
    · have h1 := List.mem_of_mem_take hx
      have h2 := List.mem_of_mem_drop h1
      obtain ⟨z, _, rfl⟩ := List.mem_map.mp h2
      exact ⟨z, rfl⟩
    · exact ⟨0, List.mem_singleton.mp hx⟩
  have eC : (upd (upd (upd H c1 (.lst (cutV (ns.map V.int) none (some 6)))) c2 (.lst [V.int 0])) C (.lst (cutV (ns.map V.int) none (some 6) ++ [V.int 0]))) C = some (.lst (cutV (ns.map V.int) none (some 6) ++ [V.int 0])) := upd_same
  generalize cutV (ns.map V.int) none (some 6) ++ [V.int 0] = xs at cells eC ⊢
  generalize upd (upd (upd H c1 (.lst (cutV (ns.map V.int) none (some 6)))) c2 (.lst [V.int 0])) C (.lst xs) = H1 at eC ⊢
  refine ⟨C, rfl, ⟨_, .of eC⟩, for_list (xs := xs) (fun i σ H' => ∃ y0 y1 y2, σ = [y0, y1, y2] ∧ H' C = some (.lst xs)) ⟨_, _, _, rfl, eC⟩ (fun i σ H2 _ h2 => ?_) (fun i x σ H2 hx h2 => ?_) (fun σ H2 _ => q H2)⟩
  · obtain ⟨_, _, _, _, e2⟩ := h2
    exact .of e2
  · obtain ⟨y0, y1, y2, rfl, e2⟩ := h2
    obtain ⟨z, rfl⟩ := cells x (List.mem_of_getElem? hx)
    refine ⟨_, rfl, z, rfl, fun H3 p s3 np d3 => ?_⟩
    have nC : C ≠ p := ne_of_none e2 np
    refine ⟨_, rfl, p, 0, rfl, d3, by omega, fun H5 k5 d5 => ⟨true, rfl, iteF ?_⟩⟩
    exact ⟨_, _, _, rfl, k5 C _ nC (s3 _ _ e2)⟩
end
/-! ## what the top has written -/
theorem all_mk {l : PySem.W.OpenLaw} {w : World} {K : PySem.W.Frag} {h : Heap} {mg : Str → Option Value} {fa : Addr} (X : K.In h) (G : h.Ns mainGlobals mg) (hfa : mg "law" = some (.ref fa))
    {f1 : Addr} {od1 an1 : Option Addr} {sl1 : Array (Option Value)} {oc1 kV1 dc1 pm1 cd1 ct1 : Value}
    (a1 : PySem.W.nsIn K mainGlobals "is_whole" = some (some (.ref f1))) (l1 : K.lookup f1 = some ⟨oc1, od1, .func (PySem.W.fnOf "is_whole" "is_whole" (defArgs s_is_whole) (defBody s_is_whole) (defScope s_is_whole) .none kV1 dc1 pm1 an1 cd1 ct1), sl1⟩) (c1 : PySem.W.codeIn K cd1 "is_whole" = true) (k1 : PySem.W.keepIn K (.ref f1) = true)
    {f2 : Addr} {od2 an2 : Option Addr} {sl2 : Array (Option Value)} {oc2 kV2 dc2 pm2 cd2 ct2 : Value}
    (a2 : PySem.W.nsIn K mainGlobals "is_tree" = some (some (.ref f2))) (l2 : K.lookup f2 = some ⟨oc2, od2, .func (PySem.W.fnOf "is_tree" "is_tree" (defArgs s_is_tree) (defBody s_is_tree) (defScope s_is_tree) .none kV2 dc2 pm2 an2 cd2 ct2), sl2⟩) (c2 : PySem.W.codeIn K cd2 "is_tree" = true) (k2 : PySem.W.keepIn K (.ref f2) = true)
    {f3 : Addr} {od3 an3 : Option Addr} {sl3 : Array (Option Value)} {oc3 kV3 dc3 pm3 cd3 ct3 : Value}
    (a3 : PySem.W.nsIn K mainGlobals "count_nodes" = some (some (.ref f3))) (l3 : K.lookup f3 = some ⟨oc3, od3, .func (PySem.W.fnOf "count_nodes" "count_nodes" (defArgs s_count_nodes) (defBody s_count_nodes) (defScope s_count_nodes) .none kV3 dc3 pm3 an3 cd3 ct3), sl3⟩) (c3 : PySem.W.codeIn K cd3 "count_nodes" = true) (k3 : PySem.W.keepIn K (.ref f3) = true)
    {f4 : Addr} {od4 an4 : Option Addr} {sl4 : Array (Option Value)} {oc4 kV4 dc4 pm4 cd4 ct4 : Value}
    (a4 : PySem.W.nsIn K mainGlobals "walk" = some (some (.ref f4))) (l4 : K.lookup f4 = some ⟨oc4, od4, .func (PySem.W.fnOf "walk" "walk" (defArgs s_walk) (defBody s_walk) (defScope s_walk) .none kV4 dc4 pm4 an4 cd4 ct4), sl4⟩) (c4 : PySem.W.codeIn K cd4 "walk" = true) (k4 : PySem.W.keepIn K (.ref f4) = true)
    {f5 : Addr} {od5 an5 : Option Addr} {sl5 : Array (Option Value)} {oc5 kV5 dc5 pm5 cd5 ct5 : Value}
    (a5 : PySem.W.nsIn K mainGlobals "paths_of" = some (some (.ref f5))) (l5 : K.lookup f5 = some ⟨oc5, od5, .func (PySem.W.fnOf "paths_of" "paths_of" (defArgs s_paths_of) (defBody s_paths_of) (defScope s_paths_of) .none kV5 dc5 pm5 an5 cd5 ct5), sl5⟩) (c5 : PySem.W.codeIn K cd5 "paths_of" = true) (k5 : PySem.W.keepIn K (.ref f5) = true)
    {f6 : Addr} {od6 an6 : Option Addr} {sl6 : Array (Option Value)} {oc6 kV6 dc6 pm6 cd6 ct6 : Value}
    (a6 : PySem.W.nsIn K mainGlobals "check_tree" = some (some (.ref f6))) (l6 : K.lookup f6 = some ⟨oc6, od6, .func (PySem.W.fnOf "check_tree" "check_tree" (defArgs s_check_tree) (defBody s_check_tree) (defScope s_check_tree) .none kV6 dc6 pm6 an6 cd6 ct6), sl6⟩) (c6 : PySem.W.codeIn K cd6 "check_tree" = true) (k6 : PySem.W.keepIn K (.ref f6) = true)
    {f7 : Addr} {od7 an7 : Option Addr} {sl7 : Array (Option Value)} {oc7 kV7 dc7 pm7 cd7 ct7 : Value}
    (a7 : PySem.W.nsIn K mainGlobals "check_row" = some (some (.ref f7))) (l7 : K.lookup f7 = some ⟨oc7, od7, .func (PySem.W.fnOf "check_row" "check_row" (defArgs s_check_row) (defBody s_check_row) (defScope s_check_row) .none kV7 dc7 pm7 an7 cd7 ct7), sl7⟩) (c7 : PySem.W.codeIn K cd7 "check_row" = true) (k7 : PySem.W.keepIn K (.ref f7) = true)
    {f8 : Addr} {od8 an8 : Option Addr} {sl8 : Array (Option Value)} {oc8 kV8 dc8 pm8 cd8 ct8 : Value}
    (a8 : PySem.W.nsIn K mainGlobals "check_values" = some (some (.ref f8))) (l8 : K.lookup f8 = some ⟨oc8, od8, .func (PySem.W.fnOf "check_values" "check_values" (defArgs s_check_values) (defBody s_check_values) (defScope s_check_values) .none kV8 dc8 pm8 an8 cd8 ct8), sl8⟩) (c8 : PySem.W.codeIn K cd8 "check_values" = true) (k8 : PySem.W.keepIn K (.ref f8) = true)
    {f9 : Addr} {od9 an9 : Option Addr} {sl9 : Array (Option Value)} {oc9 kV9 dc9 pm9 cd9 ct9 : Value}
    (a9 : PySem.W.nsIn K mainGlobals "bounds_below" = some (some (.ref f9))) (l9 : K.lookup f9 = some ⟨oc9, od9, .func (PySem.W.fnOf "bounds_below" "bounds_below" (defArgs s_bounds_below) (defBody s_bounds_below) (defScope s_bounds_below) .none kV9 dc9 pm9 an9 cd9 ct9), sl9⟩) (c9 : PySem.W.codeIn K cd9 "bounds_below" = true) (k9 : PySem.W.keepIn K (.ref f9) = true)
    {f10 : Addr} {od10 an10 : Option Addr} {sl10 : Array (Option Value)} {oc10 kV10 dc10 pm10 cd10 ct10 : Value}
    (a10 : PySem.W.nsIn K mainGlobals "label_of" = some (some (.ref f10))) (l10 : K.lookup f10 = some ⟨oc10, od10, .func (PySem.W.fnOf "label_of" "label_of" (defArgs s_label_of) (defBody s_label_of) (defScope s_label_of) .none kV10 dc10 pm10 an10 cd10 ct10), sl10⟩) (c10 : PySem.W.codeIn K cd10 "label_of" = true) (k10 : PySem.W.keepIn K (.ref f10) = true)
    {f11 : Addr} {od11 an11 : Option Addr} {sl11 : Array (Option Value)} {oc11 kV11 dc11 pm11 cd11 ct11 : Value}
    (a11 : PySem.W.nsIn K mainGlobals "labels_of" = some (some (.ref f11))) (l11 : K.lookup f11 = some ⟨oc11, od11, .func (PySem.W.fnOf "labels_of" "labels_of" (defArgs s_labels_of) (defBody s_labels_of) (defScope s_labels_of) .none kV11 dc11 pm11 an11 cd11 ct11), sl11⟩) (c11 : PySem.W.codeIn K cd11 "labels_of" = true) (k11 : PySem.W.keepIn K (.ref f11) = true)
    {f12 : Addr} {od12 an12 : Option Addr} {sl12 : Array (Option Value)} {oc12 kV12 dc12 pm12 cd12 ct12 : Value}
    (a12 : PySem.W.nsIn K mainGlobals "labels" = some (some (.ref f12))) (l12 : K.lookup f12 = some ⟨oc12, od12, .func (PySem.W.fnOf "labels" "labels" (defArgs s_labels) (defBody s_labels) (defScope s_labels) .none kV12 dc12 pm12 an12 cd12 ct12), sl12⟩) (c12 : PySem.W.codeIn K cd12 "labels" = true) (k12 : PySem.W.keepIn K (.ref f12) = true)
    {f13 : Addr} {od13 an13 : Option Addr} {sl13 : Array (Option Value)} {oc13 kV13 dc13 pm13 cd13 ct13 : Value}
    (a13 : PySem.W.nsIn K mainGlobals "killer_of" = some (some (.ref f13))) (l13 : K.lookup f13 = some ⟨oc13, od13, .func (PySem.W.fnOf "killer_of" "killer_of" (defArgs s_killer_of) (defBody s_killer_of) (defScope s_killer_of) .none kV13 dc13 pm13 an13 cd13 ct13), sl13⟩) (c13 : PySem.W.codeIn K cd13 "killer_of" = true) (k13 : PySem.W.keepIn K (.ref f13) = true)
    {f14 : Addr} {od14 an14 : Option Addr} {sl14 : Array (Option Value)} {oc14 kV14 dc14 pm14 cd14 ct14 : Value}
    (a14 : PySem.W.nsIn K mainGlobals "bound_of" = some (some (.ref f14))) (l14 : K.lookup f14 = some ⟨oc14, od14, .func (PySem.W.fnOf "bound_of" "bound_of" (defArgs s_bound_of) (defBody s_bound_of) (defScope s_bound_of) .none kV14 dc14 pm14 an14 cd14 ct14), sl14⟩) (c14 : PySem.W.codeIn K cd14 "bound_of" = true) (k14 : PySem.W.keepIn K (.ref f14) = true)
    {f15 : Addr} {od15 an15 : Option Addr} {sl15 : Array (Option Value)} {oc15 kV15 dc15 pm15 cd15 ct15 : Value}
    (a15 : PySem.W.nsIn K mainGlobals "is_possible" = some (some (.ref f15))) (l15 : K.lookup f15 = some ⟨oc15, od15, .func (PySem.W.fnOf "is_possible" "is_possible" (defArgs s_is_possible) (defBody s_is_possible) (defScope s_is_possible) .none kV15 dc15 pm15 an15 cd15 ct15), sl15⟩) (c15 : PySem.W.codeIn K cd15 "is_possible" = true) (k15 : PySem.W.keepIn K (.ref f15) = true)
    {f16 : Addr} {od16 an16 : Option Addr} {sl16 : Array (Option Value)} {oc16 kV16 dc16 pm16 cd16 ct16 : Value}
    (a16 : PySem.W.nsIn K mainGlobals "impossible_node" = some (some (.ref f16))) (l16 : K.lookup f16 = some ⟨oc16, od16, .func (PySem.W.fnOf "impossible_node" "impossible_node" (defArgs s_impossible_node) (defBody s_impossible_node) (defScope s_impossible_node) .none kV16 dc16 pm16 an16 cd16 ct16), sl16⟩) (c16 : PySem.W.codeIn K cd16 "impossible_node" = true) (k16 : PySem.W.keepIn K (.ref f16) = true)
    {f17 : Addr} {od17 an17 : Option Addr} {sl17 : Array (Option Value)} {oc17 kV17 dc17 pm17 cd17 ct17 : Value}
    (a17 : PySem.W.nsIn K mainGlobals "owners_of" = some (some (.ref f17))) (l17 : K.lookup f17 = some ⟨oc17, od17, .func (PySem.W.fnOf "owners_of" "owners_of" (defArgs s_owners_of) (defBody s_owners_of) (defScope s_owners_of) .none kV17 dc17 pm17 an17 cd17 ct17), sl17⟩) (c17 : PySem.W.codeIn K cd17 "owners_of" = true) (k17 : PySem.W.keepIn K (.ref f17) = true)
    {f18 : Addr} {od18 an18 : Option Addr} {sl18 : Array (Option Value)} {oc18 kV18 dc18 pm18 cd18 ct18 : Value}
    (a18 : PySem.W.nsIn K mainGlobals "all_patterns" = some (some (.ref f18))) (l18 : K.lookup f18 = some ⟨oc18, od18, .func (PySem.W.fnOf "all_patterns" "all_patterns" (defArgs s_all_patterns) (defBody s_all_patterns) (defScope s_all_patterns) .none kV18 dc18 pm18 an18 cd18 ct18), sl18⟩) (c18 : PySem.W.codeIn K cd18 "all_patterns" = true) (k18 : PySem.W.keepIn K (.ref f18) = true)
    {f19 : Addr} {od19 an19 : Option Addr} {sl19 : Array (Option Value)} {oc19 kV19 dc19 pm19 cd19 ct19 : Value}
    (a19 : PySem.W.nsIn K mainGlobals "check_strings" = some (some (.ref f19))) (l19 : K.lookup f19 = some ⟨oc19, od19, .func (PySem.W.fnOf "check_strings" "check_strings" (defArgs s_check_strings) (defBody s_check_strings) (defScope s_check_strings) .none kV19 dc19 pm19 an19 cd19 ct19), sl19⟩) (c19 : PySem.W.codeIn K cd19 "check_strings" = true) (k19 : PySem.W.keepIn K (.ref f19) = true)
    {f20 : Addr} {od20 an20 : Option Addr} {sl20 : Array (Option Value)} {oc20 kV20 dc20 pm20 cd20 ct20 : Value}
    (a20 : PySem.W.nsIn K mainGlobals "check_lengths" = some (some (.ref f20))) (l20 : K.lookup f20 = some ⟨oc20, od20, .func (PySem.W.fnOf "check_lengths" "check_lengths" (defArgs s_check_lengths) (defBody s_check_lengths) (defScope s_check_lengths) .none kV20 dc20 pm20 an20 cd20 ct20), sl20⟩) (c20 : PySem.W.codeIn K cd20 "check_lengths" = true) (k20 : PySem.W.keepIn K (.ref f20) = true)
    {f21 : Addr} {od21 an21 : Option Addr} {sl21 : Array (Option Value)} {oc21 kV21 dc21 pm21 cd21 ct21 : Value}
    (a21 : PySem.W.nsIn K mainGlobals "check_pattern" = some (some (.ref f21))) (l21 : K.lookup f21 = some ⟨oc21, od21, .func (PySem.W.fnOf "check_pattern" "check_pattern" (defArgs s_check_pattern) (defBody s_check_pattern) (defScope s_check_pattern) .none kV21 dc21 pm21 an21 cd21 ct21), sl21⟩) (c21 : PySem.W.codeIn K cd21 "check_pattern" = true) (k21 : PySem.W.keepIn K (.ref f21) = true)
    {f22 : Addr} {od22 an22 : Option Addr} {sl22 : Array (Option Value)} {oc22 kV22 dc22 pm22 cd22 ct22 : Value}
    (a22 : PySem.W.nsIn K mainGlobals "count_patterns" = some (some (.ref f22))) (l22 : K.lookup f22 = some ⟨oc22, od22, .func (PySem.W.fnOf "count_patterns" "count_patterns" (defArgs s_count_patterns) (defBody s_count_patterns) (defScope s_count_patterns) .none kV22 dc22 pm22 an22 cd22 ct22), sl22⟩) (c22 : PySem.W.codeIn K cd22 "count_patterns" = true) (k22 : PySem.W.keepIn K (.ref f22) = true)
    {f23 : Addr} {od23 an23 : Option Addr} {sl23 : Array (Option Value)} {oc23 kV23 dc23 pm23 cd23 ct23 : Value}
    (a23 : PySem.W.nsIn K mainGlobals "blocks" = some (some (.ref f23))) (l23 : K.lookup f23 = some ⟨oc23, od23, .func (PySem.W.fnOf "blocks" "blocks" (defArgs s_blocks) (defBody s_blocks) (defScope s_blocks) .none kV23 dc23 pm23 an23 cd23 ct23), sl23⟩) (c23 : PySem.W.codeIn K cd23 "blocks" = true) (k23 : PySem.W.keepIn K (.ref f23) = true)
    {f24 : Addr} {od24 an24 : Option Addr} {sl24 : Array (Option Value)} {oc24 kV24 dc24 pm24 cd24 ct24 : Value}
    (a24 : PySem.W.nsIn K mainGlobals "pattern_of" = some (some (.ref f24))) (l24 : K.lookup f24 = some ⟨oc24, od24, .func (PySem.W.fnOf "pattern_of" "pattern_of" (defArgs s_pattern_of) (defBody s_pattern_of) (defScope s_pattern_of) .none kV24 dc24 pm24 an24 cd24 ct24), sl24⟩) (c24 : PySem.W.codeIn K cd24 "pattern_of" = true) (k24 : PySem.W.keepIn K (.ref f24) = true)
    {f25 : Addr} {od25 an25 : Option Addr} {sl25 : Array (Option Value)} {oc25 kV25 dc25 pm25 cd25 ct25 : Value}
    (a25 : PySem.W.nsIn K mainGlobals "each_pattern" = some (some (.ref f25))) (l25 : K.lookup f25 = some ⟨oc25, od25, .func (PySem.W.fnOf "each_pattern" "each_pattern" (defArgs s_each_pattern) (defBody s_each_pattern) (defScope s_each_pattern) .none kV25 dc25 pm25 an25 cd25 ct25), sl25⟩) (c25 : PySem.W.codeIn K cd25 "each_pattern" = true) (k25 : PySem.W.keepIn K (.ref f25) = true)
    {f26 : Addr} {od26 an26 : Option Addr} {sl26 : Array (Option Value)} {oc26 kV26 dc26 pm26 cd26 ct26 : Value}
    (a26 : PySem.W.nsIn K mainGlobals "_law_draws" = some (some (.ref f26))) (l26 : K.lookup f26 = some ⟨oc26, od26, .func (PySem.W.fnOf "_law_draws" "_law_draws" (defArgs s_law_draws) (defBody s_law_draws) (defScope s_law_draws) .none kV26 dc26 pm26 an26 cd26 ct26), sl26⟩) (c26 : PySem.W.codeIn K cd26 "_law_draws" = true) (k26 : PySem.W.keepIn K (.ref f26) = true)
    {f27 : Addr} {od27 an27 : Option Addr} {sl27 : Array (Option Value)} {oc27 kV27 dc27 pm27 cd27 ct27 : Value}
    (a27 : PySem.W.nsIn K mainGlobals "_law_next" = some (some (.ref f27))) (l27 : K.lookup f27 = some ⟨oc27, od27, .func (PySem.W.fnOf "_law_next" "_law_next" (defArgs s_law_next) (defBody s_law_next) (defScope s_law_next) .none kV27 dc27 pm27 an27 cd27 ct27), sl27⟩) (c27 : PySem.W.codeIn K cd27 "_law_next" = true) (k27 : PySem.W.keepIn K (.ref f27) = true)
    {f28 : Addr} {od28 an28 : Option Addr} {sl28 : Array (Option Value)} {oc28 kV28 dc28 pm28 cd28 ct28 : Value}
    (a28 : PySem.W.nsIn K mainGlobals "_law_size" = some (some (.ref f28))) (l28 : K.lookup f28 = some ⟨oc28, od28, .func (PySem.W.fnOf "_law_size" "_law_size" (defArgs s_law_size) (defBody s_law_size) (defScope s_law_size) .none kV28 dc28 pm28 an28 cd28 ct28), sl28⟩) (c28 : PySem.W.codeIn K cd28 "_law_size" = true) (k28 : PySem.W.keepIn K (.ref f28) = true)
    {f29 : Addr} {od29 an29 : Option Addr} {sl29 : Array (Option Value)} {oc29 kV29 dc29 pm29 cd29 ct29 : Value}
    (a29 : PySem.W.nsIn K mainGlobals "_law_tree" = some (some (.ref f29))) (l29 : K.lookup f29 = some ⟨oc29, od29, .func (PySem.W.fnOf "_law_tree" "_law_tree" (defArgs s_law_tree) (defBody s_law_tree) (defScope s_law_tree) .none kV29 dc29 pm29 an29 cd29 ct29), sl29⟩) (c29 : PySem.W.codeIn K cd29 "_law_tree" = true) (k29 : PySem.W.keepIn K (.ref f29) = true)
    {f30 : Addr} {od30 an30 : Option Addr} {sl30 : Array (Option Value)} {oc30 kV30 dc30 pm30 cd30 ct30 : Value}
    (a30 : PySem.W.nsIn K mainGlobals "_law_values" = some (some (.ref f30))) (l30 : K.lookup f30 = some ⟨oc30, od30, .func (PySem.W.fnOf "_law_values" "_law_values" (defArgs s_law_values) (defBody s_law_values) (defScope s_law_values) .none kV30 dc30 pm30 an30 cd30 ct30), sl30⟩) (c30 : PySem.W.codeIn K cd30 "_law_values" = true) (k30 : PySem.W.keepIn K (.ref f30) = true)
    {f31 : Addr} {od31 an31 : Option Addr} {sl31 : Array (Option Value)} {oc31 kV31 dc31 pm31 cd31 ct31 : Value}
    (a31 : PySem.W.nsIn K mainGlobals "_law_cuttings" = some (some (.ref f31))) (l31 : K.lookup f31 = some ⟨oc31, od31, .func (PySem.W.fnOf "_law_cuttings" "_law_cuttings" (defArgs s_law_cuttings) (defBody s_law_cuttings) (defScope s_law_cuttings) .none kV31 dc31 pm31 an31 cd31 ct31), sl31⟩) (c31 : PySem.W.codeIn K cd31 "_law_cuttings" = true) (k31 : PySem.W.keepIn K (.ref f31) = true)
    {f32 : Addr} {od32 an32 : Option Addr} {sl32 : Array (Option Value)} {oc32 kV32 dc32 pm32 cd32 ct32 : Value}
    (a32 : PySem.W.nsIn K mainGlobals "_law_right" = some (some (.ref f32))) (l32 : K.lookup f32 = some ⟨oc32, od32, .func (PySem.W.fnOf "_law_right" "_law_right" (defArgs s_law_right) (defBody s_law_right) (defScope s_law_right) .none kV32 dc32 pm32 an32 cd32 ct32), sl32⟩) (c32 : PySem.W.codeIn K cd32 "_law_right" = true) (k32 : PySem.W.keepIn K (.ref f32) = true)
    {f33 : Addr} {od33 an33 : Option Addr} {sl33 : Array (Option Value)} {oc33 kV33 dc33 pm33 cd33 ct33 : Value}
    (a33 : PySem.W.nsIn K mainGlobals "law" = some (some (.ref f33))) (l33 : K.lookup f33 = some ⟨oc33, od33, .func (PySem.W.fnOf "law" "law" (defArgs s_law) (defBody s_law) (defScope s_law) .none kV33 dc33 pm33 an33 cd33 ct33), sl33⟩) (c33 : PySem.W.codeIn K cd33 "law" = true) (k33 : PySem.W.keepIn K (.ref f33) = true)
    (z0 : PySem.W.nsIn K mainGlobals "isinstance" = some none)
    (z1 : PySem.W.nsIn K mainGlobals "int" = some none)
    (z2 : PySem.W.nsIn K mainGlobals "bool" = some none)
    (z3 : PySem.W.nsIn K mainGlobals "tuple" = some none)
    (z4 : PySem.W.nsIn K mainGlobals "list" = some none)
    (z5 : PySem.W.nsIn K mainGlobals "str" = some none)
    (z6 : PySem.W.nsIn K mainGlobals "len" = some none)
    (z7 : PySem.W.nsIn K mainGlobals "range" = some none)
    (z8 : PySem.W.nsIn K mainGlobals "enumerate" = some none)
    (z9 : PySem.W.nsIn K mainGlobals "sorted" = some none)
    (z10 : PySem.W.nsIn K mainGlobals "set" = some none)
    (z11 : PySem.W.nsIn K mainGlobals "sum" = some none)
    (z12 : PySem.W.nsIn K mainGlobals "max" = some none)
    (z13 : PySem.W.nsIn K mainGlobals "abs" = some none)
    (z14 : PySem.W.nsIn K mainGlobals "zip" = some none)
    (z15 : PySem.W.nsIn K mainGlobals "min" = some none)
    {zu : Tok}
    (zmostp : PySem.W.nsIn K mainGlobals "MOST_NODES" = some (some (.int 10 zu)))
    : ∃ fd : FuncData, (∀ (s : Shared) (v : Value), BindsTo s fd ⟨[v], []⟩ [("script", v)]) ∧ ∀ base : Heap, K.In base → base.Ns mainGlobals mg → FnG l.prog w K mg base CX0 18 fa fd ["script"] (spLaw K) := by
  cases hfa.symm.trans (PySem.W.mg_of X G a33)
  have B : Bl mg := ⟨PySem.W.mg_none_of X G z0, PySem.W.mg_none_of X G z1, PySem.W.mg_none_of X G z2, PySem.W.mg_none_of X G z3, PySem.W.mg_none_of X G z4, PySem.W.mg_none_of X G z5, PySem.W.mg_none_of X G z6, PySem.W.mg_none_of X G z7, PySem.W.mg_none_of X G z8, PySem.W.mg_none_of X G z9, PySem.W.mg_none_of X G z10, PySem.W.mg_none_of X G z11, PySem.W.mg_none_of X G z12, PySem.W.mg_none_of X G z13, PySem.W.mg_none_of X G z14, PySem.W.mg_none_of X G z15⟩
  have A1 : At K mg "is_whole" s_is_whole := ⟨_, _, PySem.W.mg_of X G a1, fun_mk l1 c1 k1⟩
  have A2 : At K mg "is_tree" s_is_tree := ⟨_, _, PySem.W.mg_of X G a2, fun_mk l2 c2 k2⟩
  have A3 : At K mg "count_nodes" s_count_nodes := ⟨_, _, PySem.W.mg_of X G a3, fun_mk l3 c3 k3⟩
  have A4 : At K mg "walk" s_walk := ⟨_, _, PySem.W.mg_of X G a4, fun_mk l4 c4 k4⟩
  have A5 : At K mg "paths_of" s_paths_of := ⟨_, _, PySem.W.mg_of X G a5, fun_mk l5 c5 k5⟩
  have A6 : At K mg "check_tree" s_check_tree := ⟨_, _, PySem.W.mg_of X G a6, fun_mk l6 c6 k6⟩
  have A7 : At K mg "check_row" s_check_row := ⟨_, _, PySem.W.mg_of X G a7, fun_mk l7 c7 k7⟩
  have A8 : At K mg "check_values" s_check_values := ⟨_, _, PySem.W.mg_of X G a8, fun_mk l8 c8 k8⟩
  have A9 : At K mg "bounds_below" s_bounds_below := ⟨_, _, PySem.W.mg_of X G a9, fun_mk l9 c9 k9⟩
  have A10 : At K mg "label_of" s_label_of := ⟨_, _, PySem.W.mg_of X G a10, fun_mk l10 c10 k10⟩
  have A11 : At K mg "labels_of" s_labels_of := ⟨_, _, PySem.W.mg_of X G a11, fun_mk l11 c11 k11⟩
  have A12 : At K mg "labels" s_labels := ⟨_, _, PySem.W.mg_of X G a12, fun_mk l12 c12 k12⟩
  have A13 : At K mg "killer_of" s_killer_of := ⟨_, _, PySem.W.mg_of X G a13, fun_mk l13 c13 k13⟩
  have A14 : At K mg "bound_of" s_bound_of := ⟨_, _, PySem.W.mg_of X G a14, fun_mk l14 c14 k14⟩
  have A15 : At K mg "is_possible" s_is_possible := ⟨_, _, PySem.W.mg_of X G a15, fun_mk l15 c15 k15⟩
  have A16 : At K mg "impossible_node" s_impossible_node := ⟨_, _, PySem.W.mg_of X G a16, fun_mk l16 c16 k16⟩
  have A17 : At K mg "owners_of" s_owners_of := ⟨_, _, PySem.W.mg_of X G a17, fun_mk l17 c17 k17⟩
  have A18 : At K mg "all_patterns" s_all_patterns := ⟨_, _, PySem.W.mg_of X G a18, fun_mk l18 c18 k18⟩
  have A19 : At K mg "check_strings" s_check_strings := ⟨_, _, PySem.W.mg_of X G a19, fun_mk l19 c19 k19⟩
  have A20 : At K mg "check_lengths" s_check_lengths := ⟨_, _, PySem.W.mg_of X G a20, fun_mk l20 c20 k20⟩
  have A21 : At K mg "check_pattern" s_check_pattern := ⟨_, _, PySem.W.mg_of X G a21, fun_mk l21 c21 k21⟩
  have A22 : At K mg "count_patterns" s_count_patterns := ⟨_, _, PySem.W.mg_of X G a22, fun_mk l22 c22 k22⟩
  have A23 : At K mg "blocks" s_blocks := ⟨_, _, PySem.W.mg_of X G a23, fun_mk l23 c23 k23⟩
  have A24 : At K mg "pattern_of" s_pattern_of := ⟨_, _, PySem.W.mg_of X G a24, fun_mk l24 c24 k24⟩
  have A25 : At K mg "each_pattern" s_each_pattern := ⟨_, _, PySem.W.mg_of X G a25, fun_mk l25 c25 k25⟩
  have A26 : At K mg "_law_draws" s_law_draws := ⟨_, _, PySem.W.mg_of X G a26, fun_mk l26 c26 k26⟩
  have A27 : At K mg "_law_next" s_law_next := ⟨_, _, PySem.W.mg_of X G a27, fun_mk l27 c27 k27⟩
  have A28 : At K mg "_law_size" s_law_size := ⟨_, _, PySem.W.mg_of X G a28, fun_mk l28 c28 k28⟩
  have A29 : At K mg "_law_tree" s_law_tree := ⟨_, _, PySem.W.mg_of X G a29, fun_mk l29 c29 k29⟩
  have A30 : At K mg "_law_values" s_law_values := ⟨_, _, PySem.W.mg_of X G a30, fun_mk l30 c30 k30⟩
  have A31 : At K mg "_law_cuttings" s_law_cuttings := ⟨_, _, PySem.W.mg_of X G a31, fun_mk l31 c31 k31⟩
  have A32 : At K mg "_law_right" s_law_right := ⟨_, _, PySem.W.mg_of X G a32, fun_mk l32 c32 k32⟩
  refine ⟨PySem.W.fnOf "law" "law" (defArgs s_law) (defBody s_law) (defScope s_law) .none kV33 dc33 pm33 an33 cd33 ct33, fun s v => .of_eq rfl, fun base _ _ => ?_⟩
  have Wh := ok_whole (P := l.prog) (w := w) (base := base) B A1
  have Tr := ok_tree (P := l.prog) (w := w) (base := base) B A2
  have Co := ok_count (P := l.prog) (w := w) (base := base) A3
  have Wa := ok_walk Co A4
  have Pa := ok_paths B Co Wa A5
  have Ct := ok_chkT Tr A6
  have Cr := ok_chkR B Wh A7
  have Cv := ok_chkV B Cr Co Ct A8
  have Bo := ok_bounds (P := l.prog) (w := w) (base := base) B A9
  have Lo := ok_label (P := l.prog) (w := w) (base := base) A10
  have Lf := ok_labelsOf B Pa Bo Lo A11
  have Lb := okB_labels Cv Lf A12
  have Ki := ok_killer (P := l.prog) (w := w) (base := base) A13
  have Bn := ok_bound (P := l.prog) (w := w) (base := base) A14
  have Ps := ok_poss Ki Bn A15
  have Im := ok_imp Wa Ps A16
  have Ow := ok_owners B Wa Ki Bn A17
  have Ap := ok_allP B Co Lf A18
  have Cs := ok_chkSG B Co Ct A19
  have Ck := ok_chkLG B Wh Co A20
  have Cg := okB_chkG Cs Im A21
  have Cp := ok_cntP B Ct Co A22
  have Bk := okB_blocks B Cg Ow A23
  have Po := okB_patOf B Ct Ck Lf A24
  have Ep := ok_each B (PySem.W.mg_of X G zmostp) Ct Co Ap A25
  have Dr := ok_draws (P := l.prog) (w := w) (base := base) B A26
  have N := ok_next (P := l.prog) (w := w) (base := base) B A27
  have Z := ok_size (P := l.prog) (w := w) (base := base) A28 9
  have T := ok_drawT B N A29 9
  have Va := ok_values B N A30
  have Cu := ok_cuts (P := l.prog) (w := w) (base := base) B A31 9
  have R := ok_right B N T Z Va Cu Ep Bk Po Cg Lb Cp A32
  exact ok_law B (fun_mk l33 c33 k33) Dr R
end HSP
open PySem PySem.W PyProof.Rows
set_option maxHeartbeats 0 in
theorem PySem.Challenge.cw_halfsearch_k14_whole_patterns_are_cuttin_holds : PySem.Challenge.rw_halfsearch_k14_whole_patterns_are_cuttin.Holds := by
  w_on; o_law; k_head; (case hw => w_witness2)
  k_fill
  refine HSP.walk_ofG (l := PySem.Challenge.rw_halfsearch_k14_whole_patterns_are_cuttin) (n := 63) (k := 18) (x := "script") (sp := fun w => HSP.spLaw _) rfl (by decide) rfl ⟨rfl, by decide, by decide⟩ (fun w h Y => PySem.W.kIn_of Y) ?F (fun _ _ a ns hl _ hS => ⟨a, ns, rfl, hS, hl, fun _ => rfl⟩)
  case F =>
    intro w mg fa h KX G hmg
    refine' HSP.all_mk KX G hmg ?a1 ?l1 ?c1 ?k1 ?a2 ?l2 ?c2 ?k2 ?a3 ?l3 ?c3 ?k3 ?a4 ?l4 ?c4 ?k4 ?a5 ?l5 ?c5 ?k5 ?a6 ?l6 ?c6 ?k6 ?a7 ?l7 ?c7 ?k7 ?a8 ?l8 ?c8 ?k8 ?a9 ?l9 ?c9 ?k9 ?a10 ?l10 ?c10 ?k10 ?a11 ?l11 ?c11 ?k11 ?a12 ?l12 ?c12 ?k12 ?a13 ?l13 ?c13 ?k13 ?a14 ?l14 ?c14 ?k14 ?a15 ?l15 ?c15 ?k15 ?a16 ?l16 ?c16 ?k16 ?a17 ?l17 ?c17 ?k17 ?a18 ?l18 ?c18 ?k18 ?a19 ?l19 ?c19 ?k19 ?a20 ?l20 ?c20 ?k20 ?a21 ?l21 ?c21 ?k21 ?a22 ?l22 ?c22 ?k22 ?a23 ?l23 ?c23 ?k23 ?a24 ?l24 ?c24 ?k24 ?a25 ?l25 ?c25 ?k25 ?a26 ?l26 ?c26 ?k26 ?a27 ?l27 ?c27 ?k27 ?a28 ?l28 ?c28 ?k28 ?a29 ?l29 ?c29 ?k29 ?a30 ?l30 ?c30 ?k30 ?a31 ?l31 ?c31 ?k31 ?a32 ?l32 ?c32 ?k32 ?a33 ?l33 ?c33 ?k33 ?z0 ?z1 ?z2 ?z3 ?z4 ?z5 ?z6 ?z7 ?z8 ?z9 ?z10 ?z11 ?z12 ?z13 ?z14 ?z15 ?zmostp
    (case a1 => k_is)
    (case l1 => k_is)
    (case c1 => k_is)
    (case k1 => k_is)
    (case a2 => k_is)
    (case l2 => k_is)
    (case c2 => k_is)
    (case k2 => k_is)
    (case a3 => k_is)
    (case l3 => k_is)
    (case c3 => k_is)
    (case k3 => k_is)
    (case a4 => k_is)
    (case l4 => k_is)
    (case c4 => k_is)
    (case k4 => k_is)
    (case a5 => k_is)
    (case l5 => k_is)
    (case c5 => k_is)
    (case k5 => k_is)
    (case a6 => k_is)
    (case l6 => k_is)
    (case c6 => k_is)
    (case k6 => k_is)
    (case a7 => k_is)
    (case l7 => k_is)
    (case c7 => k_is)
    (case k7 => k_is)
    (case a8 => k_is)
    (case l8 => k_is)
    (case c8 => k_is)
    (case k8 => k_is)
    (case a9 => k_is)
    (case l9 => k_is)
    (case c9 => k_is)
    (case k9 => k_is)
    (case a10 => k_is)
    (case l10 => k_is)
    (case c10 => k_is)
    (case k10 => k_is)
    (case a11 => k_is)
    (case l11 => k_is)
    (case c11 => k_is)
    (case k11 => k_is)
    (case a12 => k_is)
    (case l12 => k_is)
    (case c12 => k_is)
    (case k12 => k_is)
    (case a13 => k_is)
    (case l13 => k_is)
    (case c13 => k_is)
    (case k13 => k_is)
    (case a14 => k_is)
    (case l14 => k_is)
    (case c14 => k_is)
    (case k14 => k_is)
    (case a15 => k_is)
    (case l15 => k_is)
    (case c15 => k_is)
    (case k15 => k_is)
    (case a16 => k_is)
    (case l16 => k_is)
    (case c16 => k_is)
    (case k16 => k_is)
    (case a17 => k_is)
    (case l17 => k_is)
    (case c17 => k_is)
    (case k17 => k_is)
    (case a18 => k_is)
    (case l18 => k_is)
    (case c18 => k_is)
    (case k18 => k_is)
    (case a19 => k_is)
    (case l19 => k_is)
    (case c19 => k_is)
    (case k19 => k_is)
    (case a20 => k_is)
    (case l20 => k_is)
    (case c20 => k_is)
    (case k20 => k_is)
    (case a21 => k_is)
    (case l21 => k_is)
    (case c21 => k_is)
    (case k21 => k_is)
    (case a22 => k_is)
    (case l22 => k_is)
    (case c22 => k_is)
    (case k22 => k_is)
    (case a23 => k_is)
    (case l23 => k_is)
    (case c23 => k_is)
    (case k23 => k_is)
    (case a24 => k_is)
    (case l24 => k_is)
    (case c24 => k_is)
    (case k24 => k_is)
    (case a25 => k_is)
    (case l25 => k_is)
    (case c25 => k_is)
    (case k25 => k_is)
    (case a26 => k_is)
    (case l26 => k_is)
    (case c26 => k_is)
    (case k26 => k_is)
    (case a27 => k_is)
    (case l27 => k_is)
    (case c27 => k_is)
    (case k27 => k_is)
    (case a28 => k_is)
    (case l28 => k_is)
    (case c28 => k_is)
    (case k28 => k_is)
    (case a29 => k_is)
    (case l29 => k_is)
    (case c29 => k_is)
    (case k29 => k_is)
    (case a30 => k_is)
    (case l30 => k_is)
    (case c30 => k_is)
    (case k30 => k_is)
    (case a31 => k_is)
    (case l31 => k_is)
    (case c31 => k_is)
    (case k31 => k_is)
    (case a32 => k_is)
    (case l32 => k_is)
    (case c32 => k_is)
    (case k32 => k_is)
    (case a33 => k_is)
    (case l33 => k_is)
    (case c33 => k_is)
    (case k33 => k_is)
    (case z0 => k_is)
    (case z1 => k_is)
    (case z2 => k_is)
    (case z3 => k_is)
    (case z4 => k_is)
    (case z5 => k_is)
    (case z6 => k_is)
    (case z7 => k_is)
    (case z8 => k_is)
    (case z9 => k_is)
    (case z10 => k_is)
    (case z11 => k_is)
    (case z12 => k_is)
    (case z13 => k_is)
    (case z14 => k_is)
    (case z15 => k_is)
    (case zmostp => k_is)
