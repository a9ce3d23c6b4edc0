import PyProof.Rows.All
import Wide.All
import OpenK.AllK
import Wide.FinOn
import HandS.Base
import HandS.Call
import HandS.List
import HandS.Comp
import HandS.Ends
import HandS.Dict
import HandS.Iter
import HandS.Text
import HandS.Words
import HandS.WordsList
import HandS.Wide
import HandS.Strs
import HandS.SetFor
import HandS.SortInts
import HandS.Defaults
import HandS.IsInst
import HandS.Walk
import HandS.Codes
import HandS.ExcValue
import HandS.Exc
import HandS.Deep
import PySem.Challenge.RW_halfsearch_k54_hidden_elements
set_option Elab.async false
set_option maxRecDepth 100000
namespace HSP
open PySem PySem.Spec PyProof.Rows L2
/-! ## trees of pairs, as they lie in the heap -/
inductive Tr where
  | nil
  | nod (l r : Tr)
  deriving DecidableEq
def Tr.size : Tr → Nat
  | .nil => 0
  | .nod l r => l.size + 1 + r.size
def Tr.ht : Tr → Nat
  | .nil => 0
  | .nod l r => max l.ht r.ht + 1
theorem Tr.ht_le : ∀ t : Tr, t.ht ≤ t.size
  | .nil => Nat.le_refl _
  | .nod l r => by
    have h1 := l.ht_le
    have h2 := r.ht_le
    simp only [Tr.ht, Tr.size]
    omega
inductive TrAt (H : Hp) : V → Tr → Prop
  | nil : TrAt H .non .nil
  | nod {a : Addr} {x y : V} {l r : Tr} : H a = some (.tup [x, y]) → TrAt H x l → TrAt H y r → TrAt H (.ref a) (.nod l r)
theorem TrAt.keep {H H' : Hp} {v : V} {t : Tr} (h : TrAt H v t) (s : ∀ a x y, H a = some (.tup [x, y]) → H' a = some (.tup [x, y])) : TrAt H' v t := by
  induction h with
  | nil => exact .nil
  | nod e _ _ ih1 ih2 => exact .nod (s _ _ _ e) ih1 ih2
theorem TrAt.same {H H' : Hp} {v : V} {t : Tr} (h : TrAt H v t) (s : Same H H') : TrAt H' v t := h.keep fun a x y e => s a _ e
/-! ## heaps: all but one place stays -/
def Keep (p : Addr) (H H' : Hp) : Prop := ∀ b o, b ≠ p → H b = some o → H' b = some o
theorem Keep.refl (p : Addr) (H : Hp) : Keep p H H := fun _ _ _ e => e
theorem Keep.trans {p : Addr} {H H1 H2 : Hp} (a : Keep p H H1) (b : Keep p H1 H2) : Keep p H H2 := fun c o n e => b c o n (a c o n e)
theorem Keep.of {p : Addr} {H H' : Hp} (s : Same H H') : Keep p H H' := fun b o _ e => s b o e
theorem Keep.at {p : Addr} {H : Hp} {o : HO} : Keep p H (upd H p o) := fun b u n e => by
  rw [upd_ne n]; exact e
theorem Keep.new {p q : Addr} {H : Hp} {o : HO} (h : H q = none) : Keep p H (upd H q o) := fun b u _ e => by
  rw [upd_ne (ne_of_none e h)]; exact e
theorem Keep.tree {p : Addr} {H H' : Hp} {v : V} {t : Tr} {xs : List V} (k : Keep p H H') (hp : H p = some (.lst xs)) (h : TrAt H v t) : TrAt H' v t :=
  h.keep fun a x y e => k a _ (fun z => by rw [z, hp] at e; cases e) e
theorem Same.new {H : Hp} {p : Addr} {o : HO} (h : H p = none) : Same H (upd H p o) := fun b u e => by
  rw [upd_ne (ne_of_none e h)]; exact e
theorem Keep.same {p : Addr} {H H1 H' : Hp} (s : Same H H1) (n : H p = none) (k : Keep p H1 H') : Same H H' := fun b o e => k b o (ne_of_none e n) (s b o e)
/-! ## powers -/
def CPowW (i j : Int) : Prop := 0 ≤ j ∧ (Builtin.Int.intBits i : Int) * j ≤ 2 ^ 27
section
variable {X : Cx}
theorem op_powW : OpR X (binaryOp .Pow) (rI CPowW fun i j => .int (i ^ j.toNat)) :=
  opI fun _ _ _ _ _ _ _ hc q => pow_int hc.1 hc.2 q
end
end HSP
namespace HSP
open PySem PySem.Spec PyProof.Rows L2
/-! ## a def of the text that keeps a promise, called by its name -/
/-- the def stands under its own name behind the top -/
def At (K : PySem.W.Frag) (mg : Str → Option Value) (x : Str) (st : Stmt) : Prop := ∃ (f : Addr) (fd : FuncData), mg x = some (.ref f) ∧ Fun K x x st f fd
structure Df (P : Program) (w : World) (K : PySem.W.Frag) (mg : Str → Option Value) (base : Heap) (x : Str) (n : Nat) (ps : List Str) (sp : Sp) : Prop where
  ex : ∃ (f : Addr) (fd : FuncData), mg x = some (.ref f) ∧ PySem.W.keepIn K (.ref f) = true ∧ Binds K fd ps [] ∧ FnOk P w K mg base CX0 n f fd ps sp
section
variable {P : Program} {w : World} {K : PySem.W.Frag} {mg : Str → Option Value} {base : Heap}
theorem Df.mk' {x : Str} {st : Stmt} {N ps : List Str} {k : Nat} {sp : Sp} (a : At K mg x st) (S : FnScope N ps (defScope st)) (len : ∀ vs H Q E, sp vs H Q E → vs.length = ps.length)
    (hb : ∀ (kV doc pm : Value) (an : Option Addr) (cdv ct : Value) (us : List Value), us.length = ps.length → bindArgs (PySem.W.fnOf x x (defArgs st) (defBody st) (defScope st) .none kV doc pm an cdv ct) ⟨us, []⟩ = pure (ps.zip us))
    (body : ∀ (f : Addr) (cdv : Value) (A : Around) (outer : List Env) (s : Shared) (H : Hp) (vs : List V) (Q : VK) (E : XK), Room k (A.deeper (envOfC x (defScope st) s.heap.objs.size f cdv)) → sp vs H Q E →
      ∃ t, PSs (cxOf CX0 P w K mg base N x (defScope st) f cdv A outer s H E).nox (defBody st) t ∧ t { nx := fun _ H' => Q .non H', rt := Q } (start N vs) H) : Df P w K mg base x (k + 1) ps sp := by
  obtain ⟨f, fd, hm, F⟩ := a
  exact ⟨f, fd, hm, F.kp, F.binds hb, F.ok S len (body f)⟩
theorem Df.mono {x : Str} {j k : Nat} {ps : List Str} {sp : Sp} (D : Df P w K mg base x j ps sp) (h : j ≤ k) : Df P w K mg base x k ps sp := by
  obtain ⟨f, fd, a, b, c, d⟩ := D.ex
  exact ⟨f, fd, a, b, c, d.mono h⟩
theorem Df.imp {x : Str} {k : Nat} {ps : List Str} {sp sp' : Sp} (D : Df P w K mg base x k ps sp) (h : ∀ vs H Q E, sp' vs H Q E → sp vs H Q E) : Df P w K mg base x k ps sp' := by
  obtain ⟨f, fd, a, b, c, d⟩ := D.ex
  exact ⟨f, fd, a, b, c, d.imp h⟩
end
section
variable {X : Cx} {k : Nat} {ps : List Str} {sp : Sp} {x : Str} {p pos : Pos} {e : Expr} {es : List Expr} {t : TA}
theorem pe_df (D : Df X.prog X.w X.K X.mg X.base x k ps sp) (hr : Room k X.A) (ha : PA X (e :: es) t) (hg : Gl X x := by rfl) (hdb : (x == ("__debug__" : Str)) = false := by decide)
    (he : starEach (e :: es) X.env = (false, eval e X.env) :: starEach es X.env := by rfl) (hpl : (backTo pos (starEach es X.env)).any (·.1) = false := by rfl) : PE X (.Call (.Name x p) (e :: es) [] pos) (tCall sp [] E0 t) := by
  obtain ⟨f, fd, hm, hk, hb, F⟩ := D.ex
  exact pe_call F hr hg hm hk hb .nil pass0 ha hdb he hpl
end
/-! ## what a test or a value is -/
theorem int_inj {i j : Int} (h : i = j) : V.int i = V.int j := by rw [h]
/-! ## the built-ins, not shadowed -/
structure Bl (mg : Str → Option Value) : Prop where
  isinstance : mg "isinstance" = none
  int : mg "int" = none
  bool : mg "bool" = none
  tuple : mg "tuple" = none
  list : mg "list" = none
  str : mg "str" = none
  len : mg "len" = none
  range : mg "range" = none
  enumerate : mg "enumerate" = none
  sorted : mg "sorted" = none
  set : mg "set" = none
  sum : mg "sum" = none
  max : mg "max" = none
  abs : mg "abs" = none
  zip : mg "zip" = none
  min : mg "min" = none
end HSP
namespace HSP
open PySem PySem.Spec PyProof.Rows L2
/-! ## sum(rows, start): lists put behind one another -/
/-- a list object with these items -/
def LO (its : List Value) (n : Nat) : Obj := { cls := .type "list", data := .seq its.toArray n }
section
variable {prog : Program} {w : World} {A : Around}
theorem sumL_loop {I S : Addr} {fp wr : List Addr} {n : Nat} {Pv : Nat → Value → Prop} {St : Nat → Heap → Prop} (W : Walks prog w A.in1 I fp wr n Pv St) (hS : S ∉ fp) (row : Nat → Addr) (part : Nat → List Value) (hv : ∀ i v, Pv i v → v = .ref (row i)) (R : Result → Shared → Prop)
    (most : Nat) (hmost : most ≤ sizeLine) (hfp : ∀ i h, St i h → ∀ b ∈ fp, b < h.objs.size) :
    ∀ (k i : Nat) (s : Shared) (T : Addr) (acc : List Value) (c cT : Nat), n - i = k → i ≤ n → St i s.heap → s.heap.get? S = some (LO [.ref T] c) → s.heap.get? T = some (LO acc cT) → T ≠ S → T ∉ wr →
      (∀ j, j < n → row j ≠ S ∧ row j ∉ wr ∧ ∃ m, s.heap.get? (row j) = some (LO (part j) m)) → acc.length + (((List.range n).drop i).map fun j => (part j).length).sum ≤ most →
      (∀ (s' : Shared) (T' : Addr) (c' : Nat), (∀ b o, b ∉ wr → b ≠ S → s.heap.get? b = some o → s'.heap.get? b = some o) → s'.gens = s.gens → s'.drawn = s.drawn → s'.os = s.os →
        s'.heap.get? T' = some (LO (acc ++ (((List.range n).drop i).map part).flatten) c') → T' ≠ S → T' ∉ wr → (i = n ∧ T' = T ∨ s.heap.get? T' = none) → R (.ok (.ret (.ref T'))) s') →
      codeAny (model prog w) A (.builtin "sum.loop" ⟨[.ref I, .ref S, rawInt 2, rawInt 0], []⟩) R s := by
  have hSw : S ∉ wr := fun h => hS (W.sub _ h)
  intro k
  induction k with
  | zero =>
    intro i s T acc c cT hk hi hst eS eT nTS nTw rows hz hR
    obtain rfl : i = n := by omega
    refine codeAny_builtin F.entry_sum_loop ?_
    rw [Around.under_plainId F.plain_sum_loop _]
    show wpAny _ A.in1 (seqItems? (.ref S) >>= _) _ _ s
    refine wpAny_bind (wpAny_seqItems eS rfl (wpAny_bind (wpAny_tryCatch (W.done s _ _ hst fun h' tk kp => ?_))))
    have e0 : ((List.range i).drop i) = [] := List.drop_eq_nil_of_le (by rw [List.length_range]; exact Nat.le_refl _)
    refine wpAny_pure (hR { s with heap := h', toks := tk } T cT (fun b o n1 _ e => kp b o n1 e) rfl rfl rfl ?_ nTS nTw (.inl ⟨rfl, rfl⟩))
    rw [e0, List.map_nil, List.flatten_nil, List.append_nil]
    exact kp T _ nTw eT
  | succ k ih =>
    intro i s T acc c cT hk hi hst eS eT nTS nTw rows hz hR
    have hlt : i < n := by omega
    have ed : (List.range n).drop i = i :: (List.range n).drop (i + 1) := by
      have q := List.drop_eq_getElem_cons (l := List.range n) (i := i) (by rw [List.length_range]; exact hlt)
      rw [List.getElem_range] at q
      exact q
    rw [ed, List.map_cons, List.sum_cons] at hz
    refine codeAny_builtin F.entry_sum_loop ?_
    rw [Around.under_plainId F.plain_sum_loop _]
    show wpAny _ A.in1 (seqItems? (.ref S) >>= _) _ _ s
    refine wpAny_bind (wpAny_seqItems eS rfl (wpAny_bind (wpAny_tryCatch (W.item i s _ _ hlt hst fun v h1 tk hp hst1 kp => ?_))))
    obtain rfl := hv i v hp
    obtain ⟨nrS, nrw, m, er⟩ := rows i hlt
    have eS1 := kp S _ hSw eS
    have eT1 := kp T _ nTw eT
    have er1 := kp (row i) _ nrw er
    show wpAny _ A.in1 ((holding [Value.ref (row i)] (binaryOp .Add (.ref T) (.ref (row i)))).attempt >>= _) _ _ _
    refine wpAny_bind (wpAny_attempt (wpAny_holding (PySem.P.add_list eT1 er1 ?_ (by rw [List.size_toArray, List.size_toArray]; omega))))
    dsimp only
    have z1 : h1.objs.size ≠ S := fun z => by
      have q : S < h1.objs.size := Heap.lt_size eS1
      rw [z] at q
      exact Nat.lt_irrefl _ q
    have eS2 := Heap.get?_push_of_some ({ cls := .type "list", data := .seq (acc.toArray ++ (part i).toArray) } : Obj) eS1
    refine wpAny_bind (wpAny_updateSeq eS2 rfl ?_)
    have eS3 := Heap.get?_update_self (Obj.mapSeq fun _ => #[Value.ref h1.objs.size]) eS2 rfl
    refine wpAny_bind (wpAny_letGo (wpAny_bind (wpAny_updateSeq eS3 rfl ?_)))
    have eS4 := Heap.get?_update_self (Obj.mapSeq fun _ => #[Value.ref h1.objs.size]) eS3 rfl
    have kk : ∀ b o, b ≠ S → h1.get? b = some o → (((h1.push ({ cls := .type "list", data := .seq (acc.toArray ++ (part i).toArray) } : Obj)).update S (Obj.mapSeq fun _ => #[Value.ref h1.objs.size])).update S (Obj.mapSeq fun _ => #[Value.ref h1.objs.size])).get? b = some o := fun b o nb e =>
      (Heap.get?_update_other _ _ (Ne.symm nb)).trans ((Heap.get?_update_other _ _ (Ne.symm nb)).trans (Heap.get?_push_of_some _ e))
    have eN : (((h1.push ({ cls := .type "list", data := .seq (acc.toArray ++ (part i).toArray) } : Obj)).update S (Obj.mapSeq fun _ => #[Value.ref h1.objs.size])).update S (Obj.mapSeq fun _ => #[Value.ref h1.objs.size])).get? h1.objs.size = some (LO (acc ++ part i) 0) := by
      rw [Heap.get?_update_other _ _ (Ne.symm z1), Heap.get?_update_other _ _ (Ne.symm z1), Heap.get?_push_size _ rfl]
      unfold LO
      rw [List.append_toArray]
    refine wpAny_pure ⟨plainId_quiet F.plain_sum_loop _, ih (i + 1) _ h1.objs.size (acc ++ part i) _ 0 (by omega) hlt (W.frame _ _ _ hst1 fun b hb o e => kk b o (fun z => hS (z ▸ hb)) e) eS4 eN z1 (fun z => Nat.lt_irrefl _ (hfp _ _ hst1 _ (W.sub _ z))) (fun j hj => ?_) ?_ fun s' T' c' kp' g' d' o' e' m1 m2 m3 => ?_⟩
    · obtain ⟨n1, n2, m', e1⟩ := rows j hj
      exact ⟨n1, n2, m', kk _ _ n1 (kp _ _ n2 e1)⟩
    · rw [List.length_append]
      omega
    · refine hR s' T' c' (fun b o n1 n2 e => kp' b o n1 n2 (kk b o n2 (kp b o n1 e))) g' d' o' ?_ m1 m2 (.inr ?_)
      · rw [e', ed, List.map_cons, List.flatten_cons, List.append_assoc]
      · cases eo : s.heap.get? T' with
        | none => rfl
        | some o =>
          have e1 := kp T' o m2 eo
          rcases m3 with ⟨_, z⟩ | z
          · rw [z] at e1
            exact absurd (Heap.lt_size e1) (Nat.lt_irrefl _)
          · rw [kk T' o m1 e1] at z
            cases z
end
section
variable {prog : Program} {w : World} {A : Around} {E : Value → Shared → Prop} {s : Shared}
theorem args_sum2 (a b : Value) : argsOk "sum" ⟨[a, b], []⟩ := by
  unfold argsOk
  kernel_rfl
theorem sumL_call {l s0 : Addr} {rows : List Addr} {lits : List Value} {nl n0 : Nat} {parts : Nat → List Value} {acc : List Value} {Q : Value → Shared → Prop} (hh : A.handled = none)
    (el : s.heap.get? l = some (LO lits nl)) (hl : lits = rows.map Value.ref) (e0 : s.heap.get? s0 = some (LO acc n0)) (hr : ∀ j (h : j < rows.length), ∃ m, s.heap.get? rows[j] = some (LO (parts j) m))
    (hz : acc.length + ((List.range rows.length).map fun j => (parts j).length).sum ≤ sizeLine)
    (h : ∀ (s' : Shared) (T : Addr) (c : Nat), (∀ b o, s.heap.get? b = some o → s'.heap.get? b = some o) → s'.gens = s.gens → s'.os = s.os → s'.heap.get? T = some (LO (acc ++ ((List.range rows.length).map parts).flatten) c) → (rows = [] ∧ T = s0 ∨ s.heap.get? T = none) → Q (.ref T) s') :
    wpAny (model prog w) A (call (.builtin "sum") [.ref l, .ref s0]) Q E s := by
  have hlen : lits.toArray.size = rows.length := by rw [hl, List.size_toArray, List.length_map]
  refine call_function_tree F.kind_sum F.plain_sum F.entry_sum (args_sum2 _ _) ?_
  unfold Builtin.«sum»
  simp only [List.length_cons, List.length_nil]
  rw [if_neg (by decide)]
  refine wpAny_bind (wpAny_of_eq (show Builtin.Builtins.bindParams "sum" ["start"] 0 ⟨[.ref s0], []⟩ = pure [some (.ref s0)] from rfl) ?_)
  have hL : s.heap.IsList l lits.toArray := ⟨_, el, rfl, nl, rfl⟩
  refine wpAny_bind (wpAny_pyIter_list hL ?_)
  have lt1 : l < s.heap.objs.size := Heap.lt_size el
  have lt0 : s0 < s.heap.objs.size := Heap.lt_size e0
  have e1 := Heap.get?_push_of_some ({ cls := .type "list_iterator", data := .fields #[.ref l, .int 0 0] } : Obj) e0
  have tL : Shared.TypeIs { s with heap := s.heap.push { cls := .type "list_iterator", data := .fields #[.ref l, .int 0 0] } } (.ref s0) "list" := ⟨_, e1, rfl⟩
  refine wpAny_bind (wpAny_pure ?_)
  simp only [List.forIn_cons, List.forIn_nil]
  refine wpAny_bind (wpAny_bind (wpAny_bind (wpAny_isInstance (T := "list") (b := false) tL PySem.F.sub_list_str ?_)))
  simp only [Bool.false_eq_true, if_false]
  refine wpAny_pure (wpAny_bind (wpAny_bind (wpAny_isInstance (T := "list") (b := false) tL PySem.F.sub_list_bytes ?_)))
  simp only [Bool.false_eq_true, if_false]
  refine wpAny_pure (wpAny_bind (wpAny_bind (wpAny_isInstance (T := "list") (b := false) tL PySem.F.sub_list_bytearray ?_)))
  simp only [Bool.false_eq_true, if_false]
  refine wpAny_pure (wpAny_pure (wpAny_bind (wpAny_newObj_type ?_)))
  have sz1 : (s.heap.push ({ cls := .type "list_iterator", data := .fields #[.ref l, .int 0 0] } : Obj)).objs.size = s.heap.objs.size + 1 := Heap.size_push ..
  have nlI : l ≠ s.heap.objs.size := Nat.ne_of_lt lt1
  have kp : ∀ b o, s.heap.get? b = some o → ((s.heap.push ({ cls := .type "list_iterator", data := .fields #[.ref l, .int 0 0] } : Obj)).push (LO [.ref s0] 0)).get? b = some o := fun b o e => Heap.get?_push_of_some _ (Heap.get?_push_of_some _ e)
  refine wpAny_pure ⟨plainId_quiet F.plain_sum_loop _, sumL_loop (Walks.list (A := A.in1) (by simp [hh]) s.heap.objs.size l nlI lits.toArray) (S := (s.heap.push ({ cls := .type "list_iterator", data := .fields #[.ref l, .int 0 0] } : Obj)).objs.size) ?_ (fun j => rows.getD j 0) parts ?_ _ sizeLine (Nat.le_refl _) ?_
    (rows.length - 0) 0 _ s0 acc 0 n0 (by rw [hlen]) (Nat.zero_le _) ⟨⟨_, Heap.get?_push_of_some _ (Heap.get?_push_size _ rfl), rfl, rfl⟩, (hL.push _).push _⟩ ?_ (kp _ _ e0) (by rw [sz1]; exact Nat.ne_of_lt (Nat.lt_succ_of_lt lt0)) ?_ ?_ ?_ ?_⟩
  · rw [sz1]
    intro z
    rcases List.mem_cons.mp z with z | z
    · exact absurd z (Nat.ne_of_gt (Nat.lt_succ_self _))
    · exact absurd (List.mem_singleton.mp z) (Nat.ne_of_gt (Nat.lt_succ_of_lt lt1))
  · intro i v hv
    rw [List.getElem?_toArray, hl, List.getElem?_map] at hv
    cases hr2 : rows[i]? with
    | none => rw [hr2] at hv; cases hv
    | some b =>
      rw [hr2] at hv
      cases hv
      rw [List.getD_eq_getElem?_getD, hr2]
      rfl
  · intro i h st b hb
    rcases List.mem_cons.mp hb with z | z
    · obtain ⟨⟨o, ho, _⟩, _⟩ := st
      rw [z]
      exact Heap.lt_size ho
    · obtain ⟨_, ⟨o, ho, _⟩⟩ := st
      rw [List.mem_singleton.mp z]
      exact Heap.lt_size ho
  · exact Heap.get?_push_size _ rfl
  · intro z
    exact absurd (List.mem_singleton.mp z) (Nat.ne_of_lt lt0)
  · intro j hj
    rw [hlen] at hj
    obtain ⟨m, e⟩ := hr j hj
    have eg : rows.getD j 0 = rows[j] := by
      rw [List.getD_eq_getElem?_getD, List.getElem?_eq_getElem hj]
      rfl
    have lt2 : rows[j] < s.heap.objs.size := Heap.lt_size e
    refine ⟨?_, ?_, m, ?_⟩
    · rw [eg, sz1]; exact Nat.ne_of_lt (Nat.lt_succ_of_lt lt2)
    · rw [eg]; exact fun z => absurd (List.mem_singleton.mp z) (Nat.ne_of_lt lt2)
    · rw [eg]; exact kp _ _ e
  · rw [hlen, List.drop_zero]
    exact hz
  · intro s' T' c' k1 g1 d1 o1 e' m1 m2 m3
    rw [hlen, List.drop_zero] at e'
    refine h s' T' c' (fun b o e => ?_) g1 o1 e' (m3.imp (fun z => ⟨List.eq_nil_of_length_eq_zero (by rw [← hlen]; exact z.1.symm), z.2⟩) fun z => ?_)
    rotate_left
    · cases eo : s.heap.get? T' with
      | none => rfl
      | some o =>
        cases (kp _ _ eo).symm.trans z
    have lt3 : b < s.heap.objs.size := Heap.lt_size e
    exact k1 b o (fun z => absurd (List.mem_singleton.mp z) (Nat.ne_of_lt lt3)) (by rw [sz1]; exact Nat.ne_of_lt (Nat.lt_succ_of_lt lt3)) (kp _ _ e)
end
section
variable {X : Cx}
/-- sum(a list of lists of ints, a list of ints) -/
def rSumL (K : PySem.W.Frag) : List V → Hp → VK → Prop := fun vs H Q => ∃ (a b : Addr) (rows : List Addr) (parts : List (List Int)) (ms : List Int), vs = [V.ref a, V.ref b] ∧ H a = some (.lst (rows.map V.ref)) ∧ H b = some (.lst (ms.map V.int)) ∧
  Paired (fun r ns => H r = some (.lst (ns.map V.int))) rows parts ∧ ms.length + parts.flatten.length ≤ sizeLine ∧ ∀ (H' : Hp) (p : Addr), Same H H' → H' p = some (.lst ((ms ++ parts.flatten).map V.int)) → Q (.ref p) H'
theorem refs_of : ∀ {rows : List Addr} {its : List Value}, Vals (rows.map V.ref) its → its = rows.map Value.ref
  | [], _, .nil => rfl
  | a :: r, _, .cons q t => by rw [List.map_cons, ← refs_of t, (show _ = Value.ref a from q)]
theorem Paired.at' {α β : Type} {R : α → β → Prop} : ∀ {l : List α} {m : List β}, Paired R l m → ∀ j (h : j < l.length) (h' : j < m.length), R l[j] m[j]
  | _, _, .cons q _, 0, _, _ => q
  | _, _, .cons _ t, j + 1, h, h' => Paired.at' t j (Nat.lt_of_succ_lt_succ h) (Nat.lt_of_succ_lt_succ h')
theorem range_map {α β : Type} (f : α → β) (d : α) : ∀ l : List α, (List.range l.length).map (fun j => f (l.getD j d)) = l.map f := by
  intro l
  apply List.ext_getElem
  · rw [List.length_map, List.length_map, List.length_range]
  · intro i h1 h2
    rw [List.length_map] at h2
    rw [List.getElem_map, List.getElem_map, List.getElem_range, List.getD_eq_getElem?_getD, List.getElem?_eq_getElem h2]
    rfl
theorem rows_of {P : Program} {w : World} {H : Hp} {h : Heap} (ok : HOk P w H h) : ∀ {rows : List Addr} {parts : List (List Int)}, Paired (fun r ns => H r = some (.lst (ns.map V.int))) rows parts →
    ∃ pits : List (List Value), pits.length = rows.length ∧ (∀ j (hj : j < rows.length), ∃ m, h.get? rows[j] = some (LO (pits.getD j []) m)) ∧ Vals (parts.flatten.map V.int) pits.flatten ∧ (pits.map List.length).sum = parts.flatten.length
  | [], [], .nil => ⟨[], rfl, fun j hj => absurd hj (Nat.not_lt_zero j), .nil, rfl⟩
  | r :: rows, ns :: parts, .cons e t => by
    obtain ⟨pits, h1, h2, h3, h4⟩ := rows_of ok t
    obtain ⟨z, its, n, v, g⟩ : ObjOk P w H h r (.lst (ns.map V.int)) := ok r _ e
    refine ⟨its :: pits, by rw [List.length_cons, h1, List.length_cons], fun j hj => ?_, ?_, ?_⟩
    · cases j with
      | zero => exact ⟨n, g⟩
      | succ j => exact h2 j (Nat.lt_of_succ_lt_succ hj)
    · rw [List.flatten_cons, List.map_append, List.flatten_cons]
      exact v.append h3
    · rw [List.map_cons, List.sum_cons, h4, List.flatten_cons, List.length_append, ← v.length, List.length_map]
theorem cr_sumL (hc : X.calm = true) : CallR X (.builtin "sum") (rSumL X.K) := by
  intro pins s σ H vs us Q I r h
  obtain ⟨a, b, rows, parts, ms, rfl, ha, hb, hp, hz, q⟩ := h
  cases r with
  | cons r1 t1 =>
    cases t1 with
    | cons r2 t2 =>
      cases t2
      cases r1
      cases r2
      obtain ⟨za, its, n, va, ea⟩ : ObjOk X.prog X.w H s.heap a (.lst (rows.map V.ref)) := I.hok a _ ha
      obtain ⟨zb, it0, n0, vb, eb⟩ : ObjOk X.prog X.w H s.heap b (.lst (ms.map V.int)) := I.hok b _ hb
      obtain ⟨pits, hl2, hg2, hv2, hn2⟩ := rows_of I.hok hp
      have e1 : (List.range rows.length).map (fun j => pits.getD j []) = pits := by
        have q := range_map (fun x : List Value => x) [] pits
        rw [List.map_id', hl2] at q
        exact q
      have e2 : ((List.range rows.length).map fun j => (pits.getD j []).length).sum = parts.flatten.length := by
        have q := range_map (fun x : List Value => x.length) [] pits
        rw [hl2] at q
        rw [q, hn2]
      refine sumL_call (I.ok.hd hc) (lits := its) (acc := it0) (parts := fun j => pits.getD j []) ea (refs_of va) eb hg2 (by rw [e2, ← vb.length, List.length_map]; exact hz) fun s' T c kp hg ho hT hw => ?_
      rw [e1] at hT
      have hvals : Vals ((ms ++ parts.flatten).map V.int) (it0 ++ pits.flatten) := by
        rw [List.map_append]
        exact vb.append hv2
      rcases hw with ⟨z1, z2⟩ | hnew
      · subst z1
        cases hp
        refine ⟨.ref T, H, I.call' (ch := []) ho (Un.kept kp) (I.hok.kept kp) (by rw [hg]; exact I.bare) (fun _ z => nomatch z), rfl, q H T (Same.refl H) ?_⟩
        rw [z2, hb, List.flatten_nil, List.append_nil]
      · have hn : H T = none := by
          cases eo : H T with
          | none => rfl
          | some o =>
            obtain ⟨u, hu⟩ := objOk_get (I.hok T o eo)
            rw [hnew] at hu
            cases hu
        refine ⟨.ref T, upd H T (.lst ((ms ++ parts.flatten).map V.int)), I.call' (ch := []) ho (Un.laidN kp hnew hn) (I.hok.laidN kp hn ⟨?_, _, c, hvals, hT⟩) (by rw [hg]; exact I.bare) (fun _ z => nomatch z), rfl, q _ T (Same.new hn) upd_same⟩
        rw [List.length_map, List.length_append]
        exact hz
end
end HSP
namespace HSP
open PySem PySem.Spec PyProof.Rows L2
/-! ## set(a list of ints) -/
/-- a set that was just made, as the world bears it -/
abbrev nSet (w : World) : Obj := { cls := .type "set", dict := none, data := .set #[] 0 (.fresh 0 0 (!w.params.followText "set-order")) }
abbrev nIt (l : Addr) : Obj := { cls := .type "list_iterator", data := .fields #[.ref l, .int 0 0] }
section
variable {P : Program} {w : World} {A : Around} {E : Value → Shared → Prop} {s : Shared}
/-- what the filling of the new set leaves -/
def Filled (w : World) (s : Shared) (ns : List Int) (v : Value) (s2 : Shared) : Prop :=
  v = .none ∧ ∃ (h2 : Heap) (tk c : Nat), s2 = { s with heap := h2, toks := tk } ∧ SetR w h2 s.heap.objs.size (fun j => decide (j ∈ ns)) c ∧ c ≤ ns.length ∧ ∀ b o, s.heap.get? b = some o → h2.get? b = some o
theorem setL_fill {l : Addr} {items : Array Value} {nl : Nat} {dd : Option Addr} {sl : Array (Option Value)} (ns : List Int) (hh : A.handled = none) (el : s.heap.get? l = some { cls := .type "list", dict := dd, data := .seq items nl, slots := sl }) (hi : IntsAre items.toList ns) (hb : ns.length + 1 < scanBound) :
    codeAny (model P w) A (.call (.builtin "set.__init__") ⟨[.ref s.heap.objs.size, .ref l], []⟩) (wants (Filled w s ns) E) { s with heap := s.heap.push (nSet w) } := by
  have many : items.size = ns.length := by rw [← Array.length_toList]; exact IntsAre.length hi
  have lS : l < s.heap.objs.size := Heap.lt_size el
  have sz : (s.heap.push (nSet w)).objs.size = s.heap.objs.size + 1 := Heap.size_push ..
  have gS : (s.heap.push (nSet w)).get? s.heap.objs.size = some (nSet w) := Heap.get?_push_size _ rfl
  have el1 := Heap.get?_push_of_some (nSet w) el
  have isL : (s.heap.push (nSet w)).IsList l items := ⟨_, el1, rfl, nl, rfl⟩
  refine codeAny_call_builtin F.called_set.init.plain F.entry_set_init (check_set_init_1 ⟨_, gS, rfl⟩ ?_)
  have t1 := F.sub_list_set
  have t2 := F.sub_list_frozenset
  have t3 : (Value.type "list" == Value.type "dict") = false := by decide
  unfold Builtin.«set.__init__» noKeywords Builtin.Frozenset.updateFrom
  generalize hPI : pyIter = PI
  wp_walk
  subst hPI
  refine wpAny_pyIter_list isL (wpAny_bind (wpAny_runValue ?_))
  have nlI : l ≠ (s.heap.push (nSet w)).objs.size := by rw [sz]; exact Nat.ne_of_lt (Nat.lt_succ_of_lt lS)
  have offS : s.heap.objs.size ∉ [(s.heap.push (nSet w)).objs.size, l] := fun z => by
    rw [sz] at z
    rcases List.mem_cons.mp z with z | z
    · exact absurd z (Nat.ne_of_lt (Nat.lt_succ_self _))
    · exact absurd (List.mem_singleton.mp z) (Nat.ne_of_gt lS)
  have vals : ∀ (i : Nat) (v : Value), items[i]? = some v → ∃ k t, ns[i]? = some k ∧ v = .int k t := fun i v hv => by
    have lt : i < ns.length := by rw [← many]; exact (Array.getElem?_eq_some_iff.mp hv).1
    obtain ⟨t, e⟩ := IntsAre.int_at hi i v (by rw [Array.getElem?_toList]; exact hv)
    have eg : ns.getD i 0 = ns[i] := by rw [List.getD_eq_getElem?_getD, List.getElem?_eq_getElem lt]; rfl
    exact ⟨ns[i], t, List.getElem?_eq_getElem lt, by rw [e, eg]⟩
  refine set_update_ints (Walks.list (A := A.in1.in1) (by simp [hh]) _ l nlI items).toS s.heap.objs.size offS ns many hb vals (items.size - 0) 0 _ rfl (Nat.zero_le _) ?st ?new fun s2 c hm hc hR => ?_
  case st => exact ⟨⟨_, Heap.get?_push_size _ rfl, rfl, rfl⟩, isL.push _⟩
  case new => exact ⟨0, Nat.le_refl 0, setR_new_at (w := w) (show ((s.heap.push (nSet w)).push (nIt l)).get? s.heap.objs.size = some (nSet w) from Heap.get?_push_of_some _ gS)⟩
  obtain ⟨h2, g2, d2, tk2, os2⟩ := s2
  obtain rfl : g2 = s.gens := hm.gens
  obtain rfl : d2 = s.drawn := hm.drawn
  obtain rfl : os2 = s.os := hm.os
  rw [many] at hc
  refine wpAny_pure (wpAny_pure ⟨rfl, h2, tk2, c, rfl, hR, hc, fun b o e => ?_⟩)
  have bS : b < s.heap.objs.size := Heap.lt_size e
  refine hm.heap b o (fun z => ?_) (Heap.get?_push_of_some _ (Heap.get?_push_of_some _ e))
  rcases List.mem_cons.mp z with z | z
  · exact absurd z (Nat.ne_of_lt bS)
  · have z' := List.mem_singleton.mp z
    rw [sz] at z'
    exact absurd z' (Nat.ne_of_lt (Nat.lt_succ_of_lt bS))
theorem setL_call {l : Addr} {items : Array Value} {nl : Nat} {dd : Option Addr} {sl : Array (Option Value)} (ns : List Int) {Q : Value → Shared → Prop} (hh : A.handled = none) (el : s.heap.get? l = some { cls := .type "list", dict := dd, data := .seq items nl, slots := sl }) (hi : IntsAre items.toList ns) (hb : ns.length + 1 < scanBound)
    (h : ∀ s2, Filled w s ns .none s2 → Q (.ref s.heap.objs.size) s2) : wpAny (model P w) A (call (.type "set") [.ref l]) Q E s := by
  obtain ⟨cl, tl, f1⟩ := F.called_set.mro
  have f2 := F.called_set.made
  have f3 := F.called_set.sub
  have f4 := F.called_set.notType
  have f5 := F.called_set.canCreate
  have f6 := F.typeCall_set_1 (.ref l)
  refine wpAny_call (codeAny_of_tree (show wpAny _ _ (callAny (.type "set") _) _ _ _ from wpAny_pure ⟨Code.quiet_builtin _ (by decide +kernel), codeAny_builtin F.entry_type_call ?_⟩))
  rw [Around.under_plain (weight_type_call_type "set" [.ref l] []) rfl]
  repeat any_goals (first | assumption | wp_step)
  refine codeAny_mono (code_set_led1 (.ref l) (E := E) (Q₁ := fun v s1 => v = .ref s.heap.objs.size ∧ s1 = { s with heap := s.heap.push (nSet w) }) ⟨rfl, rfl⟩) fun r s1 hr => ?_
  match r, hr with
  | .error _, hr => exact hr
  | .ok (.ret v), hr =>
    obtain ⟨e1, e2⟩ := hr
    subst e1 e2
    have f7 := F.called_set.init.lookup
    have f8 := F.called_set.init.bind (.ref s.heap.objs.size)
    have f9 : Shared.TypeIs { s with heap := s.heap.push (nSet w) } (.ref s.heap.objs.size) "set" := ⟨_, Heap.get?_push_size _ rfl, rfl⟩
    repeat any_goals (first | assumption | wp_step)
    refine codeAny_mono (setL_fill (E := E) (A := A.in1) ns (by simp [hh]) el hi hb) fun r2 s2 hr2 => ?_
    match r2, hr2 with
    | .error _, hr2 => exact hr2
    | .ok (.ret u), hr2 =>
      obtain ⟨e3, q⟩ := hr2
      subst e3
      repeat any_goals (first | assumption | wp_step)
      exact h _ ⟨rfl, q⟩
end
section
variable {X : Cx}
/-- set(a list of ints): its members, at most as many as there are items -/
def rSetInts (w : World) : List V → Hp → VK → Prop := fun vs H Q => ∃ (a : Addr) (ns : List Int), vs = [V.ref a] ∧ H a = some (.lst (ns.map V.int)) ∧ ns.length ≤ 1000 ∧
  ∀ (p : Addr) (c : Nat), H p = none → c ≤ ns.length → Q (.ref p) (upd H p (SetO w p (fun j => decide (j ∈ ns)) c))
theorem cr_setInts (hc : X.calm = true) : CallR X (.type "set") (rSetInts X.w) := by
  intro pins s σ H vs us Q I r h
  obtain ⟨a, ns, rfl, ha, hl, q⟩ := h
  rw [Vals.ref1 r]
  obtain ⟨z, its, n, rv, e⟩ : ObjOk X.prog X.w H s.heap a (.lst (ns.map V.int)) := I.hok a _ ha
  refine setL_call ns (I.ok.hd hc) e (ints_of_vals rv) (by unfold scanBound; omega) fun s2 hf => ?_
  obtain ⟨_, h2, tk, c, rfl, hR, hc2, kp⟩ := hf
  have hn : H s.heap.objs.size = none := I.hok.fresh (Nat.le_refl _)
  exact ⟨.ref _, _, I.laid kp (Nat.le_refl _) (setO_new hR), rfl, q _ c hn hc2⟩
end
end HSP
namespace HSP
open PySem PySem.Spec PyProof.Rows L2
def topS (i : Nat) : Stmt := PySem.Challenge.pw_halfsearch_k54_hidden_elements.main.body.getD i (.Pass ⟨0, 0, 0, 0⟩)
abbrev s_is_whole : Stmt := topS 4
abbrev p_is_whole : List Str := ["thing"]
abbrev n_is_whole : List Str := ["thing"]
abbrev s_is_node : Stmt := topS 5
abbrev p_is_node : List Str := ["thing", "many"]
abbrev n_is_node : List Str := ["thing", "many"]
abbrev s_check_among : Stmt := topS 6
abbrev p_check_among : List Str := ["many", "node"]
abbrev n_check_among : List Str := ["many", "node"]
abbrev s_check_row : Stmt := topS 7
abbrev p_check_row : List Str := ["row"]
abbrev n_check_row : List Str := ["row", "node", "value"]
abbrev s_hidden_by : Stmt := topS 9
abbrev p_hidden_by : List Str := ["values", "node"]
abbrev n_hidden_by : List Str := ["values", "node", "other", "value"]
abbrev s_law_draws : Stmt := topS 11
abbrev p_law_draws : List Str := ["cell"]
abbrev n_law_draws : List Str := ["cell"]
abbrev s_law_next : Stmt := topS 12
abbrev p_law_next : List Str := ["draws"]
abbrev n_law_next : List Str := ["draws", "k", "number"]
abbrev s_law_room : Stmt := topS 13
abbrev p_law_room : List Str := ["tree"]
abbrev n_law_room : List Str := ["tree"]
abbrev s_law_ended : Stmt := topS 14
abbrev p_law_ended : List Str := ["tree", "a_values", "twice"]
abbrev n_law_ended : List Str := ["tree", "a_values", "twice", "first", "root"]
abbrev s_law_all_shapes : Stmt := topS 15
abbrev p_law_all_shapes : List Str := ["nodes"]
abbrev n_law_all_shapes : List Str := ["nodes", "told", "root", "left", "right"]
abbrev s_law_by_roots : Stmt := topS 16
abbrev p_law_by_roots : List Str := ["a_values", "shapes", "a_node"]
abbrev n_law_by_roots : List Str := ["a_values", "shapes", "a_node", "root", "with_root", "ends", "shape"]
abbrev s_law_right : Stmt := topS 17
abbrev p_law_right : List Str := ["draws"]
abbrev n_law_right : List Str := ["draws", "nodes", "k", "a_values", "shapes", "at", "due", "every", "value", "other", "shape"]
abbrev s_law : Stmt := topS 18
abbrev p_law : List Str := ["script"]
abbrev n_law : List Str := ["script", "draws", "cell"]
end HSP
namespace HSP
open PySem PySem.Spec PyProof.Rows L2
/-! ## what the law draws from: a list of a number, a count, a mark -/
def DrAt (H : Hp) (p : Addr) (k : Nat) : Prop := ∃ (n : Int) (j : Nat) (b : Bool), H p = some (.lst [.int n, .int (j : Int), .bl b]) ∧ j ≤ k
theorem DrAt.mono {H : Hp} {p : Addr} {k k' : Nat} (d : DrAt H p k) (h : k ≤ k') : DrAt H p k' := by
  obtain ⟨n, j, b, e, l⟩ := d
  exact ⟨n, j, b, e, Nat.le_trans l h⟩
theorem DrAt.same {H H' : Hp} {p : Addr} {k : Nat} (d : DrAt H p k) (s : Same H H') : DrAt H' p k := by
  obtain ⟨n, j, b, e, l⟩ := d
  exact ⟨n, j, b, s _ _ e, l⟩
theorem DrAt.ne {H : Hp} {p q : Addr} {k : Nat} (d : DrAt H p k) (h : H q = none) : q ≠ p := by
  obtain ⟨n, j, b, e, l⟩ := d
  exact (ne_of_none e h).symm
theorem DrAt.tree {H H' : Hp} {p : Addr} {k : Nat} {v : V} {t : Tr} (d : DrAt H p k) (s : Keep p H H') (h : TrAt H v t) : TrAt H' v t := by
  obtain ⟨n, j, b, e, l⟩ := d
  exact s.tree e h
/-- any of the items, whichever place is read -/
theorem at_any {xs : List V} {C : V → Prop} (h : ∀ x, x ∈ xs → C x) {i : Int} (h0 : 0 ≤ i) (h1 : i < (xs.length : Int)) : ∃ v, atI xs i = some v ∧ C v := by
  have hk : i.toNat < xs.length := by omega
  have ei : i = ((i.toNat : Nat) : Int) := by omega
  exact ⟨xs[i.toNat], at_of ei (List.getElem?_eq_getElem hk), h _ (List.getElem_mem hk)⟩
theorem small_mod {a m : Int} (h0 : 0 < m) (h1 : m < 2 ^ 64) : -(2 ^ 64) < a % m ∧ a % m < 2 ^ 64 := by
  have q1 := Int.emod_nonneg a (show m ≠ 0 by omega)
  have q2 := Int.emod_lt_of_pos a h0
  constructor <;> omega
section
variable {P : Program} {w : World} {K : PySem.W.Frag} {mg : Str → Option Value} {base : Heap}
/-! ### _law_draws -/
theorem sc_law_draws : FnScope n_law_draws ["cell"] (defScope s_law_draws) := ⟨rfl, rfl, rfl, by decide +kernel, rfl, by decide +kernel, by decide +kernel⟩
def spDraws : Sp := fun vs H Q _ => ∃ c : Int, vs = [.int c] ∧ ∀ (H' : Hp) (p : Addr), Same H H' → H p = none → DrAt H' p 0 → Q (.ref p) H'
theorem ok_draws (B : Bl mg) (a : At K mg "_law_draws" s_law_draws) : Df P w K mg base "_law_draws" 1 ["cell"] spDraws := by
  refine Df.mk' a sc_law_draws (fun vs H Q E h => ?_) (fun _ _ _ _ _ _ us hl => match us, hl with | [_], _ => rfl) (fun f cdv A outer s H vs Q E hr h => ?_)
  · obtain ⟨c, rfl, _⟩ := h
    rfl
  obtain ⟨c, rfl, q⟩ := h
  refine ⟨_, (pss_one (ps_ret (pe_lst (pa_cons (pe_op op_mod (pe_callTy call_int1 (by rfl) B.int (by decide +kernel) (pa_cons (pv 0) pa_nil)) (pe_op op_powW (pe_op op_powW (pe_op op_powW pe_int pe_int) pe_int) pe_int)) (pa_cons pe_int (pa_cons (pe_cmpR op_ge (pv 0) (pe_op op_powW pe_int pe_int) (nomark _)) pa_nil)))))), ?_⟩
  refine ⟨_, rfl, .inl ⟨_, rfl, _, _, rfl, rfl, ⟨by decide, by decide +kernel⟩, _, _, rfl, rfl, ⟨by decide, by decide +kernel⟩, _, _, rfl, rfl, ⟨by decide, by decide +kernel⟩, _, _, rfl, rfl, ?_, ?_⟩⟩
  · exact Int.pow_pos (Int.pow_pos (Int.pow_pos (by decide)))
  refine ⟨_, rfl, _, _, rfl, rfl, ⟨by decide, by decide +kernel⟩, _, _, rfl, rfl, (by show 3 ≤ sizeLine; decide), fun p hp => ?_⟩
  exact q _ p (Same.new hp) hp ⟨_, 0, _, upd_same, Nat.le_refl _⟩
/-! ### _law_next -/
theorem sc_law_next : FnScope n_law_next ["draws"] (defScope s_law_next) := ⟨rfl, rfl, rfl, by decide +kernel, rfl, by decide +kernel, by decide +kernel⟩
def spNext : Sp := fun vs H Q _ => ∃ (p : Addr) (k : Nat), vs = [.ref p] ∧ DrAt H p k ∧ k ≤ 100000 ∧ ∀ (H' : Hp) (r : Int), Keep p H H' → DrAt H' p (k + 1) → 0 ≤ r → r < 2147483648 → Q (.int r) H'
theorem ok_next (B : Bl mg) (a : At K mg "_law_next" s_law_next) : Df P w K mg base "_law_next" 1 ["draws"] spNext := by
  refine Df.mk' a sc_law_next (fun vs H Q E h => ?_) (fun _ _ _ _ _ _ us hl => match us, hl with | [_], _ => rfl) (fun f cdv A outer s H vs Q E hr h => ?_)
  · obtain ⟨p, k, rfl, _⟩ := h
    rfl
  obtain ⟨p, k, rfl, ⟨n, j, b, e, hj⟩, hk, q⟩ := h
  refine ⟨_, (pss_cons (ps_asg (pe_op op_add (pe_ix ix_list (pv 0) pe_int (fun _ _ => rfl)) pe_int) (pg_sub (pv 0) pe_int set_list))
 (pss_cons (ps_set (i := 1) sc_law_next.nd rfl (.inl rfl) (pe_ix ix_list (pv 0) pe_int (fun _ _ => rfl)))
 (pss_cons (ps_if (pt_val (pe_ix ix_list (pv 0) pe_int (fun _ _ => rfl))) (pss_cons (ps_set (i := 2) sc_law_next.nd rfl (.inl rfl) (pe_op op_mod (pe_callTy call_int1 (by rfl) B.int (by decide +kernel) (pa_cons (pe_ix ix_list (pv 0) pe_int (fun _ _ => rfl)) pa_nil)) (pe_op op_powW pe_int pe_int)))
 (pss_cons (ps_asg (pe_op op_fdiv (pe_ix ix_list (pv 0) pe_int (fun _ _ => rfl)) (pe_op op_powW pe_int pe_int)) (pg_sub (pv 0) pe_int set_list))
 (pss_one (ps_ret (pv 2))))) pss_nil)
 (pss_cons (ps_set (i := 2) sc_law_next.nd rfl (.inl rfl) (pe_op op_mod (pe_callTy call_int1 (by rfl) B.int (by decide +kernel) (pa_cons (pe_op op_mul (pe_op op_add (pe_op op_add (pe_op op_mod (pe_callTy call_int1 (by rfl) B.int (by decide +kernel) (pa_cons (pe_ix ix_list (pv 0) pe_int (fun _ _ => rfl)) pa_nil)) pe_int) (pe_op op_mul (pe_op op_mul (pv 1) (pv 1)) pe_int)) (pv 1)) pe_int) pa_nil)) pe_int))
 (pss_cons (ps_set (i := 2) sc_law_next.nd rfl (.inl rfl) (pe_op op_mod (pe_callTy call_int1 (by rfl) B.int (by decide +kernel) (pa_cons (pe_op op_mul (pv 2) (pv 2)) pa_nil)) pe_int))
 (pss_one (ps_ret (pe_op op_fdiv (pe_op op_mod (pe_callTy call_int1 (by rfl) B.int (by decide +kernel) (pa_cons (pe_op op_mul (pv 2) (pe_op op_add (pv 2) pe_int)) pa_nil)) pe_int) pe_int)))))))), ?_⟩
  have e1 : (upd H p (.lst ([V.int n, .int (j : Int), .bl b].set 1 (.int ((j : Int) + 1))))) p = some (.lst [.int n, .int ((j + 1 : Nat) : Int), .bl b]) := by
    rw [upd_same]
    rfl
  refine ⟨_, rfl, p, _, _, _, rfl, rfl, .of e, atI_nat (j := 1) rfl, _, _, rfl, rfl, _, rfl, p, _, _, 1, rfl, rfl, e, rfl, ?_⟩
  have kp1 : Keep p H (upd H p (.lst ([V.int n, .int (j : Int), .bl b].set 1 (.int ((j : Int) + 1))))) := Keep.at
  generalize upd H p (.lst ([V.int n, .int (j : Int), .bl b].set 1 (.int ((j : Int) + 1)))) = H1 at e1 kp1 ⊢
  refine ⟨_, rfl, p, _, _, _, rfl, rfl, .of e1, atI_nat (j := 1) rfl, ?_⟩
  refine ⟨_, rfl, p, _, _, _, rfl, rfl, .of e1, atI_nat (j := 2) rfl, b, rfl, ?_⟩
  refine ite2 (fun c => ?_) (fun c => ?_)
  · refine ⟨_, rfl, p, _, _, _, rfl, rfl, .of e1, atI_nat (j := 0) rfl, .inl ⟨_, rfl, _, _, rfl, rfl, ⟨by decide, by decide +kernel⟩, _, _, rfl, rfl, Int.pow_pos (by decide), ?_⟩⟩
    refine ⟨_, rfl, p, _, _, _, rfl, rfl, .of e1, atI_nat (j := 0) rfl, _, _, rfl, rfl, ⟨by decide, by decide +kernel⟩, _, _, rfl, rfl, ⟨by decide, by decide⟩, _, rfl, p, _, _, 0, rfl, rfl, e1, rfl, ?_⟩
    refine ⟨_, rfl, q _ _ (kp1.trans Keep.at) ⟨_, j + 1, b, upd_same, by omega⟩ (Int.emod_nonneg _ (by decide)) ?_⟩
    have h6 : n % (1000000 : Int) < 1000000 := Int.emod_lt_of_pos n (by decide)
    exact Int.lt_trans h6 (by decide)
  · have k1 : -(2 ^ 64) < ((j + 1 : Nat) : Int) := by omega
    have k2 : ((j + 1 : Nat) : Int) < 2 ^ 64 := by omega
    refine ⟨_, rfl, p, _, _, _, rfl, rfl, .of e1, atI_nat (j := 0) rfl, .inl ⟨_, rfl, _, _, rfl, rfl, (by show (0 : Int) < 1000003; decide), _, rfl, _, rfl, _, _, rfl, rfl, .inl ⟨k1, k2⟩, _, _, rfl, rfl, .inr ⟨by decide, by decide⟩, _, _, rfl, rfl, _, rfl, _, _, rfl, rfl, _, _, rfl, rfl, .inr ⟨by decide, by decide⟩,
      .inl ⟨_, rfl, _, _, rfl, rfl, (by show (0 : Int) < 2147483629; decide), ?_⟩⟩⟩
    refine ⟨_, rfl, _, rfl, _, _, rfl, rfl, .inl (small_mod (by decide) (by decide)), .inl ⟨_, rfl, _, _, rfl, rfl, (by show (0 : Int) < 2147483587; decide), ?_⟩⟩
    refine ⟨_, rfl, _, rfl, _, _, rfl, rfl, _, _, rfl, rfl, .inl (small_mod (by decide) (by decide)), .inl ⟨_, rfl, _, _, rfl, rfl, (by show (0 : Int) < 2147483579; decide), _, _, rfl, rfl, ⟨by decide, by decide⟩, ?_⟩⟩
    refine q _ _ kp1 ⟨n, j + 1, b, e1, by omega⟩ (Int.ediv_nonneg (Int.emod_nonneg _ (by decide)) (by decide)) ?_
    exact Int.lt_of_le_of_lt (Int.ediv_le_self _ (Int.emod_nonneg _ (by decide))) (Int.lt_trans (Int.emod_lt_of_pos _ (by decide)) (by decide))
end
end HSP
namespace HSP
open PySem PySem.Spec PyProof.Rows L2
section
variable {P : Program} {w : World} {K : PySem.W.Frag} {mg : Str → Option Value} {base : Heap}
/-- nothing can be asked: no room is needed -/
theorem Df.none' {x : Str} {st : Stmt} {ps : List Str} {sp : Sp} (a : At K mg x st) (no : ∀ vs H Q E, ¬ sp vs H Q E)
    (hb : ∀ (kV doc pm : Value) (an : Option Addr) (cdv ct : Value) (us : List Value), us.length = ps.length → bindArgs (PySem.W.fnOf x x (defArgs st) (defBody st) (defScope st) .none kV doc pm an cdv ct) ⟨us, []⟩ = pure (ps.zip us)) (k : Nat) : Df P w K mg base x k ps sp := by
  obtain ⟨f, fd, hm, F⟩ := a
  exact ⟨f, fd, hm, F.kp, F.binds hb, ⟨fun vs H Q E h => absurd h (no vs H Q E), fun A outer s H args us vs Q E _ _ _ _ h => absurd h (no vs H Q E)⟩⟩
def spSize (n : Nat) : Sp := fun vs H Q _ => ∃ (v : V) (t : Tr), vs = [v] ∧ TrAt H v t ∧ t.ht < n ∧ Q (.int t.size) H
end
end HSP
namespace HSP
open PySem PySem.Spec PyProof.Rows L2
section
variable {P : Program} {w : World} {K : PySem.W.Frag} {mg : Str → Option Value} {base : Heap}
/-! ### _law_room -/
theorem sc_law_room : FnScope n_law_room n_law_room (defScope s_law_room) := ⟨rfl, rfl, rfl, by decide +kernel, rfl, by decide +kernel, by decide +kernel⟩
theorem ok_room (a : At K mg "_law_room" s_law_room) : ∀ n, Df P w K mg base "_law_room" n n_law_room (spSize n)
  | 0 => Df.none' a (fun vs H Q E h => by obtain ⟨v, t, _, _, h, _⟩ := h; exact absurd h (Nat.not_lt_zero _)) (fun _ _ _ _ _ _ us hl => match us, hl with | [_], _ => rfl) 0
  | n + 1 => by
    have S := ok_room a n
    refine Df.mk' a sc_law_room (fun vs H Q E h => ?_) (fun _ _ _ _ _ _ us hl => match us, hl with | [_], _ => rfl) (fun f cdv A outer s H vs Q E hr h => ?_)
    · obtain ⟨v, t, rfl, _⟩ := h
      rfl
    obtain ⟨v, t, rfl, ht, hd, q⟩ := h
    refine ⟨_, (pss_one (ps_ret (pe_ifExp (pt_cmpR op_isN (pv 0) pe_non (nomark _)) pe_int (pe_op op_add (pe_op op_add (pe_df S hr (pa_cons (pe_ix ix_tup (pv 0) pe_int (fun _ _ => rfl)) pa_nil)) pe_int) (pe_df S hr (pa_cons (pe_ix ix_tup (pv 0) pe_int (fun _ _ => rfl)) pa_nil)))))), ?_⟩
    refine ⟨v, rfl, rfl, _, rfl, ?_⟩
    cases ht with
    | nil => exact iteT q
    | @nod b x1 x2 l r e hl hr2 =>
      have hd' : max l.ht r.ht + 1 < n + 1 := hd
      refine iteF ?_
      refine ⟨_, rfl, b, _, _, x1, rfl, rfl, .of e, atI_nat (j := 0) rfl, x1, l, rfl, hl, by omega, ?_⟩
      refine ⟨_, _, rfl, rfl, _, rfl, b, _, _, x2, rfl, rfl, .of e, atI_nat (j := 1) rfl, x2, r, rfl, hr2, by omega, ?_⟩
      refine ⟨_, _, rfl, rfl, ?_⟩
      have e2 : ((l.size : Int) + 1 + (r.size : Int)) = (((Tr.nod l r).size : Nat) : Int) := by
        show _ = ((l.size + 1 + r.size : Nat) : Int)
        omega
      rw [← e2] at q
      exact q
end
end HSP
namespace HSP
open PySem PySem.Spec PyProof.Rows L2
/-! ### all trees of so many nodes -/
def trees : Nat → Nat → List Tr
  | _, 0 => [.nil]
  | 0, _ + 1 => []
  | f + 1, n + 1 => (List.range (n + 1)).flatMap fun a => (trees f a).flatMap fun l => (trees f (n - a)).map fun r => .nod l r
theorem trees_all : ∀ (f : Nat) (t : Tr), t.size ≤ f → t ∈ trees f t.size
  | 0, .nil, _ => List.mem_singleton.mpr rfl
  | _ + 1, .nil, _ => List.mem_singleton.mpr rfl
  | 0, .nod l r, h => by
    have : l.size + 1 + r.size ≤ 0 := h
    omega
  | f + 1, .nod l r, h => by
    have h' : l.size + 1 + r.size ≤ f + 1 := h
    have e : (Tr.nod l r).size = (l.size + r.size) + 1 := by
      show l.size + 1 + r.size = _
      omega
    rw [e]
    show Tr.nod l r ∈ (List.range (l.size + r.size + 1)).flatMap fun a => (trees f a).flatMap fun l' => (trees f (l.size + r.size - a)).map fun r' => Tr.nod l' r'
    refine List.mem_flatMap.mpr ⟨l.size, List.mem_range.mpr (by omega), List.mem_flatMap.mpr ⟨l, trees_all f l (by omega), List.mem_map.mpr ⟨r, ?_, rfl⟩⟩⟩
    have e2 : l.size + r.size - l.size = r.size := by omega
    rw [e2]
    exact trees_all f r (by omega)
theorem trees_size : ∀ (f n : Nat) (t : Tr), t ∈ trees f n → t.size = n
  | 0, 0, t, h => by rw [List.mem_singleton.mp h]; rfl
  | _ + 1, 0, t, h => by rw [List.mem_singleton.mp h]; rfl
  | 0, _ + 1, t, h => by cases h
  | f + 1, n + 1, t, h => by
    obtain ⟨a, ha, h⟩ := List.mem_flatMap.mp h
    obtain ⟨l, hl, h⟩ := List.mem_flatMap.mp h
    obtain ⟨r, hr, rfl⟩ := List.mem_map.mp h
    have h1 := List.mem_range.mp ha
    have h2 := trees_size f a l hl
    have h3 := trees_size f (n - a) r hr
    show l.size + 1 + r.size = n + 1
    omega
theorem flatMap_same {α β : Type} {f g : α → List β} : ∀ {l : List α}, (∀ x, x ∈ l → f x = g x) → l.flatMap f = l.flatMap g
  | [], _ => rfl
  | x :: r, h => by rw [List.flatMap_cons, List.flatMap_cons, h x List.mem_cons_self, flatMap_same fun y hy => h y (List.mem_cons_of_mem _ hy)]
/-- more room makes no more trees -/
theorem trees_same : ∀ (f g n : Nat), n ≤ f → n ≤ g → trees f n = trees g n
  | 0, 0, 0, _, _ => rfl
  | 0, _ + 1, 0, _, _ => rfl
  | _ + 1, 0, 0, _, _ => rfl
  | _ + 1, _ + 1, 0, _, _ => rfl
  | 0, _, _ + 1, h, _ => absurd h (by omega)
  | _ + 1, 0, _ + 1, _, h => absurd h (by omega)
  | f + 1, g + 1, n + 1, h1, h2 => by
    show ((List.range (n + 1)).flatMap fun a => (trees f a).flatMap fun l => (trees f (n - a)).map fun r => Tr.nod l r) = (List.range (n + 1)).flatMap fun a => (trees g a).flatMap fun l => (trees g (n - a)).map fun r => Tr.nod l r
    refine flatMap_same fun a ha => ?_
    have ha' := List.mem_range.mp ha
    rw [trees_same f g a (by omega) (by omega), trees_same f g (n - a) (by omega) (by omega)]
/-- all trees of so many nodes -/
def shapesOf (n : Nat) : List Tr := trees n n
theorem shapes_succ (n : Nat) : shapesOf (n + 1) = (List.range (n + 1)).flatMap fun a => (shapesOf a).flatMap fun l => (shapesOf (n - a)).map fun r => Tr.nod l r := by
  show ((List.range (n + 1)).flatMap fun a => (trees n a).flatMap fun l => (trees n (n - a)).map fun r => Tr.nod l r) = _
  refine flatMap_same fun a ha => ?_
  have ha' := List.mem_range.mp ha
  rw [trees_same n a a (by omega) (by omega), trees_same n (n - a) (n - a) (by omega) (by omega)]
  rfl
theorem shapes_in (t : Tr) : t ∈ shapesOf t.size := trees_all _ t (Nat.le_refl _)
theorem shapes_size {n : Nat} {t : Tr} (h : t ∈ shapesOf n) : t.size = n := trees_size _ _ t h
theorem shapes_few : ((List.range 6).all fun n => decide ((shapesOf n).length ≤ 42)) = true := by decide +kernel
theorem shapes_le {n : Nat} (h : n < 6) : (shapesOf n).length ≤ 42 := of_decide_eq_true (List.all_eq_true.mp shapes_few n (List.mem_range.mpr h))
theorem len_flatMap_le {α β : Type} {f : α → List β} {c : Nat} : ∀ {l : List α}, (∀ x, x ∈ l → (f x).length ≤ c) → (l.flatMap f).length ≤ l.length * c
  | [], _ => Nat.zero_le _
  | x :: r, h => by
    have h1 := h x List.mem_cons_self
    have h2 := len_flatMap_le fun y hy => h y (List.mem_cons_of_mem _ hy)
    rw [List.flatMap_cons, List.length_append, List.length_cons, Nat.add_mul, Nat.one_mul]
    omega
end HSP
namespace HSP
open PySem PySem.Spec PyProof.Rows L2
theorem Paired.app {α β : Type} {R : α → β → Prop} : ∀ {l : List α} {m : List β} {l' : List α} {m' : List β}, Paired R l m → Paired R l' m' → Paired R (l ++ l') (m ++ m')
  | _, _, _, _, .nil, h => h
  | _, _, _, _, .cons a t, h => .cons a (Paired.app t h)
theorem ixN_in {n : Nat} {i : Int} (h0 : 0 ≤ i) (h1 : i < (n : Int)) : ixN n i = some i.toNat := by
  unfold ixN
  rw [if_pos h0, if_pos h1]
def valAt (ns : List Int) (i : Nat) : Int := ns.getD i 0
theorem valAt_get {ns : List Int} {i : Nat} (h : i < ns.length) : (ns.map V.int)[i]? = some (.int (valAt ns i)) := by
  rw [List.getElem?_map, List.getElem?_eq_getElem h, valAt, List.getD_eq_getElem?_getD, List.getElem?_eq_getElem h]
  rfl
def natV (n : Nat) : V := .int (n : Int)
theorem ite_no {c A B : Prop} [Decidable c] (h : ¬ c) (b : B) : if decide c = true then A else B := by
  rw [decide_eq_false h]
  exact iteF b
theorem ite_yes {c A B : Prop} [Decidable c] (h : c) (a : A) : if decide c = true then A else B := by
  rw [decide_eq_true h]
  exact iteT a
inductive Md where
  | fin | lft | rgt
def Md.str : Md → Str
  | .fin => "end"
  | .lft => "left"
  | .rgt => "right"
/-- where a search goes on -/
def wayOf (tw v : Int) (m : Md) : Md := if tw = 2 * v then m else if tw < 2 * v then .lft else .rgt
/-! ### the search, as a function of the tree -/
/-- how it ends: is it found, and the node or the gap -/
def sEnd (g : Nat → Int) (tw : Int) (m : Md) : Tr → Nat → Bool × Nat
  | .nil, f => (false, f)
  | .nod l r, f => match wayOf tw (g (f + l.size)) m with
    | .fin => (true, f + l.size)
    | .lft => sEnd g tw m l f
    | .rgt => sEnd g tw m r (f + l.size + 1)
/-- the nodes at which it is -/
def sPath (g : Nat → Int) (tw : Int) (m : Md) : Tr → Nat → List Nat
  | .nil, _ => []
  | .nod l r, f => (f + l.size) :: match wayOf tw (g (f + l.size)) m with
    | .fin => []
    | .lft => sPath g tw m l f
    | .rgt => sPath g tw m r (f + l.size + 1)
theorem sPath_in (g : Nat → Int) (tw : Int) (m : Md) : ∀ (t : Tr) (f i : Nat), i ∈ sPath g tw m t f → f ≤ i ∧ i < f + t.size
  | .nil, _, _, h => by cases h
  | .nod l r, f, i, h => by
    have e : sPath g tw m (.nod l r) f = (f + l.size) :: match wayOf tw (g (f + l.size)) m with | .fin => [] | .lft => sPath g tw m l f | .rgt => sPath g tw m r (f + l.size + 1) := rfl
    have z : (Tr.nod l r).size = l.size + 1 + r.size := rfl
    rw [e] at h
    rw [z]
    rcases List.mem_cons.mp h with q | q
    · omega
    · cases w : wayOf tw (g (f + l.size)) m with
      | fin => rw [w] at q; cases q
      | lft =>
        rw [w] at q
        have := sPath_in g tw m l f i q
        omega
      | rgt =>
        rw [w] at q
        have := sPath_in g tw m r (f + l.size + 1) i q
        omega
theorem sPath_len (g : Nat → Int) (tw : Int) (m : Md) : ∀ (t : Tr) (f : Nat), (sPath g tw m t f).length ≤ t.size
  | .nil, _ => Nat.le_refl _
  | .nod l r, f => by
    have e : sPath g tw m (.nod l r) f = (f + l.size) :: match wayOf tw (g (f + l.size)) m with | .fin => [] | .lft => sPath g tw m l f | .rgt => sPath g tw m r (f + l.size + 1) := rfl
    have z : (Tr.nod l r).size = l.size + 1 + r.size := rfl
    rw [e, z, List.length_cons]
    cases wayOf tw (g (f + l.size)) m with
    | fin => show 0 + 1 ≤ _; omega
    | lft => have := sPath_len g tw m l f; show (sPath g tw m l f).length + 1 ≤ _; omega
    | rgt => have := sPath_len g tw m r (f + l.size + 1); show (sPath g tw m r (f + l.size + 1)).length + 1 ≤ _; omega
def optNV : Option Nat → V
  | none => .non
  | some n => natV n
def kindV (b : Bool) : V := if b = true then .str "found" else .str "gap"
end HSP
namespace HSP
open PySem PySem.Spec PyProof.Rows L2
/-! ## defs that may show an object: nothing is being shown around them -/
structure FnG (P : Program) (w : World) (K : PySem.W.Frag) (mg : Str → Option Value) (base : Heap) (CX : CXT) (k : Nat) (f : Addr) (fd : FuncData) (ps : List Str) (sp : Sp) : Prop where
  len : ∀ vs H Q E, sp vs H Q E → vs.length = ps.length
  run : ∀ (A : Around) (outer : List Env) (s : Shared) (H : Hp) (args : Args) (us : List Value) (vs : List V) (Q : VK) (E : XK), A.guards = some [] → Room k A → Env0 P w K mg base A outer s H → BindsTo s fd args (ps.zip us) → Vals vs us → sp vs H Q E →
    codeAny (model P w) A (.call (.ref f) args) (CR CX outer P w H s Q E) s
section
variable {P : Program} {w : World} {K : PySem.W.Frag} {mg : Str → Option Value} {base : Heap}
theorem FnG.of {CX : CXT} {k : Nat} {f : Addr} {fd : FuncData} {ps : List Str} {sp : Sp} (F : FnOk P w K mg base CX k f fd ps sp) : FnG P w K mg base CX k f fd ps sp :=
  ⟨F.len, fun A outer s H args us vs Q E _ hr e hb hv hs => F.run A outer s H args us vs Q E hr e hb hv hs⟩
theorem FnG.mk' {CX : CXT} {x qual : Str} {st : Stmt} {f : Addr} {fd : FuncData} {N ps : List Str} {k : Nat} {sp : Sp} (F : Fun K x qual st f fd) (S : FnScope N ps (defScope st)) (len : ∀ vs H Q E, sp vs H Q E → vs.length = ps.length)
    (body : ∀ (cdv : Value) (A : Around) (outer : List Env) (s : Shared) (H : Hp) (vs : List V) (Q : VK) (E : XK), A.guards = some [] → Room k (A.deeper (envOfC qual (defScope st) s.heap.objs.size f cdv)) → sp vs H Q E →
      ∃ t, PSs (cxOf CX P w K mg base N qual (defScope st) f cdv A outer s H E) (defBody st) t ∧ t { nx := fun _ H' => Q .non H', rt := Q } (start N vs) H) : FnG P w K mg base CX (k + 1) f fd ps sp := by
  obtain ⟨oc, od, kV, doc, pm, an, cdv, ct, osl, e1, lk, hcd⟩ := F.ex
  subst e1
  refine ⟨len, fun A outer s H args us vs Q E hg hr e0 hb rv hs => ?_⟩
  have kin : K.In s.heap := e0.mod.kin.keeps fun b o e => (e0.bs b o e).1
  have nol : s.heap.NoLimit := e0.mod.nolimit.keeps fun b o e => (e0.bs b o e).1
  have kinds : ∀ y ∈ ps.zip us, (defScope st).names.lookup y.1 = some .local ∨ ((defScope st).names.lookup y.1 = some .cell ∧ ((cellsFrom (s.heap.objs.size + 1) (defScope st).names []).lookup y.1).isSome = true) := by
    intro y hy
    refine (S.par y.1 (List.of_mem_zip (a := y.1) (b := y.2) hy).1).imp id fun c => ⟨c, PySem.W.cellsFrom_some _ _ _ (.inl c)⟩
  refine codeAny_call_function hr.depth (kin _ _ lk) rfl S.co S.gen rfl (PySem.W.codeRec_of kin hcd) (hb _ _ _ _ (wpAny_newFunctionEnv_cells S.kind kinds fun env he s1 x => ?_))
  subst he
  obtain ⟨t, ht, hq⟩ := body cdv A outer s H vs Q E hg (hr.deeper _) hs
  have I := inv_start (CX := CX) (E := E) S hr.hd e0 (len _ _ _ _ hs) rv x
  refine ⟨nol.keeps x.toInCall.keep, codeAny_func (wpAny_mono (ht.run [] s1 (start N vs) H _ I hq) (fun fl s' q => ?_) fun _ _ q => q)⟩
  match fl, q with
  | .ret u, ⟨v, σ', H', J, r, q⟩ => exact ⟨v, H', J.os, J.bare, J.base, J.hok, r, q⟩
  | .next, ⟨σ', H', J, q⟩ => exact ⟨.non, H', J.os, J.bare, J.base, J.hok, rfl, q⟩
  | .brk, ⟨_, _, _, q⟩ => exact q.elim
  | .cont, ⟨_, _, _, q⟩ => exact q.elim
end
end HSP
namespace HSP
open PySem PySem.Spec PyProof.Rows L2
theorem deeper_guards (A : Around) (env : Env) : (A.deeper env).guards = A.guards := rfl
/-! ### calls of such defs -/
structure DfG (P : Program) (w : World) (K : PySem.W.Frag) (mg : Str → Option Value) (base : Heap) (x : Str) (n : Nat) (ps : List Str) (sp : Sp) : Prop where
  ex : ∃ (f : Addr) (fd : FuncData), mg x = some (.ref f) ∧ PySem.W.keepIn K (.ref f) = true ∧ Binds K fd ps [] ∧ FnG P w K mg base CX0 n f fd ps sp
section
variable {P : Program} {w : World} {K : PySem.W.Frag} {mg : Str → Option Value} {base : Heap}
theorem DfG.mk' {x : Str} {st : Stmt} {N ps : List Str} {k : Nat} {sp : Sp} (a : At K mg x st) (S : FnScope N ps (defScope st)) (len : ∀ vs H Q E, sp vs H Q E → vs.length = ps.length)
    (hb : ∀ (kV doc pm : Value) (an : Option Addr) (cdv ct : Value) (us : List Value), us.length = ps.length → bindArgs (PySem.W.fnOf x x (defArgs st) (defBody st) (defScope st) .none kV doc pm an cdv ct) ⟨us, []⟩ = pure (ps.zip us))
    (body : ∀ (f : Addr) (cdv : Value) (A : Around) (outer : List Env) (s : Shared) (H : Hp) (vs : List V) (Q : VK) (E : XK), A.guards = some [] → Room k (A.deeper (envOfC x (defScope st) s.heap.objs.size f cdv)) → sp vs H Q E →
      ∃ t, PSs (cxOf CX0 P w K mg base N x (defScope st) f cdv A outer s H E).nox (defBody st) t ∧ t { nx := fun _ H' => Q .non H', rt := Q } (start N vs) H) : DfG P w K mg base x (k + 1) ps sp := by
  obtain ⟨f, fd, hm, F⟩ := a
  refine ⟨f, fd, hm, F.kp, F.binds hb, FnG.mk' F S len fun cdv A outer s H vs Q E hg hr hs => ?_⟩
  obtain ⟨t, h1, h2⟩ := body f cdv A outer s H vs Q E hg hr hs
  exact ⟨t, h1.nox, h2⟩
end
section
variable {X : Cx} {k n : Nat} {ps ks : List Str} {sp : Sp} {x : Str} {p pos : Pos} {e : Expr} {es : List Expr} {kws : List Keyword} {t tk : TA} {f : Addr} {fd : FuncData} {ds : List Value} {dvs : List V} {g : List Value → List Value → List Value} {gV : List V → List V → List V}
theorem pe_dfG (D : DfG X.prog X.w X.K X.mg X.base x k ps sp) (hgd : X.A.guards = some []) (hr : Room k X.A) (ha : PA X (e :: es) t) (hg : Gl X x := by rfl) (hdb : (x == ("__debug__" : Str)) = false := by decide)
    (he : starEach (e :: es) X.env = (false, eval e X.env) :: starEach es X.env := by rfl) (hpl : (backTo pos (starEach es X.env)).any (·.1) = false := by rfl) : PE X (.Call (.Name x p) (e :: es) [] pos) (tCall sp [] E0 t) := by
  obtain ⟨f, fd, hm, hk, hb, F⟩ := D.ex
  refine ⟨fun pins s σ H Q I h => wpAny_Call_Name_kw (ld_glob I hg hm ?_ hdb)⟩
  refine PySem.W.callWith_K (h₀ := X.base) I.ok.mod.kin hk (thn (ha.run pos pins s σ H _ I h) fun us s1 z => ?_) he hpl
  obtain ⟨vs, H1, I1, r, q⟩ := z
  refine ⟨I1.kIn, ?_⟩
  have q' : sp vs H1 Q E0 := by
    have z : sp (vs ++ []) H1 Q E0 := q
    rw [List.append_nil] at z
    exact z
  have l1 : (us ++ []).length = ps.length := by rw [List.append_nil, ← r.length]; exact F.len _ _ _ _ q'
  have hb' := hb s1 us I1.kIn l1
  rw [List.append_nil] at hb'
  refine wpAny_call (codeAny_mono (F.run X.A X.stack s1 H1 ⟨us, []⟩ us vs Q E0 hgd hr I1.env0 hb' r q') fun res s' hq => ?_)
  match res, hq with
  | .error _, hq => exact (show False from hq).elim
  | .ok (.ret u), hq => exact I1.after hq
/-- f(k = v, ..): keywords alone -/
theorem pe_callK0 {CX : CXT} {E : XK} (F : FnOk X.prog X.w X.K X.mg X.base CX k f fd ps sp) (hr : Room k X.A) (hg : Gl X x) (hm : X.mg x = some (.ref f)) (hk : PySem.W.keepIn X.K (.ref f) = true) (hb : KBn X.K fd ps 0 ks g gV) (hx : Passes CX X E) (hkw : PK X kws tk)
    (hall : (backToKw pos (keywordEach kws X.env)).all (·.1.isSome) = true := by rfl) (hks : (backToKw pos (keywordEach kws X.env)).filterMap (·.1) = ks := by rfl) (hdb : (x == ("__debug__" : Str)) = false := by decide)
    (hpl : (backToKw pos (keywordEach kws X.env)).any (·.1.isNone) = false := by rfl) : PE X (.Call (.Name x p) [] kws pos) (tCallN 0 ks.length sp gV E tNil tk) := by
  refine ⟨fun pins s σ H Q I h => wpAny_Call_Name_kw (ld_glob I hg hm ?_ hdb)⟩
  refine PySem.W.callWith_KW0 (h₀ := X.base) I.ok.mod.kin hk hall (thn (hkw.run pos pins s σ H _ I h) fun ws s1 z => ?_) hpl
  obtain ⟨zs, H1, I1, rz, l1, l2, q⟩ := z
  rw [hks]
  exact ⟨I1.kIn, run_fnN (us := []) F hr hb hx I1 .nil rz l1 l2 q⟩
/-! ### repr of data -/
def rReprD (K : PySem.W.Frag) : List V → Hp → VK → Prop := fun vs H Q => ∃ (a : Addr) (d : PyData), vs = [.ref a] ∧ Dp K H (.ref a) d ∧ d.showable = true ∧ d.hasDict = false ∧ d.depth ≤ 60 ∧ d.shown.length ≤ sizeLine ∧ Q (.str d.shown) H
theorem cr_reprD (hgd : X.A.guards = some []) (hu : X.A.units + 64 < cLine) : CallR X (.builtin "repr") (rReprD X.K) := by
  intro pins s σ H vs us Q I r h
  obtain ⟨a, d, rfl, hd, hs, hn, h60, hz, q⟩ := h
  rw [Vals.ref1 r]
  obtain ⟨as, rd⟩ := Dp.reads I d (.ref a) (.ref a) hd rfl
  exact repr_of_reads' rd hs (fun z => by rw [hn] at z; cases z) hgd (by omega) (fun _ _ e => e) (fun h' u tk kp => ⟨.str _, H, I.kept kp, ⟨u, rfl⟩, q⟩) hz
end
end HSP
namespace HSP
open PySem PySem.Spec PyProof.Rows L2
/-! ## the law's call, where nothing is being shown -/
section
variable {P : Program} {w : World} {K : PySem.W.Frag} {mg mb : Str → Option Value} {k : Nat} {fa a : Addr} {fd : FuncData} {x : Str} {sp : Sp} {s1 : Shared} {vs : List Value} {ns : List Int}
/-- from an abstract heap that tracks nothing but, perhaps, the script -/
theorem callG_core (kin : K.In s1.heap) (hns : s1.heap.Ns mainGlobals mg) (hb : s1.heap.Ns builtinsNs mb) (hbb : ∀ x : Str, x ≠ "__name__" → mb x = bootBuiltins x) (hlim : s1.heap.NoLimit) (hg : s1.gens = #[])
    (ha : s1.heap.get? a = some { cls := .type "list", data := .seq vs.toArray }) (hr : Room k callerA) (F : ∀ base : Heap, K.In base → base.Ns mainGlobals mg → FnG P w K mg base CX0 k fa fd [x] sp)
    (hbind : ∀ (s : Shared) (u : Value), BindsTo s fd ⟨[u], []⟩ [(x, u)]) (H : Hp) (hO : Only H) (hsp : sp [.ref a] H (fun v _ => v = .bl true) fun _ _ _ => False) (hok : HOk P w H s1.heap) (hA : ∀ b o, H b = some o → b = a) (hK : ∀ o, H a = some o → K.lookup a = none) :
    codeAny (model P w) callerA (.call (.ref fa) ⟨[.ref a], []⟩) (fun r s' => r = .ok (.ret (.bool true)) ∧ OldK s1.heap s'.heap ∧ s'.os = s1.os ∧ AllBare s'.gens) s1 := by
  -- no dict is tracked
  have free : ∀ {b : Addr} {o : Obj} {es : Array DictEntry} {ep : Nat}, s1.heap.get? b = some o → o.data = .dict es ep → H b = none := by
    intro b o es ep e d
    match q : H b with
    | none => rfl
    | some u =>
      rw [hA b u q, ha] at e
      cases e
      cases d
  have nsB : ∀ {b : Addr} {m : Str → Option Value}, s1.heap.Ns b m → (hidT s1.heap H).Ns b m := by
    intro b m h
    obtain ⟨o, es, ep, e, d, r⟩ := h
    exact ⟨o, es, ep, hidT_get e (free e d), d, r⟩
  have kinB : K.In (hidT s1.heap H) := by
    intro b o e
    refine hidT_get (kin b o e) ?_
    match q : H b with
    | none => rfl
    | some u =>
      have eb := hA b u q
      rw [eb] at e q
      rw [hK u q] at e
      cases e
  have md : Mod K mg (hidT s1.heap H) := by
    obtain ⟨mc, c1, c2⟩ := hlim
    exact ⟨kinB, nsB hns, ⟨mb, nsB hb, hbb⟩, mc, nsB c1, c2⟩
  have env : Env0 P w K mg (hidT s1.heap H) callerA [] s1 H := ⟨rfl, md, fun b o e => of_hidT e, Nat.le_of_eq (hidT_size _ _), trivial, (fun b z => by cases z), hok, .of_eq hg⟩
  refine codeAny_mono ((F _ kinB (nsB hns)).run callerA [] s1 H ⟨[.ref a], []⟩ [.ref a] [.ref a] _ _ rfl hr env (hbind s1 (.ref a)) (.cons rfl .nil) hsp) fun r s' h => ?_
  match r, h with
  | .error _, h => exact (show False from h).elim
  | .ok (.ret u), h =>
    obtain ⟨v, H', os, bare, un, hok', rv, q⟩ := h
    have q' : v = .bl true := q
    rw [q'] at rv
    have eu : u = Value.bool true := rv
    rw [eu]
    refine ⟨rfl, OldK.of_keep fun b o e => ?_, os, bare⟩
    match q : H b with
    | none => exact un.keep b o e q (fun z => by cases z) (fun z => by cases z)
    | some u =>
      rcases hO b with z | ⟨ob, xs, z⟩
      · rw [q] at z
        cases z
      · have b1 := (hok b _ z).1
        have b2 := (hok' b _ (un.frzs b ob _ z)).1
        rw [e] at b1
        cases b1
        exact b2
theorem law_callG (kin : K.In s1.heap) (hns : s1.heap.Ns mainGlobals mg) (hb : s1.heap.Ns builtinsNs mb) (hbb : ∀ x : Str, x ≠ "__name__" → mb x = bootBuiltins x) (hlim : s1.heap.NoLimit) (hg : s1.gens = #[])
    (ha : s1.heap.get? a = some { cls := .type "list", data := .seq vs.toArray }) (hi : IntsAre vs ns) (hl : ns.length ≤ sizeLine) (hr : Room k callerA) (F : ∀ base : Heap, K.In base → base.Ns mainGlobals mg → FnG P w K mg base CX0 k fa fd [x] sp)
    (hbind : ∀ (s : Shared) (u : Value), BindsTo s fd ⟨[u], []⟩ [(x, u)]) (hsp : ∀ H : Hp, Only H → SqL K H a (ns.map V.int) → sp [.ref a] H (fun v _ => v = .bl true) fun _ _ _ => False) :
    codeAny (model P w) callerA (.call (.ref fa) ⟨[.ref a], []⟩) (fun r s' => r = .ok (.ret (.bool true)) ∧ OldK s1.heap s'.heap ∧ s'.os = s1.os ∧ AllBare s'.gens) s1 := by
  have rv := vals_ints hi
  have le : vs.length = ns.length := hi.length
  match hk : K.lookup a with
  | some o =>
    have e := kin a o hk
    rw [ha] at e
    cases e
    refine callG_core kin hns hb hbb hlim hg ha hr F hbind (fun _ => none) (fun _ => .inl rfl) (hsp _ (fun _ => .inl rfl) ?_) (fun b u z => by cases z) (fun b o z => by cases z) (fun o z => by cases z)
    exact .inr ⟨_, vs.toArray, _, hk, rfl, rfl, rfl, by rw [List.size_toArray, le]; exact hl, by rw [List.toList_toArray]; exact rv⟩
  | none =>
    let H : Hp := fun b => if b = a then some (.frz { cls := .type "list", data := .seq vs.toArray } (.lst (ns.map V.int))) else none
    have at_a : H a = some (.frz { cls := .type "list", data := .seq vs.toArray } (.lst (ns.map V.int))) := if_pos rfl
    have off : ∀ b, b ≠ a → H b = none := fun b n => if_neg n
    have only : Only H := fun b => by
      by_cases c : b = a
      · rw [c]; exact .inr ⟨_, _, at_a⟩
      · exact .inl (off b c)
    refine callG_core kin hns hb hbb hlim hg ha hr F hbind H only (hsp H only (.inl (.inr ⟨_, at_a⟩))) (fun b u z => ?_) (fun b o z => ?_) (fun _ _ => hk)
    · by_cases c : b = a
      · rw [c] at z ⊢
        rw [at_a] at z
        cases z
        exact ⟨ha, by rw [List.length_map]; exact hl, vs, _, rv, ha⟩
      · rw [off b c] at z
        cases z
    · by_cases c : b = a
      · exact c
      · rw [off b c] at z
        cases z
end
/-- what the head leaves, from the law's promise -/
theorem walk_ofG {l : PySem.W.OpenLaw} {n k : Nat} {q : Program} {loose : List Str} {XP : (Str → Option Value) → Heap → Prop} {YP : World → Heap → Prop} {d : DefRec} {K : Params → PySem.W.Frag} {sp : World → Sp} {x : Str} (hn : l.most = some n) (hn2 : n ≤ sizeLine) (hdf : d.params.defaults = []) (hr : Room k callerA)
    (hY : ∀ (w : World) (h : Heap), YP w h → (K w.params).In h)
    (F : ∀ (w : World) (mg : Str → Option Value) (fa : Addr) (h : Heap), (K w.params).In h → h.Ns mainGlobals mg → mg d.name = some (.ref fa) → ∃ fd : FuncData, (∀ (s : Shared) (u : Value), BindsTo s fd ⟨[u], []⟩ [(x, u)]) ∧
        ∀ base : Heap, (K w.params).In base → base.Ns mainGlobals mg → FnG l.prog w (K w.params) mg base CX0 k fa fd [x] (sp w))
    (hsp : ∀ (w : World) (H : Hp) (a : Addr) (ns : List Int), ns.length ≤ n → Only H → SqL (K w.params) H a (ns.map V.int) → sp w [.ref a] H (fun v _ => v = .bl true) fun _ _ _ => False) : PySem.W.WalkO q loose XP YP l.row.toRowW d [] (fun f vs => PySem.call f vs) := by
  refine Att.attach_call hn hdf fun w s0 s1 mg mb fa o pm cd doc a vs ns G Y ho hd hcd hmg hobj hints hlen hg => ?_
  obtain ⟨fd, hbd, hF⟩ := F w mg fa _ (hY w _ Y) G.T.g hmg
  exact law_callG (hY w _ Y) G.T.g G.T.b G.T.builtins G.T.nolimit hg hobj hints (Nat.le_trans hlen hn2) hr hF hbd fun H hO hS => hsp w H a ns hlen hO hS
end HSP
namespace HSP
open PySem PySem.Spec PyProof.Rows L2
theorem cut_last (xs : List V) (y : V) : cutV (xs ++ [y]) none (some (-1)) = xs := by
  unfold cutV
  have e : HT.sIx (xs ++ [y]).length (xs ++ [y]).length (some (-1)) = xs.length := by
    show (if (-1 : Int) < 0 then ((-1 : Int) + ((xs ++ [y]).length : Int)).toNat else min (-1 : Int).toNat (xs ++ [y]).length) = xs.length
    rw [if_pos (by decide), List.length_append, List.length_singleton]
    omega
  rw [e, HT.sIx_none, List.drop_zero, Nat.sub_zero, List.take_left]
theorem inV_nat (i : Nat) : ∀ xs : List Nat, inV (natV i) (xs.map natV) = decide (i ∈ xs)
  | [] => rfl
  | x :: r => by
    have ih := inV_nat i r
    have e : inV (natV i) ((x :: r).map natV) = (eqV (natV x) (natV i) || inV (natV i) (r.map natV)) := rfl
    rw [e, ih]
    have e2 : eqV (natV x) (natV i) = decide ((x : Int) = (i : Int)) := rfl
    rw [e2]
    by_cases c : i = x
    · rw [decide_eq_true (show (x : Int) = (i : Int) by omega), Bool.true_or, decide_eq_true (List.mem_cons.mpr (.inl c))]
    · rw [decide_eq_false (show ¬ (x : Int) = (i : Int) by omega), Bool.false_or]
      by_cases d : i ∈ r
      · rw [decide_eq_true d, decide_eq_true (List.mem_cons_of_mem _ d)]
      · rw [decide_eq_false d, decide_eq_false (fun z => (List.mem_cons.mp z).elim c d)]
theorem inV_int (i : Int) : ∀ xs : List Int, inV (.int i) (xs.map V.int) = decide (i ∈ xs)
  | [] => rfl
  | x :: r => by
    have ih := inV_int i r
    have e : inV (.int i) ((x :: r).map V.int) = (eqV (.int x) (.int i) || inV (.int i) (r.map V.int)) := rfl
    rw [e, ih]
    have e2 : eqV (.int x) (.int i) = decide (x = i) := rfl
    rw [e2]
    by_cases c : i = x
    · rw [decide_eq_true c.symm, Bool.true_or, decide_eq_true (List.mem_cons.mpr (.inl c))]
    · rw [decide_eq_false (show ¬ x = i by omega), Bool.false_or]
      by_cases d : i ∈ r
      · rw [decide_eq_true d, decide_eq_true (List.mem_cons_of_mem _ d)]
      · rw [decide_eq_false d, decide_eq_false (fun z => (List.mem_cons.mp z).elim c d)]
theorem flat_nats : ∀ xs : List Nat, (xs.map natV).all flatV = true
  | [] => rfl
  | x :: r => by
    rw [List.map_cons, List.all_cons, flat_nats r]
    rfl
theorem flat_ints : ∀ xs : List Int, (xs.map V.int).all flatV = true
  | [] => rfl
  | x :: r => by
    rw [List.map_cons, List.all_cons, flat_ints r]
    rfl
/-! ### lists of ints as data -/
def intsD (l : List Int) : PyData := .list (l.map PyData.int)
theorem ints_can : ∀ l : List Int, PyData.canLayAll0 (l.map PyData.int) = true
  | [] => by simp [PyData.canLayAll0]
  | z :: r => by
    have ih := ints_can r
    simp only [List.map_cons, PyData.canLayAll0, PyData.canLay0, ih, Bool.and_self]
theorem ints_deep : ∀ l : List Int, PyData.depthAll (l.map PyData.int) ≤ 1
  | [] => by simp [PyData.depthAll]
  | z :: r => by
    have ih := ints_deep r
    simp only [List.map_cons, PyData.depthAll, PyData.depth]
    omega
theorem ints_shaped (l : List Int) : SeqAt.shaped (intsD l) = true := by
  unfold SeqAt.shaped intsD
  have h1 := ints_can l
  have h2 := ints_deep l
  rw [Bool.and_eq_true]
  refine ⟨by simp only [PyData.canLay0]; exact h1, decide_eq_true ?_⟩
  simp only [PyData.depth]
  omega
theorem ints_dpAll {K : PySem.W.Frag} {H : Hp} : ∀ l : List Int, DpAll K H (l.map V.int) (l.map PyData.int)
  | [] => .nil
  | z :: r => .cons (.int z) (ints_dpAll r)
theorem ints_none (l : List Int) : PyData.eqv (intsD l) (intsD []) = decide (l = []) := by
  cases l with
  | nil => rw [decide_eq_true rfl]; exact SeqAt.eqv_refl _ (by unfold intsD; simp only [PyData.canLay0]; exact ints_can [])
  | cons x r =>
    rw [decide_eq_false (List.cons_ne_nil _ _)]
    unfold intsD
    simp [PyData.eqv, PyData.eqvAll]
end HSP
namespace HSP
open PySem PySem.Spec PyProof.Rows L2
/-! ## how data are shown: lengths -/
theorem piled_le (c : Nat) : ∀ ds : List PyData, (∀ d, d ∈ ds → d.shown.length ≤ c) → piled (PyData.shownAll ds) ≤ ds.length * (c + 2)
  | [], _ => by simp [PyData.shownAll, piled_nil]
  | d :: ds, h => by
    have ih := piled_le c ds fun e he => h e (List.mem_cons_of_mem _ he)
    have h1 := h d List.mem_cons_self
    have e : PyData.shownAll (d :: ds) = d.shown :: PyData.shownAll ds := by simp [PyData.shownAll]
    rw [e, piled_cons, List.length_cons, Nat.add_mul]
    omega
theorem listText_le : ∀ ts : List Str, (listText ts).length ≤ piled ts + 2
  | [] => by decide +kernel
  | t :: r => by
    have e : listText (t :: r) = textFrom 1 (("[" : Str) ++ (if 0 > 0 then ", " else "" : String) ++ t) r ++ "]" := rfl
    rw [e, strLen_append, textFrom_length_pos _ _ _ (by decide), strLen_append, strLen_append, piled_cons]
    have e1 : (("[" : String) : Str).length = 1 := rfl
    have e2 : (("]" : String) : Str).length = 1 := rfl
    have e3 : ((if 0 > 0 then ", " else "" : String) : Str).length = 0 := rfl
    omega
theorem tupleText_le (ts : List Str) : (tupleText ts).length ≤ piled ts + 3 := by
  unfold tupleText
  rw [strLen_append, strLen_append]
  have e1 : (("(" : String) : Str).length = 1 := rfl
  have e2 : ((if ts.length == 1 then ",)" else ")" : String) : Str).length ≤ 2 := by
    split <;> decide +kernel
  have e3 : (Str.join ", " ts).length ≤ piled ts := by
    by_cases c : ts = []
    · rw [c]
      decide +kernel
    · have := join_length_add ts c
      omega
  omega
theorem shown_list_le (c : Nat) (ds : List PyData) (h : ∀ d, d ∈ ds → d.shown.length ≤ c) : (PyData.list ds).shown.length ≤ ds.length * (c + 2) + 2 := by
  have e : (PyData.list ds).shown = listText (PyData.shownAll ds) := by simp only [PyData.shown]
  rw [e]
  have h1 := listText_le (PyData.shownAll ds)
  have h2 := piled_le c ds h
  omega
/-! ### trees as data -/
def treeD : Tr → PyData
  | .nil => .none
  | .nod l r => .tuple [treeD l, treeD r]
theorem treeD_len : ∀ t : Tr, (treeD t).shown.length ≤ 11 * t.size + 4
  | .nil => by
    show (PyData.none).shown.length ≤ _
    simp only [PyData.shown]
    decide +kernel
  | .nod l r => by
    have h1 := treeD_len l
    have h2 := treeD_len r
    have e : (treeD (.nod l r)).shown = tupleText [(treeD l).shown, (treeD r).shown] := by
      show (PyData.tuple [treeD l, treeD r]).shown = _
      simp only [PyData.shown, PyData.shownAll]
    have z : (Tr.nod l r).size = l.size + 1 + r.size := rfl
    have h3 := tupleText_le [(treeD l).shown, (treeD r).shown]
    rw [piled_cons, piled_cons, piled_nil] at h3
    rw [e, z]
    omega
theorem treeD_show : ∀ t : Tr, (treeD t).showable = true
  | .nil => by simp only [treeD, PyData.showable]
  | .nod l r => by simp only [treeD, PyData.showable, PyData.showableAll, treeD_show l, treeD_show r, Bool.and_self]
theorem treeD_dict : ∀ t : Tr, (treeD t).hasDict = false
  | .nil => by simp only [treeD, PyData.hasDict]
  | .nod l r => by simp only [treeD, PyData.hasDict, PyData.hasDictAll, treeD_dict l, treeD_dict r, Bool.or_self]
theorem treeD_deep : ∀ t : Tr, (treeD t).depth ≤ t.ht
  | .nil => by simp only [treeD, PyData.depth]; exact Nat.zero_le _
  | .nod l r => by
    have h1 := treeD_deep l
    have h2 := treeD_deep r
    have e : (Tr.nod l r).ht = max l.ht r.ht + 1 := rfl
    simp only [treeD, PyData.depth, PyData.depthAll]
    omega
theorem TrAt.dp {K : PySem.W.Frag} {H : Hp} {v : V} {t : Tr} (h : TrAt H v t) : Dp K H v (treeD t) := by
  induction h with
  | nil => exact .non
  | nod eb _ _ ih1 ih2 => exact .tup (.of eb) (.cons ih1 (.cons ih2 .nil))
/-! ### lists of numbers -/
theorem ints_show : ∀ l : List Int, (∀ v, v ∈ l → v.natAbs.log2 < 1920) → PyData.showableAll (l.map PyData.int) = true
  | [], _ => by simp [PyData.showableAll]
  | z :: r, h => by
    have ih := ints_show r fun v hv => h v (List.mem_cons_of_mem _ hv)
    have h1 := h z List.mem_cons_self
    simp only [List.map_cons, PyData.showableAll, PyData.showable, ih, decide_eq_true h1, Bool.and_self]
theorem ints_dict : ∀ l : List Int, PyData.hasDictAll (l.map PyData.int) = false
  | [] => by simp [PyData.hasDictAll]
  | z :: r => by simp only [List.map_cons, PyData.hasDictAll, PyData.hasDict, ints_dict r, Bool.or_self]
theorem int_len {z : Int} (h : z.natAbs < 10 ^ 30) : (PyData.int z).shown.length ≤ 31 := by
  simp only [PyData.shown]
  rw [show (Str.ofString (toString z)).length = (toString z).length from PySem.ofString_length _]
  exact int_text_length_le10 (k := 30) (by decide) h
theorem int_log {z : Int} (h : z.natAbs < 10 ^ 30) : z.natAbs.log2 < 1920 := by
  by_cases c : z.natAbs = 0
  · rw [c]
    decide
  · exact (Nat.log2_lt c).mpr (Nat.lt_of_lt_of_le h (by decide +kernel))
/-- what repr and == ask of data -/
structure Fine (d : PyData) : Prop where
  show_ : d.showable = true
  dict : d.hasDict = false
  deep : d.depth ≤ 60
  len : d.shown.length ≤ sizeLine
/-- numbers that are not too great -/
def Tame (l : List Int) : Prop := ∀ v, v ∈ l → v.natAbs < 10 ^ 30
theorem intsD_len {l : List Int} (h : Tame l) : (intsD l).shown.length ≤ l.length * 33 + 2 := by
  have := shown_list_le 31 (l.map PyData.int) fun d hd => by
    obtain ⟨v, hv, rfl⟩ := List.mem_map.mp hd
    exact int_len (h v hv)
  rw [List.length_map] at this
  exact this
theorem ints_fine {l : List Int} (h : Tame l) (n : l.length ≤ 1000) : Fine (intsD l) := by
  have h1 := intsD_len h
  have h2 := ints_deep l
  refine ⟨?_, ?_, ?_, ?_⟩
  · unfold intsD
    simp only [PyData.showable]
    exact ints_show l fun v hv => int_log (h v hv)
  · unfold intsD
    simp only [PyData.hasDict]
    exact ints_dict l
  · unfold intsD
    simp only [PyData.depth]
    omega
  · have : sizeLine = 16777216 := rfl
    omega
/-- [d, e] -/
theorem pair_fine {d e : PyData} (hd : Fine d) (he : Fine e) (h1 : d.depth ≤ 59) (h2 : e.depth ≤ 59) (c : Nat) (l1 : d.shown.length ≤ c) (l2 : e.shown.length ≤ c) (hc : c ≤ 100000) : Fine (.list [d, e]) := by
  refine ⟨?_, ?_, ?_, ?_⟩
  · simp only [PyData.showable, PyData.showableAll, hd.show_, he.show_, Bool.and_self]
  · simp only [PyData.hasDict, PyData.hasDictAll, hd.dict, he.dict, Bool.or_self]
  · simp only [PyData.depth, PyData.depthAll]
    omega
  · have := shown_list_le c [d, e] fun x hx => by
      rcases List.mem_cons.mp hx with z | z
      · rw [z]; exact l1
      · rw [List.mem_singleton.mp z]; exact l2
    have e1 : [d, e].length = 2 := rfl
    rw [e1] at this
    have : sizeLine = 16777216 := rfl
    omega
theorem tree_fine {t : Tr} (h : t.size ≤ 100) (d : t.ht ≤ 40) : Fine (treeD t) := by
  have h1 := treeD_len t
  have h2 := treeD_deep t
  have : sizeLine = 16777216 := rfl
  exact ⟨treeD_show t, treeD_dict t, by omega, by omega⟩
/-- [tree, values] -/
def argsD (t : Tr) (ns : List Int) : PyData := .list [treeD t, intsD ns]
theorem args_fine {t : Tr} {ns : List Int} (h : t.size ≤ 20) (n : ns.length ≤ 20) (hn : Tame ns) : Fine (argsD t ns) := by
  have h1 := treeD_len t
  have h2 := treeD_deep t
  have h3 := t.ht_le
  have h4 := intsD_len hn
  have h5 : (intsD ns).depth ≤ 2 := by
    have := ints_deep ns
    unfold intsD
    simp only [PyData.depth]
    omega
  exact pair_fine (tree_fine (by omega) (by omega)) (ints_fine hn (by omega)) (by omega) (by omega) 1000 (by omega) (by omega) (by decide)
/-- numbers that the law may make of those drawn -/
def Mid (ns : List Int) : Prop := ∀ v, v ∈ ns → -10000000000000000000000 < v ∧ v < 10000000000000000000000
theorem Mid.tame {ns : List Int} (h : Mid ns) : Tame ns := fun v hv => by
  have := h v hv
  have e : (10 : Nat) ^ 30 = 1000000000000000000000000000000 := by decide +kernel
  rw [e]
  omega
theorem Mid.nil : Mid [] := fun _ h => by cases h
theorem Mid.snoc {ns : List Int} {v : Int} (h : Mid ns) (h1 : -10000000000000000000000 < v ∧ v < 10000000000000000000000) : Mid (ns ++ [v]) := fun x hx => by
  rcases List.mem_append.mp hx with z | z
  · exact h x z
  · rw [List.mem_singleton.mp z]
    exact h1
theorem Mid.set {ns : List Int} {v : Int} {i : Nat} (h : Mid ns) (h1 : -10000000000000000000000 < v ∧ v < 10000000000000000000000) : Mid (ns.set i v) := fun x hx => by
  rcases List.mem_or_eq_of_mem_set hx with z | z
  · exact h x z
  · rw [z]
    exact h1
theorem ints_can0 (l : List Int) : PyData.canLay0 (intsD l) = true := by
  unfold intsD
  simp only [PyData.canLay0]
  exact ints_can l
theorem args_dp {K : PySem.W.Frag} {H : Hp} {a b : Addr} {v : V} {t : Tr} {ns : List Int} (ha : H a = some (.lst [v, .ref b])) (hv : TrAt H v t) (hb : H b = some (.lst (ns.map V.int))) : Dp K H (.ref a) (argsD t ns) :=
  .lst (.of ha) (.cons hv.dp (.cons (.lst (.of hb) (ints_dpAll ns)) .nil))
end HSP
namespace HSP
open PySem PySem.Spec PyProof.Rows L2
/-! ### tuples of None, numbers and short texts as data -/
def vD : V → PyData
  | .bl b => .bool b
  | .int i => .int i
  | .str x => .str x
  | _ => .none
/-- what may stand in such a tuple -/
def Plain : V → Prop
  | .non => True
  | .int i => i.natAbs < 10 ^ 30
  | .str x => PyData.strOk x = true ∧ (reprText x).length ≤ 31
  | _ => False
theorem Plain.dp {K : PySem.W.Frag} {H : Hp} {v : V} (h : Plain v) : Dp K H v (vD v) := by
  cases v with
  | non => exact .non
  | int i => exact .int i
  | str x => exact .str x
  | _ => exact h.elim
theorem Plain.len {v : V} (h : Plain v) : (vD v).shown.length ≤ 31 := by
  cases v with
  | non => simp only [vD, PyData.shown]; decide +kernel
  | int i => exact int_len h
  | str x => simp only [vD, PyData.shown]; exact h.2
  | _ => exact h.elim
theorem Plain.can {v : V} (h : Plain v) : PyData.canLay0 (vD v) = true := by
  cases v with
  | non => simp only [vD, PyData.canLay0]
  | int i => simp only [vD, PyData.canLay0]
  | str x => simp only [vD, PyData.canLay0]; exact h.1
  | _ => exact h.elim
theorem Plain.show_ {v : V} (h : Plain v) : (vD v).showable = true := by
  cases v with
  | non => simp only [vD, PyData.showable]
  | int i => simp only [vD, PyData.showable]; exact decide_eq_true (int_log h)
  | str x => simp only [vD, PyData.showable]
  | _ => exact h.elim
theorem vD_dict (v : V) : (vD v).hasDict = false := by
  cases v <;> simp only [vD, PyData.hasDict]
theorem vD_deep (v : V) : (vD v).depth = 0 := by
  cases v <;> simp only [vD, PyData.depth]
def Plains (xs : List V) : Prop := ∀ v, v ∈ xs → Plain v
theorem plains_dp {K : PySem.W.Frag} {H : Hp} : ∀ xs : List V, Plains xs → DpAll K H xs (xs.map vD)
  | [], _ => .nil
  | x :: r, h => .cons (h x List.mem_cons_self).dp (plains_dp r fun v hv => h v (List.mem_cons_of_mem _ hv))
theorem plains_can : ∀ xs : List V, Plains xs → PyData.canLayAll0 (xs.map vD) = true
  | [], _ => by simp [PyData.canLayAll0]
  | x :: r, h => by
    have ih := plains_can r fun v hv => h v (List.mem_cons_of_mem _ hv)
    have h1 := (h x List.mem_cons_self).can
    simp only [List.map_cons, PyData.canLayAll0, h1, ih, Bool.and_self]
theorem plains_show : ∀ xs : List V, Plains xs → PyData.showableAll (xs.map vD) = true
  | [], _ => by simp [PyData.showableAll]
  | x :: r, h => by
    have ih := plains_show r fun v hv => h v (List.mem_cons_of_mem _ hv)
    have h1 := (h x List.mem_cons_self).show_
    simp only [List.map_cons, PyData.showableAll, h1, ih, Bool.and_self]
theorem plains_dict : ∀ xs : List V, PyData.hasDictAll (xs.map vD) = false
  | [] => by simp [PyData.hasDictAll]
  | x :: r => by simp only [List.map_cons, PyData.hasDictAll, vD_dict, plains_dict r, Bool.or_self]
theorem plains_deep : ∀ xs : List V, PyData.depthAll (xs.map vD) ≤ 1
  | [] => by simp [PyData.depthAll]
  | x :: r => by
    have ih := plains_deep r
    have h1 := vD_deep x
    simp only [List.map_cons, PyData.depthAll]
    omega
/-- a tuple of such -/
def rowD (xs : List V) : PyData := .tuple (xs.map vD)
theorem shown_tuple_le (c : Nat) (ds : List PyData) (h : ∀ d, d ∈ ds → d.shown.length ≤ c) : (PyData.tuple ds).shown.length ≤ ds.length * (c + 2) + 3 := by
  have e : (PyData.tuple ds).shown = tupleText (PyData.shownAll ds) := by simp only [PyData.shown]
  rw [e]
  have h1 := tupleText_le (PyData.shownAll ds)
  have h2 := piled_le c ds h
  omega
theorem row_len {xs : List V} (h : Plains xs) (n : xs.length ≤ 5) : (rowD xs).shown.length ≤ 168 := by
  have := shown_tuple_le 31 (xs.map vD) fun d hd => by
    obtain ⟨v, hv, rfl⟩ := List.mem_map.mp hd
    exact (h v hv).len
  rw [List.length_map] at this
  show (PyData.tuple (xs.map vD)).shown.length ≤ 168
  omega
theorem row_can {xs : List V} (h : Plains xs) : PyData.canLay0 (rowD xs) = true := by
  unfold rowD
  simp only [PyData.canLay0]
  exact plains_can xs h
theorem row_show {xs : List V} (h : Plains xs) : (rowD xs).showable = true := by
  unfold rowD
  simp only [PyData.showable]
  exact plains_show xs h
theorem row_dict (xs : List V) : (rowD xs).hasDict = false := by
  unfold rowD
  simp only [PyData.hasDict]
  exact plains_dict xs
theorem row_deep (xs : List V) : (rowD xs).depth ≤ 2 := by
  have := plains_deep xs
  unfold rowD
  simp only [PyData.depth]
  omega
theorem row_dp {K : PySem.W.Frag} {H : Hp} {a : Addr} {xs : List V} (e : H a = some (.tup xs)) (h : Plains xs) : Dp K H (.ref a) (rowD xs) := .tup (.of e) (plains_dp xs h)
theorem row_fine {xs : List V} (h : Plains xs) (n : xs.length ≤ 5) : Fine (rowD xs) := by
  have h1 := row_len h n
  have h2 := row_deep xs
  have : sizeLine = 16777216 := rfl
  exact ⟨row_show h, row_dict xs, by omega, by omega⟩
theorem row_shaped {xs : List V} (h : Plains xs) : SeqAt.shaped (rowD xs) = true := by
  unfold SeqAt.shaped
  rw [Bool.and_eq_true]
  have := row_deep xs
  exact ⟨row_can h, decide_eq_true (by omega)⟩
theorem row_same {xs : List V} (h : Plains xs) : PyData.eqv (rowD xs) (rowD xs) = true := SeqAt.eqv_refl _ (row_can h)
/-- a list of such tuples -/
def rowsD (l : List (List V)) : PyData := .list (l.map rowD)
theorem rows_can : ∀ l : List (List V), (∀ xs, xs ∈ l → Plains xs) → PyData.canLayAll0 (l.map rowD) = true
  | [], _ => by simp [PyData.canLayAll0]
  | x :: r, h => by
    have ih := rows_can r fun v hv => h v (List.mem_cons_of_mem _ hv)
    have h1 := row_can (h x List.mem_cons_self)
    simp only [List.map_cons, PyData.canLayAll0, h1, ih, Bool.and_self]
theorem rows_show : ∀ l : List (List V), (∀ xs, xs ∈ l → Plains xs) → PyData.showableAll (l.map rowD) = true
  | [], _ => by simp [PyData.showableAll]
  | x :: r, h => by
    have ih := rows_show r fun v hv => h v (List.mem_cons_of_mem _ hv)
    have h1 := row_show (h x List.mem_cons_self)
    simp only [List.map_cons, PyData.showableAll, h1, ih, Bool.and_self]
theorem rows_dict : ∀ l : List (List V), PyData.hasDictAll (l.map rowD) = false
  | [] => by simp [PyData.hasDictAll]
  | x :: r => by simp only [List.map_cons, PyData.hasDictAll, row_dict, rows_dict r, Bool.or_self]
theorem rows_deep : ∀ l : List (List V), PyData.depthAll (l.map rowD) ≤ 3
  | [] => by simp [PyData.depthAll]
  | x :: r => by
    have ih := rows_deep r
    have h1 := row_deep x
    simp only [List.map_cons, PyData.depthAll]
    omega
theorem rows_dp {K : PySem.W.Frag} {H : Hp} {rs : List Addr} {l : List (List V)} (p : Paired (fun r xs => H r = some (.tup xs)) rs l) (h : ∀ xs, xs ∈ l → Plains xs) : DpAll K H (rs.map V.ref) (l.map rowD) := by
  induction p with
  | nil => exact .nil
  | cons e _ ih => exact .cons (row_dp e (h _ List.mem_cons_self)) (ih fun v hv => h v (List.mem_cons_of_mem _ hv))
theorem rowsD_dp {K : PySem.W.Frag} {H : Hp} {a : Addr} {rs : List Addr} {l : List (List V)} (e : H a = some (.lst (rs.map V.ref))) (p : Paired (fun r xs => H r = some (.tup xs)) rs l) (h : ∀ xs, xs ∈ l → Plains xs) : Dp K H (.ref a) (rowsD l) := .lst (.of e) (rows_dp p h)
theorem rows_fine {l : List (List V)} (h : ∀ xs, xs ∈ l → Plains xs) (n : ∀ xs, xs ∈ l → xs.length ≤ 5) (m : l.length ≤ 1000) : Fine (rowsD l) := by
  have h1 := shown_list_le 168 (l.map rowD) fun d hd => by
    obtain ⟨x, hx, rfl⟩ := List.mem_map.mp hd
    exact row_len (h x hx) (n x hx)
  rw [List.length_map] at h1
  have h2 := rows_deep l
  have : sizeLine = 16777216 := rfl
  refine ⟨?_, ?_, ?_, ?_⟩
  · unfold rowsD
    simp only [PyData.showable]
    exact rows_show l h
  · unfold rowsD
    simp only [PyData.hasDict]
    exact rows_dict l
  · unfold rowsD
    simp only [PyData.depth]
    omega
  · show (PyData.list (l.map rowD)).shown.length ≤ sizeLine
    omega
theorem rowsD_can {l : List (List V)} (h : ∀ xs, xs ∈ l → Plains xs) : PyData.canLay0 (rowsD l) = true := by
  unfold rowsD
  simp only [PyData.canLay0]
  exact rows_can l h
theorem rowsD_shaped {l : List (List V)} (h : ∀ xs, xs ∈ l → Plains xs) : SeqAt.shaped (rowsD l) = true := by
  unfold SeqAt.shaped
  rw [Bool.and_eq_true]
  refine ⟨rowsD_can h, decide_eq_true ?_⟩
  have := rows_deep l
  unfold rowsD
  simp only [PyData.depth]
  omega
theorem rowsD_same {l : List (List V)} (h : ∀ xs, xs ∈ l → Plains xs) : PyData.eqv (rowsD l) (rowsD l) = true := SeqAt.eqv_refl _ (rowsD_can h)
theorem plain_nat {i : Nat} (h : i < 1000000) : Plain (natV i) := by
  show ((i : Int)).natAbs < 10 ^ 30
  have e : (10 : Nat) ^ 30 = 1000000000000000000000000000000 := by decide +kernel
  rw [e]
  omega
theorem nats_ints (l : List Nat) : l.map natV = (l.map Int.ofNat).map V.int := by
  rw [List.map_map]
  rfl
theorem nats_tame {l : List Nat} (h : ∀ i, i ∈ l → i < 1000000) : Tame (l.map Int.ofNat) := fun z hz => by
  obtain ⟨i, hi, rfl⟩ := List.mem_map.mp hz
  have := h i hi
  have e : (10 : Nat) ^ 30 = 1000000000000000000000000000000 := by decide +kernel
  rw [e]
  show i < _
  omega
end HSP
namespace HSP
open PySem PySem.Spec PyProof.Rows L2
/-! ## how a search ended, as data -/
def endRow (r : Bool × Nat) : List V := [kindV r.1, natV r.2]
theorem endRow_plain {r : Bool × Nat} (h : r.2 < 1000000) : Plains (endRow r) := fun v hv => by
  have hv : v ∈ [kindV r.1, natV r.2] := hv
  simp only [List.mem_cons, List.not_mem_nil, or_false] at hv
  rcases hv with rfl | rfl
  · cases r.1
    · exact ⟨by decide +kernel, by decide +kernel⟩
    · exact ⟨by decide +kernel, by decide +kernel⟩
  · exact plain_nat h
theorem sEnd_le (g : Nat → Int) (tw : Int) (m : Md) : ∀ (t : Tr) (f : Nat), (sEnd g tw m t f).2 ≤ f + t.size
  | .nil, f => Nat.le_refl _
  | .nod l r, f => by
    have e : sEnd g tw m (.nod l r) f = match wayOf tw (g (f + l.size)) m with | .fin => (true, f + l.size) | .lft => sEnd g tw m l f | .rgt => sEnd g tw m r (f + l.size + 1) := rfl
    have z : (Tr.nod l r).size = l.size + 1 + r.size := rfl
    rw [e, z]
    cases wayOf tw (g (f + l.size)) m with
    | fin => show f + l.size ≤ _; omega
    | lft => have := sEnd_le g tw m l f; show (sEnd g tw m l f).2 ≤ _; omega
    | rgt => have := sEnd_le g tw m r (f + l.size + 1); show (sEnd g tw m r (f + l.size + 1)).2 ≤ _; omega
theorem end_eqv (r : Bool × Nat) (i : Nat) : PyData.eqv (rowD (endRow r)) (rowD [.str "found", natV i]) = decide (r = (true, i)) := by
  obtain ⟨b, n⟩ := r
  unfold rowD endRow
  simp only [List.map_cons, List.map_nil, PyData.eqv, PyData.eqvAll, Bool.and_true]
  cases b
  · have e1 : vD (kindV false) = .str "gap" := rfl
    have e2 : vD (V.str "found") = .str "found" := rfl
    rw [e1, e2, decide_eq_false (fun z => by cases z)]
    simp only [PyData.eqv]
    have e3 : (("gap" : Str) == ("found" : Str)) = false := by decide +kernel
    rw [e3, Bool.false_and]
  · have e1 : vD (kindV true) = .str "found" := rfl
    have e2 : vD (V.str "found") = .str "found" := rfl
    have e4 : vD (natV n) = .int (n : Int) := rfl
    have e5 : vD (natV i) = .int (i : Int) := rfl
    rw [e1, e2, e4, e5]
    simp only [PyData.eqv]
    have e3 : (("found" : Str) == ("found" : Str)) = true := by decide +kernel
    rw [e3, Bool.true_and]
    by_cases c : n = i
    · rw [c, decide_eq_true rfl]
      exact beq_self_eq_true _
    · rw [decide_eq_false (fun z => c (Prod.mk.inj z).2)]
      exact beq_eq_false_iff_ne.mpr (fun z => c (by omega))
end HSP
namespace HSP
open PySem PySem.Spec PyProof.Rows L2
/-! ## what hides an element, by the roots of all trees -/
def hides (g : Nat → Int) (i j : Nat) : Bool := (decide (j < i) && decide (g i ≤ g j)) || (decide (i < j) && decide (g j ≤ g i))
def hid (g : Nat → Int) (n i : Nat) : Option Nat := (List.range n).find? (hides g i)
theorem hid_some {g : Nat → Int} {n i j : Nat} (hj : j < n) (h : hides g i j = true) (no : ∀ k, k < j → hides g i k = false) : hid g n i = some j :=
  List.find?_range_eq_some.mpr ⟨h, List.mem_range.mpr hj, fun k hk => by rw [no k hk]; rfl⟩
theorem hid_none {g : Nat → Int} {n i : Nat} (no : ∀ k, k < n → hides g i k = false) : hid g n i = none :=
  List.find?_range_eq_none.mpr fun k hk => by rw [no k hk]; rfl
theorem sEnd_nod (g : Nat → Int) (tw : Int) (m : Md) (l r : Tr) (f : Nat) : sEnd g tw m (.nod l r) f = match wayOf tw (g (f + l.size)) m with | .fin => (true, f + l.size) | .lft => sEnd g tw m l f | .rgt => sEnd g tw m r (f + l.size + 1) := rfl
theorem size_nod' (l r : Tr) : (Tr.nod l r).size = l.size + 1 + r.size := rfl
theorem sEnd_at (g : Nat → Int) (tw : Int) : ∀ (t : Tr) (f j : Nat), sEnd g tw .fin t f = (true, j) → f ≤ j ∧ j < f + t.size
  | .nil, f, j, h => by cases h
  | .nod l r, f, j, h => by
    rw [sEnd_nod] at h
    rw [size_nod']
    cases w : wayOf tw (g (f + l.size)) .fin with
    | fin =>
      rw [w] at h
      have := (Prod.mk.inj h).2
      omega
    | lft =>
      rw [w] at h
      have := sEnd_at g tw l f j h
      omega
    | rgt =>
      rw [w] at h
      have := sEnd_at g tw r (f + l.size + 1) j h
      omega
theorem way_cases (tw v : Int) : (wayOf tw v .fin = .fin ∧ tw = 2 * v) ∨ (wayOf tw v .fin = .lft ∧ tw < 2 * v) ∨ (wayOf tw v .fin = .rgt ∧ 2 * v < tw) := by
  unfold wayOf
  by_cases c : tw = 2 * v
  · exact .inl ⟨by rw [if_pos c], c⟩
  · by_cases d : tw < 2 * v
    · exact .inr (.inl ⟨by rw [if_neg c, if_pos d], d⟩)
    · exact .inr (.inr ⟨by rw [if_neg c, if_neg d], by omega⟩)
/-- a tree of so many nodes -/
def comb : Nat → Tr
  | 0 => .nil
  | n + 1 => .nod .nil (comb n)
theorem comb_size : ∀ n, (comb n).size = n
  | 0 => rfl
  | n + 1 => by
    rw [comb, size_nod', comb_size n]
    show 0 + 1 + n = n + 1
    omega
def lsz : Tr → Nat
  | .nil => 0
  | .nod l _ => l.size
/-- the element is found under a tree -/
def hits (g : Nat → Int) (i : Nat) (t : Tr) : Bool := decide (sEnd g (2 * g i) .fin t 0 = (true, i))
theorem no_hit {g : Nat → Int} {i : Nat} {l r : Tr} (h : hides g i l.size = true) : hits g i (.nod l r) = false := by
  refine decide_eq_false fun e => ?_
  rw [sEnd_nod, Nat.zero_add] at e
  unfold hides at h
  rcases way_cases (2 * g i) (g l.size) with ⟨w, c⟩ | ⟨w, c⟩ | ⟨w, c⟩
  · rw [w] at e
    have e2 : l.size = i := (Prod.mk.inj e).2
    rw [e2] at h
    rw [decide_eq_false (show ¬ i < i by omega)] at h
    cases h
  · rw [w] at e
    have := sEnd_at _ _ _ _ _ e
    rw [decide_eq_false (show ¬ l.size < i by omega), decide_eq_false (show ¬ g l.size ≤ g i by omega), Bool.and_false] at h
    cases h
  · rw [w] at e
    have := sEnd_at _ _ _ _ _ e
    rw [decide_eq_false (show ¬ i < l.size by omega), decide_eq_false (show ¬ g i ≤ g l.size by omega), Bool.and_false] at h
    cases h
theorem way_fin (g : Int) : wayOf (2 * g) g .fin = .fin := by
  unfold wayOf
  rw [if_pos rfl]
theorem hit_any {g : Nat → Int} {i r n : Nat} (hi : i < n) (hr : r < n) (h : hides g i r = false) : ∃ t, t.size = n ∧ t ≠ .nil ∧ lsz t = r ∧ hits g i t = true := by
  unfold hides at h
  by_cases c : i = r
  · refine ⟨.nod (comb r) (comb (n - 1 - r)), by rw [size_nod', comb_size, comb_size]; omega, fun z => (by cases z), comb_size r, decide_eq_true ?_⟩
    rw [sEnd_nod, comb_size, Nat.zero_add, ← c, way_fin]
  by_cases d : i < r
  · rw [decide_eq_false (show ¬ r < i by omega), decide_eq_true d] at h
    have e : ¬ g r ≤ g i := of_decide_eq_false (by simpa using h)
    have s : (Tr.nod (comb i) (comb (r - 1 - i))).size = r := by rw [size_nod', comb_size, comb_size]; omega
    refine ⟨.nod (.nod (comb i) (comb (r - 1 - i))) (comb (n - 1 - r)), by rw [size_nod', s, comb_size]; omega, fun z => (by cases z), s, decide_eq_true ?_⟩
    have w : wayOf (2 * g i) (g r) .fin = .lft := by
      unfold wayOf
      rw [if_neg (by omega), if_pos (by omega)]
    rw [sEnd_nod, s, Nat.zero_add, w]
    show sEnd g (2 * g i) .fin (.nod (comb i) (comb (r - 1 - i))) 0 = _
    rw [sEnd_nod, comb_size, Nat.zero_add, way_fin]
  · rw [decide_eq_true (show r < i by omega), decide_eq_false (show ¬ i < r by omega)] at h
    have e : ¬ g i ≤ g r := of_decide_eq_false (by simpa using h)
    have s : (Tr.nod (comb (i - r - 1)) (comb (n - 1 - i))).size = n - 1 - r := by rw [size_nod', comb_size, comb_size]; omega
    refine ⟨.nod (comb r) (.nod (comb (i - r - 1)) (comb (n - 1 - i))), by rw [size_nod', s, comb_size]; omega, fun z => (by cases z), comb_size r, decide_eq_true ?_⟩
    have w : wayOf (2 * g i) (g r) .fin = .rgt := by
      unfold wayOf
      rw [if_neg (by omega), if_neg (by omega)]
    rw [sEnd_nod, comb_size, Nat.zero_add, w]
    show sEnd g (2 * g i) .fin (.nod (comb (i - r - 1)) (comb (n - 1 - i))) (r + 1) = _
    rw [sEnd_nod, comb_size, show r + 1 + (i - r - 1) = i by omega, way_fin]
def byRoots (g : Nat → Int) (ts : List Tr) (n i : Nat) : Option Nat := (List.range n).find? fun r => !((ts.filter fun t => lsz t == r).any (hits g i))
theorem find_same {α : Type} {p q : α → Bool} : ∀ {l : List α}, (∀ x, x ∈ l → p x = q x) → l.find? p = l.find? q
  | [], _ => rfl
  | x :: r, h => by
    rw [List.find?_cons, List.find?_cons, h x List.mem_cons_self, find_same fun y hy => h y (List.mem_cons_of_mem _ hy)]
theorem roots_hid {g : Nat → Int} {n i : Nat} (hi : i < n) : byRoots g (shapesOf n) n i = hid g n i := by
  refine find_same fun r hr => ?_
  have hr' := List.mem_range.mp hr
  cases h : hides g i r with
  | true =>
    rw [Bool.not_eq_true']
    refine List.any_eq_false.mpr fun t ht => ?_
    obtain ⟨h1, h2⟩ := List.mem_filter.mp ht
    have h3 : lsz t = r := eq_of_beq h2
    cases t with
    | nil =>
      have := shapes_size h1
      have e : Tr.nil.size = 0 := rfl
      omega
    | nod l r' =>
      have h4 : l.size = r := h3
      rw [no_hit (by rw [h4]; exact h)]
      exact Bool.false_ne_true
  | false =>
    rw [Bool.not_eq_false']
    obtain ⟨t, h1, h2, h3, h4⟩ := hit_any hi hr' h
    refine List.any_eq_true.mpr ⟨t, List.mem_filter.mpr ⟨?_, by rw [h3]; exact beq_self_eq_true _⟩, h4⟩
    rw [← h1]
    exact shapes_in t
theorem hit_all {g : Nat → Int} {i : Nat} : ∀ (t : Tr) (f : Nat), f ≤ i → i < f + t.size → (∀ j, f ≤ j → j < f + t.size → hides g i j = false) → sEnd g (2 * g i) .fin t f = (true, i)
  | .nil, f, h1, h2, _ => by
    have e : Tr.nil.size = 0 := rfl
    omega
  | .nod l r, f, h1, h2, h => by
    rw [size_nod'] at h2 h
    rw [sEnd_nod]
    have hk := h (f + l.size) (by omega) (by omega)
    unfold hides at hk
    rcases Nat.lt_trichotomy i (f + l.size) with c | c | c
    · rw [decide_eq_false (show ¬ f + l.size < i by omega), decide_eq_true c] at hk
      have e : ¬ g (f + l.size) ≤ g i := of_decide_eq_false (by simpa using hk)
      have w : wayOf (2 * g i) (g (f + l.size)) .fin = .lft := by
        unfold wayOf
        rw [if_neg (by omega), if_pos (by omega)]
      rw [w]
      exact hit_all l f h1 c fun j a b => h j a (by omega)
    · rw [← c, way_fin]
    · rw [decide_eq_true c, decide_eq_false (show ¬ i < f + l.size by omega)] at hk
      have e : ¬ g i ≤ g (f + l.size) := of_decide_eq_false (by simpa using hk)
      have w : wayOf (2 * g i) (g (f + l.size)) .fin = .rgt := by
        unfold wayOf
        rw [if_neg (by omega), if_neg (by omega)]
      rw [w]
      exact hit_all r (f + l.size + 1) (by omega) (by omega) fun j a b => h j (by omega) (by omega)
theorem every_hid {g : Nat → Int} {n i : Nat} (hi : i < n) : ((shapesOf n).filter fun t => !hits g i t).isEmpty = (hid g n i).isNone := by
  cases e : hid g n i with
  | none =>
    show _ = true
    rw [List.isEmpty_iff, List.filter_eq_nil_iff]
    intro t ht
    have no := List.find?_range_eq_none.mp e
    have sz := shapes_size ht
    have h : hits g i t = true := decide_eq_true (hit_all t 0 (Nat.zero_le _) (by omega) fun j _ hj => by simpa using no j (by omega))
    rw [h]
    exact Bool.false_ne_true
  | some r =>
    show _ = false
    obtain ⟨h1, h2, _⟩ := List.find?_range_eq_some.mp e
    have hr := List.mem_range.mp h2
    refine Bool.eq_false_iff.mpr fun z => ?_
    rw [List.isEmpty_iff, List.filter_eq_nil_iff] at z
    have s : (Tr.nod (comb r) (comb (n - 1 - r))).size = n := by rw [size_nod', comb_size, comb_size]; omega
    have mem := shapes_in (Tr.nod (comb r) (comb (n - 1 - r)))
    rw [s] at mem
    refine z _ mem ?_
    rw [no_hit (by rw [comb_size]; exact h1)]
    rfl
/-- by the values themselves -/
theorem head_hid {g : Nat → Int} {n i : Nat} (hi : i < n) :
    ((((List.range i).filter fun j => decide (g j ≥ g i)).map natV ++ ((List.range (n - (i + 1))).filter fun j => decide (g (i + 1 + j) ≤ g i)).map fun j => natV (i + 1 + j)) ++ [V.non])[0]? = some (optNV (hid g n i)) := by
  rw [← List.head?_eq_getElem?]
  cases e1 : (List.range i).find? (fun j => decide (g j ≥ g i)) with
  | some x =>
    have e1' := e1
    rw [← List.head?_filter] at e1'
    obtain ⟨h1, h2, h3⟩ := List.find?_range_eq_some.mp e1
    have hx := List.mem_range.mp h2
    rw [hid_some (j := x) (by omega) (by unfold hides; rw [decide_eq_true hx, h1]; rfl) (fun k hk => by
      have q := h3 k hk
      have q2 : decide (g k ≥ g i) = false := by simpa using q
      unfold hides
      rw [show decide (g i ≤ g k) = false from q2, decide_eq_false (show ¬ i < k by omega), Bool.and_false]
      rfl)]
    cases e2 : (List.range i).filter fun j => decide (g j ≥ g i) with
    | nil => rw [e2] at e1'; cases e1'
    | cons y r =>
      rw [e2] at e1'
      cases (show some y = some x from e1')
      rfl
  | none =>
    have no1 := List.find?_range_eq_none.mp e1
    have e2 : (List.range i).filter (fun j => decide (g j ≥ g i)) = [] := List.filter_eq_nil_iff.mpr fun k hk => by simpa using no1 k (List.mem_range.mp hk)
    rw [e2, List.map_nil, List.nil_append]
    have low : ∀ k, k ≤ i → hides g i k = false := fun k hk => by
      unfold hides
      rw [decide_eq_false (show ¬ i < k by omega)]
      by_cases c : k < i
      · have q : decide (g k ≥ g i) = false := by simpa using no1 k c
        rw [show decide (g i ≤ g k) = false from q, Bool.and_false]
        rfl
      · rw [decide_eq_false c]
        rfl
    cases e3 : (List.range (n - (i + 1))).find? (fun j => decide (g (i + 1 + j) ≤ g i)) with
    | some x =>
      have e3' := e3
      rw [← List.head?_filter] at e3'
      obtain ⟨h1, h2, h3⟩ := List.find?_range_eq_some.mp e3
      have hx := List.mem_range.mp h2
      rw [hid_some (j := i + 1 + x) (by omega) (by unfold hides; rw [h1, decide_eq_true (show i < i + 1 + x by omega), Bool.and_true, Bool.or_true]) (fun k hk => by
        by_cases c : k ≤ i
        · exact low k c
        · have q : decide (g (i + 1 + (k - (i + 1))) ≤ g i) = false := by simpa using h3 (k - (i + 1)) (by omega)
          rw [show i + 1 + (k - (i + 1)) = k by omega] at q
          unfold hides
          rw [q, decide_eq_false (show ¬ k < i by omega), Bool.and_false]
          rfl)]
      cases e4 : (List.range (n - (i + 1))).filter fun j => decide (g (i + 1 + j) ≤ g i) with
      | nil => rw [e4] at e3'; cases e3'
      | cons y r =>
        rw [e4] at e3'
        cases (show some y = some x from e3')
        rfl
    | none =>
      have no3 := List.find?_range_eq_none.mp e3
      have e4 : (List.range (n - (i + 1))).filter (fun j => decide (g (i + 1 + j) ≤ g i)) = [] := List.filter_eq_nil_iff.mpr fun k hk => by simpa using no3 k (List.mem_range.mp hk)
      rw [e4, hid_none (fun k hk => by
        by_cases c : k ≤ i
        · exact low k c
        · have q : decide (g (i + 1 + (k - (i + 1))) ≤ g i) = false := by simpa using no3 (k - (i + 1)) (by omega)
          rw [show i + 1 + (k - (i + 1)) = k by omega] at q
          unfold hides
          rw [q, decide_eq_false (show ¬ k < i by omega), Bool.and_false]
          rfl)]
      rfl
/-! ### lists of trees as data -/
theorem treeD_can : ∀ t : Tr, PyData.canLay0 (treeD t) = true
  | .nil => by simp only [treeD, PyData.canLay0]
  | .nod l r => by simp only [treeD, PyData.canLay0, PyData.canLayAll0, treeD_can l, treeD_can r, Bool.and_self]
def treesD (ts : List Tr) : PyData := .list (ts.map treeD)
theorem trees_can : ∀ l : List Tr, PyData.canLayAll0 (l.map treeD) = true
  | [] => by simp [PyData.canLayAll0]
  | x :: r => by
    have ih := trees_can r
    have h1 := treeD_can x
    simp only [List.map_cons, PyData.canLayAll0, h1, ih, Bool.and_self]
theorem trees_deep (c : Nat) : ∀ l : List Tr, (∀ t, t ∈ l → t.ht ≤ c) → PyData.depthAll (l.map treeD) ≤ c + 1
  | [], _ => by simp [PyData.depthAll]
  | x :: r, h => by
    have ih := trees_deep c r fun t ht => h t (List.mem_cons_of_mem _ ht)
    have h1 := treeD_deep x
    have h2 := h x List.mem_cons_self
    simp only [List.map_cons, PyData.depthAll]
    omega
theorem treesD_shaped {l : List Tr} (h : ∀ t, t ∈ l → t.ht ≤ 20) : SeqAt.shaped (treesD l) = true := by
  unfold SeqAt.shaped
  rw [Bool.and_eq_true]
  have h1 := trees_deep 20 l h
  refine ⟨?_, decide_eq_true ?_⟩
  · unfold treesD
    simp only [PyData.canLay0]
    exact trees_can l
  · unfold treesD
    simp only [PyData.depth]
    omega
theorem trees_dp {K : PySem.W.Frag} {H : Hp} {xs : List V} {ts : List Tr} (p : Paired (fun v t => TrAt H v t) xs ts) : DpAll K H xs (ts.map treeD) := by
  induction p with
  | nil => exact .nil
  | cons h _ ih => exact .cons h.dp ih
theorem trees_nil (ts : List Tr) : PyData.eqv (treesD ts) (treesD []) = ts.isEmpty := by
  cases ts with
  | nil => simp [treesD, PyData.eqv, PyData.eqvAll]
  | cons t r => simp [treesD, PyData.eqv, PyData.eqvAll]
/-- among how some searches ended -/
theorem ends_any (i : Nat) : ∀ rs : List (Bool × Nat), ((rs.map fun r => rowD (endRow r)).any fun z => PyData.eqv z (rowD [.str "found", natV i])) = rs.any fun r => decide (r = (true, i))
  | [] => rfl
  | r :: rs => by rw [List.map_cons, List.any_cons, List.any_cons, end_eqv, ends_any i rs]
end HSP
namespace HSP
open PySem PySem.Spec PyProof.Rows L2
/-! ## heaps: all but some places stay -/
def Stay (X : List Addr) (H H' : Hp) : Prop := ∀ b o, b ∉ X → H b = some o → H' b = some o
theorem Stay.refl (X : List Addr) (H : Hp) : Stay X H H := fun _ _ _ e => e
theorem Stay.trans {X : List Addr} {H H1 H2 : Hp} (a : Stay X H H1) (b : Stay X H1 H2) : Stay X H H2 := fun c o n e => b c o n (a c o n e)
theorem Stay.of {X : List Addr} {H H' : Hp} (s : Same H H') : Stay X H H' := fun b o _ e => s b o e
theorem Stay.new {X : List Addr} {H : Hp} {p : Addr} {o : HO} (h : H p = none) : Stay X H (upd H p o) := fun b u _ e => by
  rw [upd_ne (ne_of_none e h)]; exact e
theorem Stay.at {X : List Addr} {H : Hp} {p : Addr} {o : HO} (h : p ∈ X) : Stay X H (upd H p o) := fun b u n e => by
  rw [upd_ne (fun z : b = p => n (by rw [z]; exact h))]; exact e
theorem Stay.mono {X Y : List Addr} {H H' : Hp} (a : Stay X H H') (h : ∀ x, x ∈ X → x ∈ Y) : Stay Y H H' := fun b o n e => a b o (fun z => n (h b z)) e
theorem Stay.then {X : List Addr} {H H1 H2 : Hp} (a : Stay X H H1) (b : Same H1 H2) : Stay X H H2 := a.trans (.of b)
theorem Stay.anew {X : List Addr} {H H1 : Hp} {p : Addr} {o : HO} (a : Stay X H H1) (h : H1 p = none) : Stay X H (upd H1 p o) := a.trans (.new h)
theorem Stay.put {X : List Addr} {H H1 : Hp} {p : Addr} {o : HO} (a : Stay X H H1) (h : p ∈ X) : Stay X H (upd H1 p o) := a.trans (.at h)
theorem Stay.free {X : List Addr} {H H' : Hp} {b : Addr} (a : Stay X H H') (n : b ∉ X) (h : H' b = none) : H b = none := by
  cases e : H b with
  | none => rfl
  | some o => cases h.symm.trans (a b o n e)
/-- what was not tracked at first may be written -/
theorem Stay.same {X : List Addr} {H H1 H' : Hp} (s : Same H H1) (n : ∀ x, x ∈ X → H x = none) (k : Stay X H1 H') : Same H H' := fun b o e => k b o (fun z => by rw [n b z] at e; cases e) (s b o e)
theorem no2 {a b c : Addr} (h1 : a ≠ b) (h2 : a ≠ c) : a ∉ [b, c] := fun z => by
  rcases List.mem_cons.mp z with q | q
  · exact h1 q
  · exact h2 (List.mem_singleton.mp q)
theorem no1 {a b : Addr} (h1 : a ≠ b) : a ∉ [b] := fun z => h1 (List.mem_singleton.mp z)
theorem in2l {a b : Addr} : a ∈ [a, b] := List.mem_cons_self
theorem in2r {a b : Addr} : b ∈ [a, b] := List.mem_cons_of_mem _ List.mem_cons_self
theorem in1 {a : Addr} : a ∈ [a] := List.mem_cons_self
theorem tup_ne {H : Hp} {a b : Addr} {xs ys : List V} (h : H a = some (.tup xs)) (h2 : H b = some (.lst ys)) : a ≠ b := fun z => by
  rw [z, h2] at h; cases h
theorem TrAt.stay {X : List Addr} {H H' : Hp} {v : V} {t : Tr} (h : TrAt H v t) (k : Stay X H H') (n : ∀ x, x ∈ X → ∃ ys, H x = some (.lst ys)) : TrAt H' v t :=
  h.keep fun a x y e => k a _ (fun z => by
    obtain ⟨ys, q⟩ := n a z
    rw [q] at e
    cases e) e
theorem valAt_mem {ns : List Int} {i : Nat} (h : i < ns.length) : valAt ns i ∈ ns := by
  have e : valAt ns i = ns[i] := by
    unfold valAt
    rw [List.getD_eq_getElem?_getD, List.getElem?_eq_getElem h]
    rfl
  rw [e]
  exact List.getElem_mem h
theorem TrAt.put {H : Hp} {v : V} {t : Tr} {a : Addr} {xs : List V} {o : HO} (h : TrAt H v t) (e : H a = some (.lst xs)) : TrAt (upd H a o) v t := by
  refine h.keep fun b x y eb => ?_
  rw [upd_ne]
  · exact eb
  · intro z
    rw [z, e] at eb
    cases eb
theorem Keep.free {p q : Addr} {H H' : Hp} (k : Keep p H H') (n : q ≠ p) (h : H' q = none) : H q = none := by
  cases e : H q with
  | none => rfl
  | some o => cases h.symm.trans (k q o n e)
theorem Paired.getL {α β : Type} {R : α → β → Prop} : ∀ {l : List α} {m : List β} {i : Nat} {x : α}, Paired R l m → l[i]? = some x → ∃ y, m[i]? = some y ∧ R x y
  | _, _, i, _, .nil, e => by simp at e
  | _, _, 0, _, .cons h _, e => by
    cases Option.some.inj (show some _ = some _ from e)
    exact ⟨_, rfl, h⟩
  | _, _, i + 1, _, .cons _ t, e => Paired.getL (i := i) t e
end HSP
namespace HSP
open PySem PySem.Spec PyProof.Rows L2
section
variable {P : Program} {w : World} {K : PySem.W.Frag} {mg : Str → Option Value} {base : Heap}
/-! ### _law_ended -/
theorem sc_law_ended : FnScope n_law_ended p_law_ended (defScope s_law_ended) := ⟨rfl, rfl, rfl, by decide +kernel, rfl, by decide +kernel, by decide +kernel⟩
def spEnded (n : Nat) : Sp := fun vs H Q _ => ∃ (v : V) (t : Tr) (a : Addr) (ns : List Int) (tw : Int), vs = [v, .ref a, .int tw] ∧ TrAt H v t ∧ t.ht < n ∧ H a = some (.lst (ns.map V.int)) ∧ ns.length = t.size ∧
  ∀ (H' : Hp) (r : Addr), Same H H' → H r = none → H' r = some (.tup (endRow (sEnd (valAt ns) tw .fin t 0))) → Q (.ref r) H'
theorem ok_ended {n : Nat} (Z : Df P w K mg base "_law_room" n n_law_room (spSize n)) (a : At K mg "_law_ended" s_law_ended) : Df P w K mg base "_law_ended" (n + 1) p_law_ended (spEnded n) := by
  refine Df.mk' a sc_law_ended (fun vs H Q E h => ?_) (fun _ _ _ _ _ _ us hl => match us, hl with | [_, _, _], _ => rfl) (fun f cdv A outer s H vs Q E hr h => ?_)
  · obtain ⟨v, t, a, ns, tw, rfl, _⟩ := h
    rfl
  obtain ⟨v, t, a, ns, tw, rfl, ht, hd, ha, hn, q⟩ := h
  refine ⟨_, (pss_cons (ps_set (i := 3) sc_law_ended.nd rfl (.inl rfl) pe_int)
 (pss_cons (ps_while PassesOwn.never (pt_cmpR op_notN (pv 0) pe_non (nomark _)) (pss_cons (ps_set (i := 4) sc_law_ended.nd rfl (.inl rfl) (pe_op op_add (pv 3) (pe_df Z hr (pa_cons (pe_ix ix_tup (pv 0) pe_int (fun _ _ => rfl)) pa_nil))))
 (pss_cons (ps_if (pt_cmpR op_eq (pe_op op_mul pe_int (pe_ix ix_list (pv 1) (pv 4) (fun _ _ => rfl))) (pv 2) (nomark _)) (pss_one (ps_ret (pe_tup (pa_cons pe_str (pa_cons (pv 4) pa_nil))))) pss_nil)
 (pss_one (ps_asg (pe_ifExp (pt_cmpR op_gt (pe_op op_mul pe_int (pe_ix ix_list (pv 1) (pv 4) (fun _ _ => rfl))) (pv 2) (nomark _)) (pe_tup (pa_cons (pv 3) (pa_cons (pe_ix ix_tup (pv 0) pe_int (fun _ _ => rfl)) pa_nil))) (pe_tup (pa_cons (pe_op op_add (pv 4) pe_int) (pa_cons (pe_ix ix_tup (pv 0) pe_int (fun _ _ => rfl)) pa_nil)))) (pg_tup rfl (pgs_cons (pg_name (i := 3) sc_law_ended.nd rfl (.inl rfl)) (pgs_cons (pg_name (i := 0) sc_law_ended.nd rfl (.inl rfl)) pgs_nil))))))))
 (pss_one (ps_ret (pe_tup (pa_cons pe_str (pa_cons (pv 3) pa_nil))))))), ?_⟩
  have two : 2 ≤ sizeLine := by show 2 ≤ sizeLine; decide
  refine ⟨fun m σ H1 => ∃ (x : V) (u : Tr) (f : Nat) (y : Option V), σ = [some x, some (.ref a), some (.int tw), some (.int (f : Int)), y] ∧ Same H H1 ∧ TrAt H x u ∧ u.ht < n ∧ f + u.size ≤ t.size ∧ sEnd (valAt ns) tw .fin t 0 = sEnd (valAt ns) tw .fin u f ∧ m = u.size,
    ⟨_, v, t, 0, none, rfl, Same.refl _, ht, hd, by omega, rfl, rfl⟩, fun m σ H1 hW => ?_⟩
  obtain ⟨x, u, f, y, rfl, sm, hx, hux, hf, hE, rfl⟩ := hW
  refine ⟨x, rfl, rfl, _, rfl, ?_⟩
  cases hx with
  | nil =>
    refine iteF ?_
    refine ⟨_, rfl, two, fun e he => q _ e (sm.trans (Same.new he)) (sm.free he) ?_⟩
    rw [hE, upd_same]
    rfl
  | @nod b x1 x2 t1 t2 eb g1 g2 =>
    refine iteT ⟨fun σ' H' => ∃ m', m' < (Tr.nod t1 t2).size ∧ ∃ (x : V) (u : Tr) (f : Nat) (y : Option V), σ' = [some x, some (.ref a), some (.int tw), some (.int (f : Int)), y] ∧ Same H H' ∧ TrAt H x u ∧ u.ht < n ∧ f + u.size ≤ t.size ∧ sEnd (valAt ns) tw .fin t 0 = sEnd (valAt ns) tw .fin u f ∧ m' = u.size,
      fun σ' H' hN => hN, ?_⟩
    have hsz : (Tr.nod t1 t2).size = t1.size + 1 + t2.size := rfl
    have hht : (Tr.nod t1 t2).ht = max t1.ht t2.ht + 1 := rfl
    rw [hsz] at hf
    rw [hht] at hux
    rw [sEnd_nod] at hE
    refine ⟨_, rfl, _, rfl, b, _, _, x1, rfl, rfl, .of (sm _ _ eb), atI_nat (j := 0) rfl, x1, t1, rfl, g1.same sm, by omega, _, _, rfl, rfl, ?_⟩
    have item := at_of (z := (f : Int) + (t1.size : Int)) (j := f + t1.size) (by omega) (valAt_get (ns := ns) (by omega))
    have en : V.int ((f : Int) + (t1.size : Int)) = natV (f + t1.size) := congrArg V.int (by omega)
    have ha1 := sm _ _ ha
    refine ⟨_, rfl, _, rfl, a, _, _, _, rfl, rfl, .of ha1, item, _, _, rfl, rfl, .inl ⟨by decide, by decide⟩, _, rfl, rfl, _, rfl, ite2 (fun c => ?_) (fun c => ?_)⟩
    · have c1 : 2 * valAt ns (f + t1.size) = tw := V.int.inj (of_decide_eq_true c)
      refine ⟨_, rfl, two, fun e he => q _ e (sm.trans (Same.new he)) (sm.free he) ?_⟩
      have ew : wayOf tw (valAt ns (f + t1.size)) .fin = .fin := by
        unfold wayOf
        rw [if_pos c1.symm]
      rw [hE, ew, upd_same]
      exact congrArg (fun q => some (HO.tup [V.str "found", q])) en
    have c1 : ¬ 2 * valAt ns (f + t1.size) = tw := fun z => c (decide_eq_true (congrArg V.int z))
    refine ⟨_, rfl, _, rfl, a, _, _, _, rfl, rfl, .of ha1, item, _, _, rfl, rfl, .inl ⟨by decide, by decide⟩, _, rfl, _, _, rfl, rfl, _, rfl, ite2 (fun d => ?_) (fun d => ?_)⟩
    · have d1 : tw < 2 * valAt ns (f + t1.size) := of_decide_eq_true d
      have ew : wayOf tw (valAt ns (f + t1.size)) .fin = .lft := by
        unfold wayOf
        rw [if_neg (Ne.symm c1), if_pos d1]
      rw [ew] at hE
      refine ⟨_, rfl, _, rfl, b, _, _, x1, rfl, rfl, .of (sm _ _ eb), atI_nat (j := 0) rfl, two, fun P2 hP2 => ⟨P2, _, rfl, .of upd_same, rfl, _, _, rfl, _, [], rfl, rfl, ?_⟩⟩
      have sP := Same.new (o := .tup [V.int (f : Int), x1]) hP2
      exact ⟨t1.size, by rw [hsz]; omega, x1, t1, f, _, rfl, sm.trans sP, g1, by omega, by omega, hE, rfl⟩
    · have d1 : ¬ tw < 2 * valAt ns (f + t1.size) := fun z => d (decide_eq_true z)
      have ew : wayOf tw (valAt ns (f + t1.size)) .fin = .rgt := by
        unfold wayOf
        rw [if_neg (Ne.symm c1), if_neg d1]
      rw [ew] at hE
      refine ⟨_, rfl, _, _, rfl, rfl, _, rfl, b, _, _, x2, rfl, rfl, .of (sm _ _ eb), atI_nat (j := 1) rfl, two, fun P2 hP2 => ⟨P2, _, rfl, .of upd_same, rfl, _, _, rfl, _, [], rfl, rfl, ?_⟩⟩
      have sP := Same.new (o := .tup [V.int ((f : Int) + (t1.size : Int) + 1), x2]) hP2
      refine ⟨t2.size, by rw [hsz]; omega, x2, t2, f + t1.size + 1, some (.int ((f : Int) + (t1.size : Int))), ?_, sm.trans sP, g2, by omega, by omega, hE, rfl⟩
      exact congrArg (fun q => [some x2, some (V.ref a), some (V.int tw), some (V.int q), some (V.int ((f : Int) + (t1.size : Int)))]) (by omega : (f : Int) + (t1.size : Int) + 1 = ((f + t1.size + 1 : Nat) : Int))
/-! ### _law_all_shapes -/
theorem sc_law_all_shapes : FnScope n_law_all_shapes ["nodes"] (defScope s_law_all_shapes) := ⟨rfl, rfl, rfl, by decide +kernel, rfl, by decide +kernel, by decide +kernel⟩
/-- a list of trees -/
def TreesAt (H : Hp) (q : Addr) (ts : List Tr) : Prop := ∃ xs : List V, H q = some (.lst xs) ∧ Paired (fun v t => TrAt H v t) xs ts
theorem TreesAt.same {H H' : Hp} {q : Addr} {ts : List Tr} (h : TreesAt H q ts) (s : Same H H') : TreesAt H' q ts := by
  obtain ⟨xs, e, p⟩ := h
  exact ⟨xs, s _ _ e, Paired.mapP p fun v t h => h.same s⟩
def spShapes (n : Nat) : Sp := fun vs H Q _ => ∃ m : Nat, vs = [natV m] ∧ m < n ∧ m < 6 ∧ ∀ (H' : Hp) (q : Addr), Same H H' → H q = none → TreesAt H' q (shapesOf m) → Q (.ref q) H'
theorem ok_shapes (B : Bl mg) (a : At K mg "_law_all_shapes" s_law_all_shapes) : ∀ n, Df P w K mg base "_law_all_shapes" n ["nodes"] (spShapes n)
  | 0 => Df.none' a (fun vs H Q E h => by obtain ⟨m, _, h, _⟩ := h; exact absurd h (Nat.not_lt_zero _)) (fun _ _ _ _ _ _ us hl => match us, hl with | [_], _ => rfl) 0
  | n + 1 => by
    have D := ok_shapes B a n
    refine Df.mk' a sc_law_all_shapes (fun vs H Q E h => ?_) (fun _ _ _ _ _ _ us hl => match us, hl with | [_], _ => rfl) (fun f cdv A outer s H vs Q E hr h => ?_)
    · obtain ⟨m, rfl, _⟩ := h
      rfl
    obtain ⟨m, rfl, hm, h6, q⟩ := h
    refine ⟨_, (pss_cons (ps_if (pt_cmpR op_eq (pv 0) pe_int (nomark _)) (pss_one (ps_ret (pe_lst (pa_cons pe_non pa_nil)))) pss_nil)
 (pss_cons (ps_set (i := 1) sc_law_all_shapes.nd rfl (.inl rfl) (pe_lst pa_nil))
 (pss_cons (ps_for PassesOwn.never rfl (pi_range1 (by rfl) B.range (pa_cons (pv 0) pa_nil)) (pg_name (i := 2) sc_law_all_shapes.nd rfl (.inl rfl)) (pss_one (ps_for PassesOwn.never rfl (pi_list (pe_df D hr (pa_cons (pv 2) pa_nil))) (pg_name (i := 3) sc_law_all_shapes.nd rfl (.inr rfl)) (pss_one (ps_set (i := 1) sc_law_all_shapes.nd rfl (.inl rfl) (pe_op op_cat (pv 1) (pe_lc (own := [("right", 4)]) (g := (gName 4)) (tt := tYes) (by rfl) sc_law_all_shapes.nd (pi_list (pe_df D hr (pa_cons (pe_op op_sub (pe_op op_sub (pv 0) pe_int) (pv 2)) pa_nil))) (blkOk_by (N := n_law_all_shapes) (sc := defScope s_law_all_shapes) (by decide +kernel)) (fun _ _ _ _ _ => (pg_name (i := 4) sc_law_all_shapes.nd rfl (.inl rfl))) (fun _ _ _ _ _ => pts_nil) (fun _ _ _ _ _ => (pe_tup (pa_cons (pv 3) (pa_cons (pv 4) pa_nil)))))))))))
 (pss_one (ps_ret (pv 1)))))), ?_⟩
    have one : 1 ≤ sizeLine := by show 1 ≤ sizeLine; decide
    have two : 2 ≤ sizeLine := by show 2 ≤ sizeLine; decide
    refine ⟨_, rfl, rfl, _, rfl, ?_⟩
    cases m with
    | zero =>
      refine iteT ⟨one, fun L hL => ?_⟩
      exact q _ L (Same.new hL) hL ⟨[.non], upd_same, .cons .nil .nil⟩
    | succ m =>
    refine ite_no (fun z => by have := V.int.inj z; omega) ?_
    refine ⟨Nat.zero_le _, fun L0 hL0 => ?_⟩
    have sL0 := Same.new (o := .lst []) hL0
    have unf := shapes_succ m
    refine ⟨_, rfl, _, rfl, by omega, by omega, for_range (lo := 0) (n := ((m + 1 : Nat) : Int).toNat) (fun i σ H1 => ∃ (r : Addr) (y2 y3 y4 : Option V), σ = [some (natV (m + 1)), some (.ref r), y2, y3, y4] ∧ Same H H1 ∧ H r = none ∧ TreesAt H1 r ((List.range i).flatMap fun a => (shapesOf a).flatMap fun l => (shapesOf (m - a)).map fun r => Tr.nod l r))
      ⟨L0, _, _, _, rfl, sL0, hL0, [], upd_same, .nil⟩ (fun i σ H1 hi h1 => ?_) (fun σ H1 h1 => ?_)⟩
    · obtain ⟨r, y2, y3, y4, rfl, s1, nr, h1⟩ := h1
      have him : i < m + 1 := by omega
      refine ⟨_, rfl, i, congrArg (fun z => [V.int z]) (by omega), by omega, by omega, fun H2 L s2 nL ⟨ls, eL, pL⟩ => ?_⟩
      have few1 := shapes_le (n := i) (by omega)
      have few2 := shapes_le (n := m - i) (by omega)
      have lenL := Paired.length pL
      have lenF : ((List.range i).flatMap fun a => (shapesOf a).flatMap fun l => (shapesOf (m - a)).map fun r => Tr.nod l r).length ≤ i * (42 * 42) := by
        have h := len_flatMap_le (l := List.range i) (f := fun a => (shapesOf a).flatMap fun l => (shapesOf (m - a)).map fun r => Tr.nod l r) (c := 42 * 42) (fun a ha => by
          have ha' := List.mem_range.mp ha
          have f1 := shapes_le (n := a) (by omega)
          have f2 := shapes_le (n := m - a) (by omega)
          refine Nat.le_trans (len_flatMap_le (c := 42) fun l _ => ?_) (Nat.mul_le_mul_right 42 f1)
          rw [List.length_map]
          exact f2)
        rw [List.length_range] at h
        exact h
      generalize hfr : ((List.range i).flatMap fun a => (shapesOf a).flatMap fun l => (shapesOf (m - a)).map fun r => Tr.nod l r) = front at h1 lenF
      refine ⟨L, rfl, ⟨_, .of eL⟩, for_list (xs := ls) (fun j σ H3 => ∃ (r : Addr) (y3 y4 : Option V), σ = [some (natV (m + 1)), some (.ref r), some (.int (0 + (i : Int))), y3, y4] ∧ Same H2 H3 ∧ H r = none ∧ TreesAt H3 r (front ++ ((shapesOf i).take j).flatMap fun l => (shapesOf (m - i)).map fun r => Tr.nod l r))
        ⟨r, _, _, rfl, Same.refl _, nr, ?_⟩ (fun j σ H3 _ h3 => ?_) (fun j x σ H3 hx h3 => ?_) (fun σ H3 h3 => ?_)⟩
      · rw [List.take_zero, List.flatMap_nil, List.append_nil]
        exact h1.same s2
      · obtain ⟨_, _, _, _, s3, _⟩ := h3
        exact .of (s3 _ _ eL)
      · obtain ⟨r3, y3, y4, rfl, s3, nr3, xs3, e3, p3⟩ := h3
        obtain ⟨lt, hlt, htl⟩ := Paired.getL pL hx
        have len3 := Paired.length p3
        rw [List.length_append] at len3
        have lenG : (((shapesOf i).take j).flatMap fun l => (shapesOf (m - i)).map fun r => Tr.nod l r).length ≤ 42 * 42 := by
          refine Nat.le_trans (len_flatMap_le (c := 42) fun l _ => ?_) (Nat.mul_le_mul_right 42 (by rw [List.length_take]; omega))
          rw [List.length_map]
          exact few2
        refine ⟨_, rfl, _, rfl, _, _, rfl, rfl, _, rfl, _, _, rfl, rfl, m - i, congrArg (fun z => [V.int z]) (by omega), by omega, by omega, fun H4 M s4 nM ⟨rs, eM, pM⟩ => ?_⟩
        have lenM := Paired.length pM
        refine ⟨M, rfl, ⟨_, .of eM⟩, fun C hC => ?_⟩
        have sC := Same.new (o := .lst []) hC
        refine lc_list (xs := rs) (fun k H5 => Same H4 H5 ∧ ∃ zs : List V, H5 C = some (.lst zs) ∧ zs.length = k ∧ Paired (fun v t => TrAt H5 v t) zs (((shapesOf (m - i)).take k).map fun r => Tr.nod lt r)) ⟨sC, [], upd_same, rfl, .nil⟩ (fun k H5 _ h5 => .of (h5.1 _ _ eM)) (fun k y H5 hy h5 => ?_) (fun H5 h5 => ?_)
        · obtain ⟨s5, zs, e5, l5, p5⟩ := h5
          obtain ⟨rt, hrt, htr⟩ := Paired.getL pM hy
          have hk := (List.getElem?_eq_some_iff.mp hy).1
          refine ⟨rfl, ?_⟩
          refine ⟨_, rfl, _, rfl, two, fun T hT => ?_⟩
          have sT := Same.new (o := .tup [x, y]) hT
          have nTC : C ≠ T := ne_of_none e5 hT
          have s6 : Same H4 (upd (upd H5 T (.tup [x, y])) C (.lst (zs ++ [.ref T]))) := fun b o e => by
            rw [upd_ne (ne_of_none e hC)]
            exact sT _ _ (s5 _ _ e)
          have keepT : ∀ {v : V} {t : Tr}, TrAt H5 v t → TrAt (upd (upd H5 T (.tup [x, y])) C (.lst (zs ++ [.ref T]))) v t := fun h => (h.same sT).put (sT _ _ e5)
          refine ⟨zs, sT _ _ e5, ?_, s6, zs ++ [.ref T], upd_same, ?_, ?_⟩
          · show zs.length < 16777216
            omega
          · rw [List.length_append, List.length_singleton, l5]
          · rw [List.take_add_one, hrt, List.map_append]
            refine Paired.app (Paired.mapP p5 fun v t h => keepT h) (.cons (.nod (a := T) (x := x) (y := y) ?_ ?_ ?_) .nil)
            · rw [upd_ne nTC.symm, upd_same]
            · exact ((htl.same s3).same s4).same s6
            · exact htr.same s6
        · obtain ⟨s5, zs, e5, l5, p5⟩ := h5
          rw [lenM, List.take_length] at p5
          have lenP := Paired.length p5
          rw [List.length_map] at lenP
          refine ⟨r3, C, _, _, rfl, rfl, (s4.trans s5) _ _ e3, e5, ?_, fun R hR => ?_⟩
          · show _ ≤ 16777216
            omega
          have sR := Same.new (o := .lst (xs3 ++ zs)) hR
          refine ⟨R, _, _, rfl, ((s3.trans s4).trans s5).trans sR, (s1.trans (s2.trans ((s3.trans s4).trans s5))).free hR, xs3 ++ zs, upd_same, ?_⟩
          rw [List.take_add_one, hlt, List.flatMap_append, ← List.append_assoc]
          refine Paired.app (Paired.mapP p3 fun v t h => ((h.same s4).same s5).same sR) ?_
          show Paired _ zs (((shapesOf (m - i)).map fun r => Tr.nod lt r) ++ [])
          rw [List.append_nil]
          exact Paired.mapP p5 fun v t h => h.same sR
      · obtain ⟨r3, y3, y4, rfl, s3, nr3, h3⟩ := h3
        rw [lenL, List.take_length] at h3
        refine ⟨r3, _, _, _, rfl, s1.trans (s2.trans s3), nr3, ?_⟩
        rw [List.range_succ, List.flatMap_append]
        show TreesAt H3 r3 (_ ++ (((shapesOf i).flatMap fun l => (shapesOf (m - i)).map fun r => Tr.nod l r) ++ []))
        rw [List.append_nil, hfr]
        exact h3
    · obtain ⟨r, y2, y3, y4, rfl, s1, nr, h1⟩ := h1
      refine ⟨_, rfl, q _ r s1 nr ?_⟩
      rw [unf]
      rw [show ((m + 1 : Nat) : Int).toNat = m + 1 by omega] at h1
      exact h1
end
end HSP
namespace HSP
open PySem PySem.Spec PyProof.Rows L2
theorem room65 {k : Nat} {A : Around} (r : Room k A) : A.units + 65 < cLine := by
  have := r.un
  omega
/-- a list of how searches ended -/
def EndsAt (H : Hp) (q : Addr) (rs : List (Bool × Nat)) : Prop := ∃ as : List Addr, H q = some (.lst (as.map V.ref)) ∧ Paired (fun a r => H a = some (.tup (endRow r))) as rs
theorem ends_dp {K : PySem.W.Frag} {H : Hp} {as : List Addr} {rs : List (Bool × Nat)} (p : Paired (fun a r => H a = some (.tup (endRow r))) as rs) (h : ∀ r, r ∈ rs → r.2 < 1000000) : DpAll K H (as.map V.ref) (rs.map fun r => rowD (endRow r)) := by
  induction p with
  | nil => exact .nil
  | cons e _ ih => exact .cons (row_dp e (endRow_plain (h _ List.mem_cons_self))) (ih fun r hr => h r (List.mem_cons_of_mem _ hr))
theorem ends_can : ∀ rs : List (Bool × Nat), (∀ r, r ∈ rs → r.2 < 1000000) → PyData.canLayAll0 (rs.map fun r => rowD (endRow r)) = true
  | [], _ => by simp [PyData.canLayAll0]
  | x :: r, h => by
    have ih := ends_can r fun v hv => h v (List.mem_cons_of_mem _ hv)
    have h1 := row_can (endRow_plain (h x List.mem_cons_self))
    simp only [List.map_cons, PyData.canLayAll0, h1, ih, Bool.and_self]
theorem ends_deep : ∀ rs : List (Bool × Nat), PyData.depthAll (rs.map fun r => rowD (endRow r)) ≤ 3
  | [] => by simp [PyData.depthAll]
  | x :: r => by
    have ih := ends_deep r
    have h1 := row_deep (endRow x)
    simp only [List.map_cons, PyData.depthAll]
    omega
theorem ends_shaped {rs : List (Bool × Nat)} (h : ∀ r, r ∈ rs → r.2 < 1000000) : SeqAt.shaped (.list (rs.map fun r => rowD (endRow r))) = true := by
  unfold SeqAt.shaped
  rw [Bool.and_eq_true]
  have h1 := ends_deep rs
  refine ⟨?_, decide_eq_true ?_⟩
  · simp only [PyData.canLay0]
    exact ends_can rs h
  · simp only [PyData.depth]
    omega
theorem found_plain {i : Nat} (h : i < 1000000) : Plains [V.str "found", natV i] := endRow_plain (r := (true, i)) h
section
variable {P : Program} {w : World} {K : PySem.W.Frag} {mg : Str → Option Value} {base : Heap}
/-! ### _law_by_roots -/
theorem sc_law_by_roots : FnScope n_law_by_roots ["a_values", "shapes", "a_node"] (defScope s_law_by_roots) := ⟨rfl, rfl, rfl, by decide +kernel, rfl, by decide +kernel, by decide +kernel⟩
def spRoots : Sp := fun vs H Q _ => ∃ (a s : Addr) (ns : List Int) (ts : List Tr) (i : Nat), vs = [.ref a, .ref s, natV i] ∧ H a = some (.lst (ns.map V.int)) ∧ TreesAt H s ts ∧ ts.length ≤ 42 ∧ ns.length < 6 ∧ (∀ t, t ∈ ts → t.size = ns.length) ∧ i < ns.length ∧ ∀ H', Same H H' → Q (optNV (byRoots (valAt ns) ts ns.length i)) H'
theorem ok_roots (B : Bl mg) (Z : Df P w K mg base "_law_room" 6 n_law_room (spSize 6)) (En : Df P w K mg base "_law_ended" 7 p_law_ended (spEnded 6)) (a : At K mg "_law_by_roots" s_law_by_roots) : Df P w K mg base "_law_by_roots" 8 ["a_values", "shapes", "a_node"] spRoots := by
  refine Df.mk' a sc_law_by_roots (fun vs H Q E h => ?_) (fun _ _ _ _ _ _ us hl => match us, hl with | [_, _, _], _ => rfl) (fun f cdv A outer s H vs Q E hr h => ?_)
  · obtain ⟨a, s, ns, ts, i, rfl, _⟩ := h
    rfl
  obtain ⟨a, s, ns, ts, i, rfl, ha, ⟨xs, es, px⟩, few, n6, hts, hi, q⟩ := h
  refine ⟨_, (pss_cons (ps_for PassesOwn.never rfl (pi_range1 (by rfl) B.range (pa_cons (pe_callB call_len_seq (by rfl) B.len PySem.boot_len (pa_cons (pv 0) pa_nil)) pa_nil)) (pg_name (i := 3) sc_law_by_roots.nd rfl (.inr rfl)) (pss_cons (ps_setLc (i := 4) (own := [("shape", 6)]) (g := (gName 6)) (by rfl) sc_law_by_roots.nd rfl rfl (sw_true rfl rfl rfl (by decide +kernel)) (pi_list (pv 1)) (blkOk_by (N := n_law_by_roots) (sc := defScope s_law_by_roots) (by decide +kernel)) (fun _ _ _ _ _ => (pg_name (i := 6) sc_law_by_roots.nd rfl (.inl rfl))) (fun _ _ _ _ _ => (pts_one (pt_cmpR op_eq (pe_df Z (hr.mono (by decide)) (pa_cons (pe_ix (show IxR _ (rIxT K) from ix_tup) (pv 6) pe_int (fun _ _ => rfl)) pa_nil)) (pv 3) (nomark _)))) (fun _ _ _ _ _ => (pv 6)))
 (pss_cons (ps_setLc (i := 5) (own := [("shape", 6)]) (g := (gName 6)) (tt := tYes) (by rfl) sc_law_by_roots.nd rfl rfl (sw_true rfl rfl rfl (by decide +kernel)) (pi_list (pv 4)) (blkOk_by (N := n_law_by_roots) (sc := defScope s_law_by_roots) (by decide +kernel)) (fun _ _ _ _ _ => (pg_name (i := 6) sc_law_by_roots.nd rfl (.inl rfl))) (fun _ _ _ _ _ => pts_nil) (fun _ _ _ _ _ => (pe_df En hr (pa_cons (pv 6) (pa_cons (pv 0) (pa_cons (pe_op op_mul pe_int (pe_ix (show IxR _ (rIxL K) from ix_list) (pv 0) (pv 2) (fun _ _ => rfl))) pa_nil))))))
 (pss_one (ps_if (pt_cmpR (op_notInD (room65 hr)) (pe_tup (pa_cons pe_str (pa_cons (pv 2) pa_nil))) (pv 5) (by rfl)) (pss_one (ps_ret (pv 3))) pss_nil)))))
 (pss_one (ps_ret pe_non))), ?_⟩
  have two : 2 ≤ sizeLine := by show 2 ≤ sizeLine; decide
  have lx := Paired.length px
  have inT : ∀ x t, (x, t) ∈ xs.zip ts → t.size = ns.length := fun x t h => hts t (List.of_mem_zip h).2
  refine ⟨_, rfl, a, _, rfl, .inl (.of ha), _, rfl, by omega, ?_, for_range (lo := 0) (n := (((ns.map V.int).length : Nat) : Int).toNat) (fun r σ H1 => ∃ y3 y4 y5 : Option V, σ = [some (.ref a), some (.ref s), some (natV i), y3, y4, y5, none] ∧ Same H H1 ∧ ∀ k, k < r → (!((ts.filter fun t => lsz t == k).any (hits (valAt ns) i))) = false)
    ⟨none, none, none, rfl, Same.refl _, fun k hk => absurd hk (Nat.not_lt_zero k)⟩ (fun r σ H1 hr1 h1 => ?_) (fun σ H1 h1 => ?_)⟩
  · rw [List.length_map]
    omega
  · obtain ⟨y3, y4, y5, rfl, s1, no⟩ := h1
    rw [List.length_map] at hr1
    have hr2 : r < ns.length := by omega
    have es1 := s1 _ _ es
    have px1 := Paired.mapP px fun v t h => h.same s1
    refine ⟨_, rfl, s, rfl, ⟨_, .of es1⟩, fun D hD => ?_⟩
    have sD := Same.new (o := .lst []) hD
    refine lc_list (xs := xs) (fun k H2 => Same H1 H2 ∧ ∃ zs : List V, H2 D = some (.lst zs) ∧ zs.length ≤ k ∧ Paired (fun v t => TrAt H2 v t) zs ((ts.take k).filter fun t => lsz t == r)) ⟨sD, [], upd_same, Nat.le_refl _, .nil⟩ (fun k H2 _ h2 => .of (h2.1 _ _ es1)) (fun k x H2 hx h2 => ?_) (fun H2 h2 => ?_)
    · obtain ⟨s2, zs, e2, l2, p2⟩ := h2
      obtain ⟨t, ht, htx⟩ := Paired.getL px1 hx
      have hk := (List.getElem?_eq_some_iff.mp hx).1
      have tz := hts t (List.mem_of_getElem? ht)
      have htx2 := htx.same s2
      refine ⟨rfl, ?_⟩
      rw [List.take_add_one, ht, List.filter_append]
      cases htx2 with
      | nil =>
        have e : Tr.nil.size = 0 := rfl
        omega
      | @nod b x1 x2 t1 t2 eb g1 g2 =>
        have hh := Tr.ht_le (Tr.nod t1 t2)
        have hh2 : (Tr.nod t1 t2).ht = max t1.ht t2.ht + 1 := rfl
        refine ⟨_, rfl, b, _, _, x1, rfl, rfl, .of eb, atI_nat (j := 0) rfl, x1, t1, rfl, g1, by omega, _, rfl, rfl, _, rfl, ?_⟩
        by_cases c : t1.size = r
        · have e1 : decide (V.int ((t1.size : Nat) : Int) = V.int (0 + (r : Int))) = true := decide_eq_true (congrArg V.int (by omega))
          rw [e1]
          refine iteT ⟨_, rfl, zs, e2, ?_, ?_⟩
          · show zs.length < 16777216
            omega
          have s3 : Same H1 (upd H2 D (.lst (zs ++ [.ref b]))) := fun b' o e => by
            rw [upd_ne (ne_of_none e hD)]
            exact s2 _ _ e
          refine ⟨s3, zs ++ [.ref b], upd_same, by rw [List.length_append, List.length_singleton]; omega, ?_⟩
          have e3 : (Tr.nod t1 t2 :: []).filter (fun t => lsz t == r) = [Tr.nod t1 t2] := by
            rw [List.filter_cons, show (lsz (Tr.nod t1 t2) == r) = true from beq_iff_eq.mpr c, if_pos rfl]
            rfl
          show Paired _ _ (_ ++ (Tr.nod t1 t2 :: []).filter (fun t => lsz t == r))
          rw [e3]
          exact Paired.app (Paired.mapP p2 fun v t h => h.put e2) (.cons ((TrAt.nod eb g1 g2).put e2) .nil)
        · have e1 : decide (V.int ((t1.size : Nat) : Int) = V.int (0 + (r : Int))) = false := decide_eq_false fun z => c (by have := V.int.inj z; omega)
          rw [e1]
          refine iteF ⟨s2, zs, e2, by omega, ?_⟩
          have e3 : (Tr.nod t1 t2 :: []).filter (fun t => lsz t == r) = [] := by
            rw [List.filter_cons, show (lsz (Tr.nod t1 t2) == r) = false from beq_eq_false_iff_ne.mpr c]
            rfl
          show Paired _ _ (_ ++ (Tr.nod t1 t2 :: []).filter (fun t => lsz t == r))
          rw [e3, List.append_nil]
          exact p2
    · obtain ⟨s2, zs, e2, l2, p2⟩ := h2
      rw [lx, List.take_length] at p2
      have lz := Paired.length p2
      have ha2 := s2 _ _ (s1 _ _ ha)
      have inF : ∀ t, t ∈ ts.filter (fun t => lsz t == r) → t.size = ns.length := fun t h => hts t (List.mem_filter.mp h).1
      have gd : (!((ts.filter fun t => lsz t == r).any (hits (valAt ns) i))) = !(((ts.filter fun t => lsz t == r).map fun t => sEnd (valAt ns) (2 * valAt ns i) .fin t 0).any fun e => decide (e = (true, i))) := by
        rw [List.any_map]
        rfl
      generalize hfs : ts.filter (fun t => lsz t == r) = fs at p2 lz inF gd
      refine ⟨_, rfl, D, rfl, ⟨_, .of e2⟩, fun C hC => ?_⟩
      have sC := Same.new (o := .lst []) hC
      refine lc_list (xs := zs) (fun k H3 => Same H2 H3 ∧ ∃ as : List Addr, H3 C = some (.lst (as.map V.ref)) ∧ as.length = k ∧ Paired (fun a r => H3 a = some (.tup (endRow r))) as ((fs.take k).map fun t => sEnd (valAt ns) (2 * valAt ns i) .fin t 0)) ⟨sC, [], upd_same, rfl, .nil⟩ (fun k H3 _ h3 => .of (h3.1 _ _ e2)) (fun k x H3 hx h3 => ?_) (fun H3 h3 => ?_)
      · obtain ⟨s3, as, e3, l3, p3⟩ := h3
        obtain ⟨t, ht, htx⟩ := Paired.getL p2 hx
        have hk := (List.getElem?_eq_some_iff.mp hx).1
        have tz := inF t (List.mem_of_getElem? ht)
        have hh := Tr.ht_le t
        refine ⟨rfl, ?_⟩
        refine ⟨_, rfl, _, rfl, _, rfl, _, rfl, a, _, _, _, rfl, rfl, .of (s3 _ _ ha2), at_of (z := (i : Int)) (j := i) rfl (valAt_get hi), _, _, rfl, rfl, .inl ⟨by decide, by decide⟩, x, t, a, ns, _, rfl, htx.same s3, by omega, s3 _ _ ha2, by omega, fun H4 e s4 n4 e4 => ?_⟩
        have nCe : C ≠ e := ne_of_none e3 n4
        refine ⟨_, s4 _ _ e3, ?_, fun b o eb => ?_, as ++ [e], ?_, ?_, ?_⟩
        · rw [List.length_map]
          show as.length < 16777216
          omega
        · rw [upd_ne (ne_of_none eb hC)]
          exact s4 _ _ (s3 _ _ eb)
        · rw [upd_same, List.map_append]
          rfl
        · rw [List.length_append, List.length_singleton, l3]
        · rw [List.take_add_one, ht, List.map_append]
          refine Paired.app (Paired.mapP p3 fun b r h => ?_) (.cons ?_ .nil)
          · rw [upd_ne (tup_ne h e3)]
            exact s4 _ _ h
          · rw [upd_ne nCe.symm]
            exact e4
      · obtain ⟨s3, as, e3, l3, p3⟩ := h3
        rw [lz, List.take_length] at p3
        have small : ∀ r, r ∈ fs.map (fun t => sEnd (valAt ns) (2 * valAt ns i) .fin t 0) → r.2 < 1000000 := fun r hr => by
          obtain ⟨t, ht, rfl⟩ := List.mem_map.mp hr
          have h1 := sEnd_le (valAt ns) (2 * valAt ns i) .fin t 0
          have h2 := inF t ht
          omega
        refine ⟨_, rfl, two, fun T hT => ?_⟩
        have sT := Same.new (o := .tup [V.str "found", natV i]) hT
        refine ⟨_, rfl, rowD [V.str "found", natV i], (fs.map fun t => sEnd (valAt ns) (2 * valAt ns i) .fin t 0).map (fun r => rowD (endRow r)), row_dp upd_same (found_plain (by omega)), .lst (.of (sT _ _ e3)) (ends_dp (Paired.mapP p3 fun b r h => sT _ _ h) small), row_shaped (found_plain (by omega)), ends_shaped small, _, rfl, ?_⟩
        rw [ends_any, ← gd]
        have sF := s1.trans (s2.trans (s3.trans sT))
        cases e : (!(fs.any (hits (valAt ns) i))) with
        | true =>
          rw [← hfs] at e
          refine iteT ⟨_, rfl, ?_⟩
          have z := q _ sF
          have eb : byRoots (valAt ns) ts ns.length i = some r := List.find?_range_eq_some.mpr ⟨e, List.mem_range.mpr hr2, fun k hk => by rw [no k hk]; rfl⟩
          rw [eb] at z
          rw [show V.int (0 + (r : Int)) = natV r from congrArg V.int (by omega)]
          exact z
        | false =>
          rw [← hfs] at e
          refine iteF ⟨_, _, _, rfl, sF, fun k hk => ?_⟩
          by_cases c : k = r
          · rw [c]
            exact e
          · exact no k (by omega)
  · obtain ⟨y3, y4, y5, rfl, s1, no⟩ := h1
    have z := q _ s1
    have eb : byRoots (valAt ns) ts ns.length i = none := List.find?_range_eq_none.mpr fun k hk => by rw [no k (by rw [List.length_map]; omega)]; rfl
    rw [eb] at z
    exact z
end
end HSP
namespace HSP
open PySem PySem.Spec PyProof.Rows L2
section
variable {P : Program} {w : World} {K : PySem.W.Frag} {mg : Str → Option Value} {base : Heap}
/-! ### is_whole -/
def spWhole : Sp := fun vs H Q _ => ∃ i : Int, vs = [.int i] ∧ Q (.bl true) H
theorem sc_whole : FnScope n_is_whole ["thing"] (defScope s_is_whole) := ⟨rfl, rfl, rfl, by decide +kernel, rfl, by decide +kernel, by decide +kernel⟩
theorem ok_whole (B : Bl mg) (a : At K mg "is_whole" s_is_whole) : Df P w K mg base "is_whole" 1 ["thing"] spWhole := by
  refine Df.mk' a sc_whole (fun vs H Q E h => ?_) (fun _ _ _ _ _ _ us hl => match us, hl with | [_], _ => rfl) (fun f cdv A outer s H vs Q E hr h => ?_)
  · obtain ⟨v, rfl, _⟩ := h
    rfl
  obtain ⟨i, rfl, q⟩ := h
  refine ⟨_, pss_one (ps_ret (pe_and (pe_callB call_isi (by rfl) B.isinstance (by decide +kernel) (pa_cons (pv 0) (pa_cons (pe_bltn (v := .ty "int") (by rfl) B.int (by decide +kernel) rfl) pa_nil)))
    (pe_one (pe_not (pe_callB call_isi (by rfl) B.isinstance (by decide +kernel) (pa_cons (pv 0) (pa_cons (pe_bltn (v := .ty "bool") (by rfl) B.bool (by decide +kernel) rfl) pa_nil))))))), ?_⟩
  refine ⟨_, rfl, _, _, _, _, true, rfl, .ty "int", .base (.int i), rfl, true, rfl, iteT ?_⟩
  exact ⟨_, rfl, _, _, _, _, false, rfl, .ty "bool", .base (.int i), rfl, false, rfl, q⟩
end
end HSP
namespace HSP
open PySem PySem.Spec PyProof.Rows L2
section
variable {P : Program} {w : World} {K : PySem.W.Frag} {mg : Str → Option Value} {base : Heap}
/-! ### check_row -/
theorem sc_chkR : FnScope n_check_row ["row"] (defScope s_check_row) := ⟨rfl, rfl, rfl, by decide +kernel, rfl, by decide +kernel, by decide +kernel⟩
def spChkR : Sp := fun vs H Q _ => ∃ (a : Addr) (ns : List Int), vs = [.ref a] ∧ H a = some (.lst (ns.map V.int)) ∧ ∀ H', Same H H' → Q .non H'
theorem ok_chkR (B : Bl mg) (W1 : Df P w K mg base "is_whole" 1 ["thing"] spWhole) (a : At K mg "check_row" s_check_row) : Df P w K mg base "check_row" 2 ["row"] spChkR := by
  refine Df.mk' a sc_chkR (fun vs H Q E h => ?_) (fun _ _ _ _ _ _ us hl => match us, hl with | [_], _ => rfl) (fun f cdv A outer s H vs Q E hr h => ?_)
  · obtain ⟨a, ns, rfl, _⟩ := h
    rfl
  obtain ⟨a, ns, rfl, ha, q⟩ := h
  refine ⟨_, (pss_cons (ps_if (pt_not (pt_val (pe_callB call_isi (by rfl) B.isinstance (by decide +kernel) (pa_cons (pv 0) (pa_cons (pe_bltn (v := .ty "list") (by rfl) B.list (by decide +kernel) rfl) pa_nil))))) (pss_one ps_never) pss_nil)
 (pss_one (ps_for PassesOwn.never rfl (pi_enum (by rfl) B.enumerate (pa_cons (pv 0) pa_nil)) (pg_tup rfl (pgs_cons (pg_name (i := 1) sc_chkR.nd rfl (.inl rfl)) (pgs_cons (pg_name (i := 2) sc_chkR.nd rfl (.inl rfl)) pgs_nil))) (pss_one (ps_if (pt_not (pt_val (pe_df W1 hr (pa_cons (pv 2) pa_nil)))) (pss_one ps_never) pss_nil))))), ?_⟩
  refine ⟨_, rfl, _, _, _, _, true, rfl, .ty "list", .base (.lst ha), rfl, true, rfl, iteF ?_⟩
  refine ⟨.ref a, rfl, a, ns.map V.int, rfl, .of ha, ?_⟩
  refine for_it (walk_enum (K := K) (a := a) (xs := ns.map V.int)) (fun _ σ H3 => Same H H3 ∧ ∃ y2 y3, σ = [some (.ref a), y2, y3]) ⟨Same.refl _, none, none, rfl⟩ (fun i σ H3 _ h3 => .of (h3.1 _ _ ha)) (fun i x σ H3 H4 hi h3 hy => ?_) (fun σ H3 h3 => q _ h3.1)
  obtain ⟨s3, y2, y3, rfl⟩ := h3
  obtain ⟨p, x1, x2, rfl, np, rfl, ex1, ex2⟩ := hy
  rw [List.length_map] at hi
  have g1 : (ns.map V.int)[i]? = some (.int ns[i]) := by
    rw [List.getElem?_map, List.getElem?_eq_getElem hi]
    rfl
  cases g1.symm.trans ex2
  refine ⟨p, [x1, .int ns[i]], rfl, .of upd_same, rfl, x1, _, rfl, _, [], rfl, rfl, ?_⟩
  refine ⟨_, rfl, _, rfl, true, rfl, iteF ?_⟩
  exact ⟨s3.trans (Same.new np), _, _, rfl⟩
end
end HSP
namespace HSP
open PySem PySem.Spec PyProof.Rows L2
section
variable {P : Program} {w : World} {K : PySem.W.Frag} {mg : Str → Option Value} {base : Heap}
/-! ### is_node, check_among, check_node, where it is one -/
theorem sc_isN : FnScope n_is_node ["thing", "many"] (defScope s_is_node) := ⟨rfl, rfl, rfl, by decide +kernel, rfl, by decide +kernel, by decide +kernel⟩
def spIsN : Sp := fun vs H Q _ => ∃ (i m : Nat), vs = [natV i, natV m] ∧ i < m ∧ Q (.bl true) H
theorem ok_isN (W1 : Df P w K mg base "is_whole" 1 ["thing"] spWhole) (a : At K mg "is_node" s_is_node) : Df P w K mg base "is_node" 2 ["thing", "many"] spIsN := by
  refine Df.mk' a sc_isN (fun vs H Q E h => ?_) (fun _ _ _ _ _ _ us hl => match us, hl with | [_, _], _ => rfl) (fun f cdv A outer s H vs Q E hr h => ?_)
  · obtain ⟨i, m, rfl, _⟩ := h
    rfl
  obtain ⟨i, m, rfl, hi, q⟩ := h
  refine ⟨_, (pss_one (ps_ret (pe_and (pe_df W1 hr (pa_cons (pv 0) pa_nil)) (pe_one (pe_chain op_le op_lt pe_int (pv 0) (pv 1)))))), ?_⟩
  refine ⟨_, rfl, _, rfl, true, rfl, iteT ?_⟩
  refine ⟨_, rfl, _, _, rfl, rfl, _, rfl, ite_yes (by omega) ?_⟩
  refine ⟨_, rfl, _, _, rfl, rfl, ?_⟩
  have z : Q (.bl (decide ((i : Int) < (m : Int)))) H := by
    rw [decide_eq_true (show (i : Int) < (m : Int) by omega)]
    exact q
  exact z
theorem sc_chkA : FnScope n_check_among ["many", "node"] (defScope s_check_among) := ⟨rfl, rfl, rfl, by decide +kernel, rfl, by decide +kernel, by decide +kernel⟩
def spChkA : Sp := fun vs H Q _ => ∃ (i m : Nat), vs = [natV m, natV i] ∧ i < m ∧ Q .non H
theorem ok_chkA (W1 : Df P w K mg base "is_node" 2 ["thing", "many"] spIsN) (a : At K mg "check_among" s_check_among) : Df P w K mg base "check_among" 3 ["many", "node"] spChkA := by
  refine Df.mk' a sc_chkA (fun vs H Q E h => ?_) (fun _ _ _ _ _ _ us hl => match us, hl with | [_, _], _ => rfl) (fun f cdv A outer s H vs Q E hr h => ?_)
  · obtain ⟨i, m, rfl, _⟩ := h
    rfl
  obtain ⟨i, m, rfl, hi, q⟩ := h
  refine ⟨_, (pss_one (ps_if (pt_not (pt_val (pe_df W1 hr (pa_cons (pv 1) (pa_cons (pv 0) pa_nil))))) (pss_one ps_never) pss_nil)), ?_⟩
  exact ⟨_, rfl, _, rfl, i, m, rfl, hi, true, rfl, iteF q⟩
end
end HSP
namespace HSP
open PySem PySem.Spec PyProof.Rows L2
/-! ## defs that are also called by name, the names the other way round -/
structure DfB (P : Program) (w : World) (K : PySem.W.Frag) (mg : Str → Option Value) (base : Heap) (x : Str) (n : Nat) (ps ks : List Str) (sp : Sp) : Prop where
  ex : ∃ (f : Addr) (fd : FuncData), mg x = some (.ref f) ∧ PySem.W.keepIn K (.ref f) = true ∧ Binds K fd ps [] ∧ KBn K fd ps 0 ks (fun _ ws => ws.reverse) (fun _ zs => zs.reverse) ∧ FnOk P w K mg base CX0 n f fd ps sp
section
variable {P : Program} {w : World} {K : PySem.W.Frag} {mg : Str → Option Value} {base : Heap}
theorem DfB.df {x : Str} {n : Nat} {ps ks : List Str} {sp : Sp} (D : DfB P w K mg base x n ps ks sp) : Df P w K mg base x n ps sp := by
  obtain ⟨f, fd, h1, h2, h3, _, h5⟩ := D.ex
  exact ⟨f, fd, h1, h2, h3, h5⟩
theorem Vals.rev {vs : List V} {us : List Value} (r : Vals vs us) : Vals vs.reverse us.reverse := by
  induction r with
  | nil => exact .nil
  | cons h t ih =>
    rw [List.reverse_cons, List.reverse_cons]
    exact ih.append (.cons h .nil)
theorem DfB.mk' {x : Str} {st : Stmt} {N ps ks : List Str} {k : Nat} {sp : Sp} (a : At K mg x st) (S : FnScope N ps (defScope st)) (len : ∀ vs H Q E, sp vs H Q E → vs.length = ps.length)
    (hb : ∀ (kV doc pm : Value) (an : Option Addr) (cdv ct : Value) (us : List Value), us.length = ps.length → bindArgs (PySem.W.fnOf x x (defArgs st) (defBody st) (defScope st) .none kV doc pm an cdv ct) ⟨us, []⟩ = pure (ps.zip us))
    (hk : ∀ (kV doc pm : Value) (an : Option Addr) (cdv ct : Value) (ws : List Value), ws.length = ks.length → bindArgs (PySem.W.fnOf x x (defArgs st) (defBody st) (defScope st) .none kV doc pm an cdv ct) ⟨[], ks.zip ws⟩ = pure (ps.zip ws.reverse))
    (body : ∀ (f : Addr) (cdv : Value) (A : Around) (outer : List Env) (s : Shared) (H : Hp) (vs : List V) (Q : VK) (E : XK), Room k (A.deeper (envOfC x (defScope st) s.heap.objs.size f cdv)) → sp vs H Q E →
      ∃ t, PSs (cxOf CX0 P w K mg base N x (defScope st) f cdv A outer s H E).nox (defBody st) t ∧ t { nx := fun _ H' => Q .non H', rt := Q } (start N vs) H) : DfB P w K mg base x (k + 1) ps ks sp := by
  obtain ⟨f, fd, hm, F⟩ := a
  refine ⟨f, fd, hm, F.kp, F.binds hb, ⟨fun s us ws _ h1 h2 => ?_, fun _ r => HSP.Vals.rev r⟩, F.ok S len (body f)⟩
  obtain ⟨oc, od, kV, doc, pm, an, cdv, ct, osl, rfl, _⟩ := F.ex
  rw [List.length_eq_zero_iff.mp h1]
  exact .of_eq (hk kV doc pm an cdv ct ws h2)
end
section
variable {X : Cx} {k : Nat} {ps ks : List Str} {sp : Sp} {x : Str} {p pos : Pos} {kws : List Keyword} {tk : TA}
theorem pe_dfK (D : DfB X.prog X.w X.K X.mg X.base x k ps ks sp) (hr : Room k X.A) (hkw : PK X kws tk) (hg : Gl X x := by rfl) (hall : (backToKw pos (keywordEach kws X.env)).all (·.1.isSome) = true := by rfl) (hks : (backToKw pos (keywordEach kws X.env)).filterMap (·.1) = ks := by rfl)
    (hdb : (x == ("__debug__" : Str)) = false := by decide) (hpl : (backToKw pos (keywordEach kws X.env)).any (·.1.isNone) = false := by rfl) : PE X (.Call (.Name x p) [] kws pos) (tCallN 0 ks.length sp (fun _ zs => zs.reverse) E0 tNil tk) := by
  obtain ⟨f, fd, hm, hk, _, kb, F⟩ := D.ex
  exact pe_callK0 F hr hg hm hk kb pass0 hkw hall hks hdb hpl
end
end HSP
namespace HSP
open PySem PySem.Spec PyProof.Rows L2
section
variable {P : Program} {w : World} {K : PySem.W.Frag} {mg : Str → Option Value} {base : Heap}
/-! ### hidden_by -/
theorem sc_hidden_by : FnScope n_hidden_by ["values", "node"] (defScope s_hidden_by) := ⟨rfl, rfl, rfl, by decide +kernel, rfl, by decide +kernel, by decide +kernel⟩
def spHidden : Sp := fun vs H Q _ => ∃ (a : Addr) (ns : List Int) (i : Nat), vs = [.ref a, natV i] ∧ H a = some (.lst (ns.map V.int)) ∧ i < ns.length ∧ ∀ H', Same H H' → Q (optNV (hid (valAt ns) ns.length i)) H'
theorem ok_hidden (B : Bl mg) (R : Df P w K mg base "check_row" 2 ["row"] spChkR) (Am : Df P w K mg base "check_among" 3 ["many", "node"] spChkA) (a : At K mg "hidden_by" s_hidden_by) :
    DfB P w K mg base "hidden_by" 4 ["values", "node"] ["node", "values"] spHidden := by
  refine DfB.mk' a sc_hidden_by (fun vs H Q E h => ?_) (fun _ _ _ _ _ _ us hl => match us, hl with | [_, _], _ => rfl) (fun _ _ _ _ _ _ us hl => match us, hl with | [_, _], _ => rfl) (fun f cdv A outer s H vs Q E hr h => ?_)
  · obtain ⟨a, ns, i, rfl, _⟩ := h
    rfl
  obtain ⟨a, ns, i, rfl, ha, hi, q⟩ := h
  refine ⟨_, (pss_cons (ps_expr (pe_df R (hr.mono (by decide)) (pa_cons (pv 0) pa_nil)))
 (pss_cons (ps_expr (pe_df Am hr (pa_cons (pe_callB call_len_seq (by rfl) B.len PySem.boot_len (pa_cons (pv 0) pa_nil)) (pa_cons (pv 1) pa_nil))))
 (pss_cons (ps_for PassesOwn.never rfl (pi_enum (by rfl) B.enumerate (pa_cons (pv 0) pa_nil)) (pg_tup rfl (pgs_cons (pg_name (i := 2) sc_hidden_by.nd rfl (.inl rfl)) (pgs_cons (pg_name (i := 3) sc_hidden_by.nd rfl (.inl rfl)) pgs_nil))) (pss_one (ps_if (PW.pt (pw_or (PW.pt (pw_and (pt_cmpR op_lt (pv 2) (pv 1) (nomark _)) (pw_and1 (pt_cmpR op_ge (pv 3) (pe_ix ix_list (pv 0) (pv 1) (fun _ _ => rfl)) (nomark _))))) (pw_or1 (PW.pt (pw_and (pt_cmpR op_gt (pv 2) (pv 1) (nomark _)) (pw_and1 (pt_cmpR op_le (pv 3) (pe_ix ix_list (pv 0) (pv 1) (fun _ _ => rfl)) (nomark _)))))))) (pss_one (ps_ret (pv 2))) pss_nil)))
 (pss_one (ps_ret pe_non))))), ?_⟩
  refine ⟨_, rfl, a, ns, rfl, ha, fun H1 s1 => ?_⟩
  refine ⟨_, rfl, a, _, rfl, .inl (.of (s1 _ _ ha)), _, rfl, i, (ns.map V.int).length, rfl, by rw [List.length_map]; exact hi, ?_⟩
  refine ⟨.ref a, rfl, a, ns.map V.int, rfl, .of (s1 _ _ ha), ?_⟩
  refine for_it (walk_enum (K := K) (a := a) (xs := ns.map V.int)) (fun j σ H3 => Same H H3 ∧ (∀ k, k < j → hides (valAt ns) i k = false) ∧ ∃ y2 y3, σ = [some (.ref a), some (natV i), y2, y3]) ⟨s1, fun k hk => absurd hk (Nat.not_lt_zero k), none, none, rfl⟩ (fun j σ H3 _ h3 => .of (h3.1 _ _ ha)) (fun j x σ H3 H4 hj h3 hy => ?_) (fun σ H3 h3 => ?_)
  · obtain ⟨s3, no, y2, y3, rfl⟩ := h3
    obtain ⟨p, x1, x2, rfl, np, rfl, ex1, ex2⟩ := hy
    rw [List.length_map] at hj
    cases (valAt_get hj).symm.trans ex2
    cases (show some (V.int ((j : Nat) : Int)) = some x1 from ex1)
    have s4 := s3.trans (Same.new (o := .tup [V.int ((j : Nat) : Int), V.int (valAt ns j)]) np)
    refine ⟨p, _, rfl, .of upd_same, rfl, _, _, rfl, _, [], rfl, rfl, ?_⟩
    have ret : hides (valAt ns) i j = true → Q (V.int ((j : Nat) : Int)) (upd H3 p (.tup [V.int ((j : Nat) : Int), V.int (valAt ns j)])) := fun h => by
      have z := q _ s4
      rw [hid_some hj h no] at z
      exact z
    have nxt : hides (valAt ns) i j = false → ∀ k, k < j + 1 → hides (valAt ns) i k = false := fun h k hk => by
      by_cases c : k = j
      · rw [c]; exact h
      · exact no k (by omega)
    have ha4 := s4 _ _ ha
    have unf : hides (valAt ns) i j = ((decide (j < i) && decide (valAt ns i ≤ valAt ns j)) || (decide (i < j) && decide (valAt ns j ≤ valAt ns i))) := rfl
    generalize upd H3 p (.tup [V.int ((j : Nat) : Int), V.int (valAt ns j)]) = H5 at s4 ret ha4 ⊢
    have item := at_of (z := (i : Int)) (j := i) rfl (valAt_get (ns := ns) hi)
    by_cases c1 : j < i
    · refine ⟨_, rfl, _, rfl, _, _, rfl, rfl, _, rfl, ite_yes (by omega) ?_⟩
      refine ⟨_, rfl, _, rfl, _, rfl, a, _, _, _, rfl, rfl, .of ha4, item, _, _, rfl, rfl, _, rfl, ite2 (fun c => ?_) (fun c => ?_)⟩
      · have c2 : valAt ns i ≤ valAt ns j := of_decide_eq_true c
        exact ⟨_, rfl, ret (by rw [unf, decide_eq_true c1, decide_eq_true c2]; rfl)⟩
      · have c2 : ¬ valAt ns i ≤ valAt ns j := fun z => c (decide_eq_true z)
        refine ⟨_, rfl, _, rfl, _, _, rfl, rfl, _, rfl, ite_no (by omega) ?_⟩
        exact ⟨s4, nxt (by rw [unf, decide_eq_false c2, decide_eq_false (show ¬ i < j by omega), Bool.and_false]; rfl), _, _, rfl⟩
    · refine ⟨_, rfl, _, rfl, _, _, rfl, rfl, _, rfl, ite_no (by omega) ?_⟩
      by_cases c3 : i < j
      · refine ⟨_, rfl, _, rfl, _, _, rfl, rfl, _, rfl, ite_yes (by omega) ?_⟩
        refine ⟨_, rfl, _, rfl, _, rfl, a, _, _, _, rfl, rfl, .of ha4, item, _, _, rfl, rfl, _, rfl, ite2 (fun c => ?_) (fun c => ?_)⟩
        · have c2 : valAt ns j ≤ valAt ns i := of_decide_eq_true c
          exact ⟨_, rfl, ret (by rw [unf, decide_eq_false c1, decide_eq_true c3, decide_eq_true c2]; rfl)⟩
        · have c2 : ¬ valAt ns j ≤ valAt ns i := fun z => c (decide_eq_true z)
          exact ⟨s4, nxt (by rw [unf, decide_eq_false c1, decide_eq_false c2, Bool.and_false]; rfl), _, _, rfl⟩
      · refine ⟨_, rfl, _, rfl, _, _, rfl, rfl, _, rfl, ite_no (by omega) ?_⟩
        exact ⟨s4, nxt (by rw [unf, decide_eq_false c1, decide_eq_false c3]; rfl), _, _, rfl⟩
  · obtain ⟨s3, no, y2, y3, rfl⟩ := h3
    rw [List.length_map] at no
    have z := q _ s3
    rw [hid_none no] at z
    exact z
end
end HSP
namespace HSP
open PySem PySem.Spec PyProof.Rows L2
theorem DrAt.neOf {H : Hp} {p q : Addr} {k : Nat} {ns : List Int} (d : DrAt H p k) (e : H q = some (.lst (ns.map V.int))) : q ≠ p := fun z => by
  obtain ⟨n, j, b, e2, _⟩ := d
  rw [z, e2] at e
  have h := HO.lst.inj (Option.some.inj e)
  match ns, h with
  | [], h => exact absurd (congrArg List.length h) (by simp)
  | [_], h => exact absurd (congrArg List.length h) (by simp)
  | [_, _], h => exact absurd (congrArg List.length h) (by simp)
  | _ :: _ :: z :: _, h => exact absurd (congrArg (fun l => l[2]?) h) (by simp)
theorem DrAt.put {H : Hp} {p q : Addr} {k : Nat} {o : HO} (d : DrAt H p k) (n : q ≠ p) : DrAt (upd H q o) p k := by
  obtain ⟨z, j, b, e, l⟩ := d
  exact ⟨z, j, b, by rw [upd_ne n.symm]; exact e, l⟩
/-- a place that was not tracked at first may be written -/
theorem Keep.put {p q : Addr} {H H1 : Hp} {o : HO} (h : H q = none) (k : Keep p H H1) : Keep p H (upd H1 q o) := fun b u n e => by
  rw [upd_ne (ne_of_none e h)]
  exact k b u n e
/-- a value drawn is near 0 -/
def Near (ns : List Int) : Prop := ∀ v, v ∈ ns → -1000001 ≤ v ∧ v ≤ 1000001
theorem Near.nil : Near [] := fun _ h => by cases h
theorem Near.snoc {ns : List Int} {v : Int} (h : Near ns) (h1 : -1000001 ≤ v ∧ v ≤ 1000001) : Near (ns ++ [v]) := fun x hx => by
  rcases List.mem_append.mp hx with z | z
  · exact h x z
  · rw [List.mem_singleton.mp z]
    exact h1
theorem Near.set {ns : List Int} {v : Int} {i : Nat} (h : Near ns) (h1 : -1000001 ≤ v ∧ v ≤ 1000001) : Near (ns.set i v) := fun x hx => by
  rcases List.mem_or_eq_of_mem_set hx with z | z
  · exact h x z
  · rw [z]
    exact h1
theorem near_of {r sp : Int} (h0 : 0 ≤ sp) (h1 : sp ≤ 1000000) : -1000001 ≤ r % (sp + 1) - sp / 2 ∧ r % (sp + 1) - sp / 2 ≤ 1000001 := by
  have a1 := Int.emod_nonneg r (show sp + 1 ≠ 0 by omega)
  have a2 := Int.emod_lt_of_pos r (show (0 : Int) < sp + 1 by omega)
  omega
end HSP
namespace HSP
open PySem PySem.Spec PyProof.Rows L2
/-! ## what the laws' right sides share -/
theorem Mid.of {ns : List Int} (h : Near ns) : Mid ns := fun v hv => by
  have := h v hv
  omega
def spRight : Sp := fun vs H Q _ => ∃ (p : Addr) (k : Nat), vs = [.ref p] ∧ DrAt H p k ∧ k ≤ 1000 ∧ ∀ H' : Hp, Keep p H H' → DrAt H' p (k + 200) → Q (.bl true) H'
end HSP
namespace HSP
open PySem PySem.Spec PyProof.Rows L2
theorem scal_opt (o o2 : Option Nat) : scal (optNV o) (optNV o2) = true := by
  cases o <;> cases o2 <;> rfl
theorem opt_non (o : Option Nat) : decide (optNV o = V.non) = o.isNone := by
  cases o with
  | none => exact decide_eq_true rfl
  | some n => exact decide_eq_false fun z => by cases z
section
variable {P : Program} {w : World} {K : PySem.W.Frag} {mg : Str → Option Value} {base : Heap}
def spRootsH : Sp := fun vs H Q _ => ∃ (a s : Addr) (ns : List Int) (i : Nat), vs = [.ref a, .ref s, natV i] ∧ H a = some (.lst (ns.map V.int)) ∧ TreesAt H s (shapesOf ns.length) ∧ ns.length < 6 ∧ i < ns.length ∧ ∀ H', Same H H' → Q (optNV (hid (valAt ns) ns.length i)) H'
theorem rootsH {n : Nat} {ps : List Str} (R : Df P w K mg base "_law_by_roots" n ps spRoots) : Df P w K mg base "_law_by_roots" n ps spRootsH :=
  R.imp fun vs H Q E ⟨a, s, ns, i, e, ha, hs, n6, hi, q⟩ => ⟨a, s, ns, shapesOf ns.length, i, e, ha, hs, shapes_le n6, n6, fun _ ht => shapes_size ht, hi, fun H' sm => by rw [roots_hid hi]; exact q H' sm⟩
theorem sc_law_right : FnScope n_law_right ["draws"] (defScope s_law_right) := ⟨rfl, rfl, rfl, by decide +kernel, rfl, by decide +kernel, by decide +kernel⟩
theorem ok_right (B : Bl mg) (N : Df P w K mg base "_law_next" 1 ["draws"] spNext) (Sh : Df P w K mg base "_law_all_shapes" 6 ["nodes"] (spShapes 6)) (Ro0 : Df P w K mg base "_law_by_roots" 8 ["a_values", "shapes", "a_node"] spRoots) (En : Df P w K mg base "_law_ended" 7 p_law_ended (spEnded 6)) (Hb : DfB P w K mg base "hidden_by" 4 ["values", "node"] ["node", "values"] spHidden)
    (a : At K mg "_law_right" s_law_right) : DfG P w K mg base "_law_right" 9 ["draws"] spRight := by
  have Ro := rootsH Ro0
  refine DfG.mk' a sc_law_right (fun vs H Q E h => ?_) (fun _ _ _ _ _ _ us hl => match us, hl with | [_], _ => rfl) (fun f cdv A outer s H vs Q E hg hr h => ?_)
  · obtain ⟨p, k, rfl, _⟩ := h
    rfl
  obtain ⟨p, k, rfl, hd, hk, q⟩ := h
  refine ⟨_, (pss_cons (ps_set (i := 1) sc_law_right.nd rfl (.inl rfl) (pe_op op_mod (pe_callTy call_int1 (by rfl) B.int (by decide +kernel) (pa_cons (pe_df N (hr.mono (by decide)) (pa_cons (pv 0) pa_nil)) pa_nil)) pe_int))
 (pss_cons (ps_set (i := 3) sc_law_right.nd rfl (.inr rfl) (pe_lc (own := [("k", 2)]) (g := (gName 2)) (tt := tYes) (by rfl) sc_law_right.nd (pi_range1 (by rfl) B.range (pa_cons (pv 1) pa_nil)) (blkOk_by (N := n_law_right) (sc := defScope s_law_right) (by decide +kernel)) (fun _ _ _ _ _ => (pg_name (i := 2) sc_law_right.nd rfl (.inl rfl))) (fun _ _ _ _ _ => pts_nil) (fun _ _ _ _ _ => (pe_op op_mod (pe_callTy call_int1 (by rfl) B.int (by decide +kernel) (pa_cons (pe_df N (hr.mono (by decide)) (pa_cons (pv 0) pa_nil)) pa_nil)) pe_int))))
 (pss_cons (ps_set (i := 4) sc_law_right.nd rfl (.inl rfl) (pe_df Sh (hr.mono (by decide)) (pa_cons (pv 1) pa_nil)))
 (pss_cons (ps_for PassesOwn.never rfl (pi_range1 (by rfl) B.range (pa_cons (pv 1) pa_nil)) (pg_name (i := 5) sc_law_right.nd rfl (.inr rfl)) (pss_cons (ps_set (i := 6) sc_law_right.nd rfl (.inl rfl) (pe_df Ro hr (pa_cons (pv 3) (pa_cons (pv 4) (pa_cons (pv 5) pa_nil)))))
 (pss_cons (ps_set (i := 7) sc_law_right.nd rfl (.inl rfl) (pe_cmpR (op_eqD hr.units) (pe_lc (own := [("shape", 10)]) (g := (gName 10)) (by rfl) sc_law_right.nd (pi_list (pv 4)) (blkOk_by (N := n_law_right) (sc := defScope s_law_right) (by decide +kernel)) (fun _ _ _ _ _ => (pg_name (i := 10) sc_law_right.nd rfl (.inl rfl))) (fun _ _ _ _ _ => (pts_one (pt_cmpR (show OpR _ (compareOp .NotEq) (rNeD K) from op_neD hr.units) (pe_df En (hr.mono (by decide)) (pa_cons (pv 10) (pa_cons (pv 3) (pa_cons (pe_op op_mul pe_int (pe_ix (show IxR _ (rIxL K) from ix_list) (pv 3) (pv 5) (fun _ _ => rfl))) pa_nil)))) (pe_tup (pa_cons pe_str (pa_cons (pv 5) pa_nil))) (nomark _)))) (fun _ _ _ _ _ => (pv 10))) (pe_lst pa_nil) (nomark _)))
 (pss_one (ps_if (PW.pt (pw_or (pt_cmpR op_ne (pe_df Hb.df (hr.mono (by decide)) (pa_cons (pv 3) (pa_cons (pv 5) pa_nil))) (pv 6) (nomark _)) (pw_or (pt_cmpR op_ne (pe_cmpR op_isN (pv 6) pe_non (nomark _)) (pv 7) (nomark _)) (pw_or1 (pt_cmpR op_ne (pe_dfK Hb (hr.mono (by decide))  (pk_cons (pv 5) (pk_cons (pv 3) pk_nil))) (pv 6) (nomark _)))))) (pss_one (ps_ret pe_bl)) pss_nil)))))
 (pss_cons (ps_set (i := 3) sc_law_right.nd rfl (.inr rfl) (pe_callB cr_sortedI (by rfl) B.sorted (by decide +kernel) (pa_cons (pe_lc (own := [("k", 2)]) (g := (gName 2)) (tt := tYes) (by rfl) sc_law_right.nd (pi_range1 (by rfl) B.range (pa_cons (pe_op op_mod (pe_callTy call_int1 (by rfl) B.int (by decide +kernel) (pa_cons (pe_df N (hr.mono (by decide)) (pa_cons (pv 0) pa_nil)) pa_nil)) pe_int) pa_nil)) (blkOk_by (N := n_law_right) (sc := defScope s_law_right) (by decide +kernel)) (fun _ _ _ _ _ => (pg_name (i := 2) sc_law_right.nd rfl (.inl rfl))) (fun _ _ _ _ _ => pts_nil) (fun _ _ _ _ _ => (pe_op op_mod (pe_callTy call_int1 (by rfl) B.int (by decide +kernel) (pa_cons (pe_df N (hr.mono (by decide)) (pa_cons (pv 0) pa_nil)) pa_nil)) pe_int))) pa_nil)))
 (pss_cons (ps_for PassesOwn.never rfl (pi_range1 (by rfl) B.range (pa_cons (pe_op op_mod (pe_callTy call_int1 (by rfl) B.int (by decide +kernel) (pa_cons (pe_df N (hr.mono (by decide)) (pa_cons (pv 0) pa_nil)) pa_nil)) pe_int) pa_nil)) (pg_name (i := 2) sc_law_right.nd rfl (.inl rfl)) (pss_one (ps_if (pt_cmpR (op_neD hr.units) (pv 3) (pe_lst pa_nil) (nomark _)) (pss_one (ps_asg (pe_op op_mod (pe_callTy call_int1 (by rfl) B.int (by decide +kernel) (pa_cons (pe_df N (hr.mono (by decide)) (pa_cons (pv 0) pa_nil)) pa_nil)) pe_int) (pg_sub (pv 3) (pe_op op_mod (pe_callTy call_int1 (by rfl) B.int (by decide +kernel) (pa_cons (pe_df N (hr.mono (by decide)) (pa_cons (pv 0) pa_nil)) pa_nil)) (pe_callB call_len_seq (by rfl) B.len PySem.boot_len (pa_cons (pv 3) pa_nil))) set_list))) pss_nil)))
 (pss_cons (ps_for PassesOwn.never rfl (pi_enum (by rfl) B.enumerate (pa_cons (pv 3) pa_nil)) (pg_tup rfl (pgs_cons (pg_name (i := 5) sc_law_right.nd rfl (.inr rfl)) (pgs_cons (pg_name (i := 8) sc_law_right.nd rfl (.inr rfl)) pgs_nil))) (pss_cons (ps_setLc (i := 6) (own := [("other", 9)]) (g := (gName 9)) (by rfl) sc_law_right.nd rfl rfl (sw_true rfl rfl rfl (by decide +kernel)) (pi_range1 (by rfl) B.range (pa_cons (pv 5) pa_nil)) (blkOk_by (N := n_law_right) (sc := defScope s_law_right) (by decide +kernel)) (fun _ _ _ _ _ => (pg_name (i := 9) sc_law_right.nd rfl (.inl rfl))) (fun _ _ _ _ _ => (pts_one (pt_cmpR op_ge (pe_ix (show IxR _ (rIxL K) from ix_list) (pv 3) (pv 9) (fun _ _ => rfl)) (pv 8) (nomark _)))) (fun _ _ _ _ _ => (pv 9)))
 (pss_cons (ps_set (i := 6) sc_law_right.nd rfl (.inl rfl) (pe_op op_cat (pe_op op_cat (pv 6) (pe_lc (own := [("other", 9)]) (g := (gName 9)) (by rfl) sc_law_right.nd (pi_range2 (by rfl) B.range (pa_cons (pe_op op_add (pv 5) pe_int) (pa_cons (pe_callB call_len_seq (by rfl) B.len PySem.boot_len (pa_cons (pv 3) pa_nil)) pa_nil))) (blkOk_by (N := n_law_right) (sc := defScope s_law_right) (by decide +kernel)) (fun _ _ _ _ _ => (pg_name (i := 9) sc_law_right.nd rfl (.inl rfl))) (fun _ _ _ _ _ => (pts_one (pt_cmpR op_le (pe_ix (show IxR _ (rIxL K) from ix_list) (pv 3) (pv 9) (fun _ _ => rfl)) (pv 8) (nomark _)))) (fun _ _ _ _ _ => (pv 9)))) (pe_lst (pa_cons pe_non pa_nil))))
 (pss_one (ps_if (pt_cmpR op_ne (pe_df Hb.df (hr.mono (by decide)) (pa_cons (pv 3) (pa_cons (pv 5) pa_nil))) (pe_ix ix_list (pv 6) pe_int (fun _ _ => rfl)) (nomark _)) (pss_one (ps_ret pe_bl)) pss_nil)))))
 (pss_one (ps_ret pe_bl))))))))), ?_⟩
  have zero : 0 ≤ sizeLine := by show 0 ≤ sizeLine; decide
  have one : 1 ≤ sizeLine := by show 1 ≤ sizeLine; decide
  have two : 2 ≤ sizeLine := by show 2 ≤ sizeLine; decide
  -- nodes, the values
  refine ⟨_, rfl, p, k, rfl, hd, by omega, fun H1 r1 kp1 d1 a1 a2 => .inl ⟨_, rfl, _, _, rfl, rfl, (by show (0 : Int) < 6; decide), ?_⟩⟩
  have m1 := Int.emod_nonneg r1 (show (6 : Int) ≠ 0 by decide)
  have m2 := Int.emod_lt_of_pos r1 (show (0 : Int) < 6 by decide)
  refine ⟨_, rfl, _, rfl, by omega, by omega, fun D hD => ?_⟩
  have nDp : D ≠ p := d1.ne hD
  have nD0 : H D = none := by
    cases e : H D with
    | none => rfl
    | some o => cases hD.symm.trans (kp1 D o nDp e)
  refine lc_range (lo := 0) (n := (r1 % 6).toNat) (fun i H' => ∃ ns : List Int, Keep p H H' ∧ DrAt H' p (k + 1 + i) ∧ H' D = some (.lst (ns.map V.int)) ∧ ns.length = i) ⟨[], kp1.trans (Keep.new hD), d1.same (Same.new hD), upd_same, rfl⟩ (fun i H2 hi h2 => ?_) (fun H2 h2 => ?_)
  · obtain ⟨ns, kp2, d2, e2, l2⟩ := h2
    refine ⟨rfl, ?_⟩
    refine ⟨_, rfl, p, k + 1 + i, rfl, d2, by omega, fun H3 r2 kp3 d3 b1 b2 => .inl ⟨_, rfl, _, _, rfl, rfl, (by show (0 : Int) < 7; decide), _, kp3 D _ nDp e2, ?_, ?_⟩⟩
    · rw [List.length_map]
      exact small1000 (by omega)
    · refine ⟨ns ++ [r2 % 7], Keep.put nD0 (kp2.trans kp3), d3.put nDp, ?_, ?_⟩
      · rw [upd_same, List.map_append]
        rfl
      · rw [List.length_append, List.length_singleton, l2]
  obtain ⟨ns, kp2, d2, e2, l2⟩ := h2
  have em : r1 % 6 = ((ns.length : Nat) : Int) := by omega
  have n6 : ns.length < 6 := by omega
  -- shapes
  refine ⟨_, rfl, ns.length, congrArg (fun z => [V.int z]) em, n6, n6, fun H3 S s3 nS hS => ?_⟩
  obtain ⟨xs, eS, pS⟩ := hS
  have lS := Paired.length pS
  have few := shapes_le n6
  have e3 := s3 _ _ e2
  have all20 : ∀ t, t ∈ shapesOf ns.length → t.ht < 6 := fun t ht => by
    have h1 := shapes_size ht
    have h2 := t.ht_le
    omega
  refine ⟨_, rfl, _, rfl, by omega, by omega, for_range (lo := 0) (n := (r1 % 6).toNat) (fun i σ H' => ∃ y5 y6 y7 : Option V, σ = [some (.ref p), some (.int (r1 % 6)), none, some (.ref D), some (.ref S), y5, y6, y7, none, none, none] ∧ Same H3 H') ⟨none, none, none, rfl, Same.refl _⟩ (fun i σ H4 hi h4 => ?_) (fun σ H4 h4 => ?_)⟩
  · obtain ⟨y5, y6, y7, rfl, s4⟩ := h4
    have hi2 : i < ns.length := by omega
    have ei : V.int (0 + (i : Int)) = natV i := congrArg V.int (by omega)
    have e4 := s4 _ _ e3
    have eS4 := s4 _ _ eS
    have pS4 := Paired.mapP pS fun v t h => h.same s4
    refine ⟨_, rfl, _, rfl, _, rfl, D, S, ns, i, congrArg (fun z => [V.ref D, V.ref S, z]) ei, e4, ⟨xs, eS4, pS4⟩, n6, hi2, fun H5 s5 => ?_⟩
    have e5 := s5 _ _ e4
    have eS5 := s5 _ _ eS4
    have pS5 := Paired.mapP pS4 fun v t h => h.same s5
    -- every
    refine ⟨_, rfl, S, rfl, ⟨_, .of eS5⟩, fun C hC => ?_⟩
    have sC := Same.new (o := .lst []) hC
    refine lc_list (xs := xs) (fun k H6 => Same H5 H6 ∧ ∃ zs : List V, H6 C = some (.lst zs) ∧ zs.length ≤ k ∧ Paired (fun v t => TrAt H6 v t) zs (((shapesOf ns.length).take k).filter fun t => !hits (valAt ns) i t)) ⟨sC, [], upd_same, Nat.le_refl _, .nil⟩ (fun k H6 _ h6 => .of (h6.1 _ _ eS5)) (fun k x H6 hx h6 => ?_) (fun H6 h6 => ?_)
    · obtain ⟨s6, zs, e6, l6, p6⟩ := h6
      obtain ⟨t, ht, htx⟩ := Paired.getL pS5 hx
      have hk := (List.getElem?_eq_some_iff.mp hx).1
      have tz := shapes_size (List.mem_of_getElem? ht)
      have htx6 := htx.same s6
      refine ⟨rfl, ?_⟩
      rw [List.take_add_one, ht, List.filter_append]
      refine ⟨_, rfl, _, rfl, _, rfl, _, rfl, D, _, _, _, rfl, rfl, .of (s6 _ _ e5), at_of (z := 0 + (i : Int)) (j := i) (by omega) (valAt_get hi2), _, _, rfl, rfl, .inl ⟨by decide, by decide⟩, x, t, D, ns, _, rfl, htx6, all20 t (List.mem_of_getElem? ht), s6 _ _ e5, by omega, fun H7 e s7 n7 e7 => ?_⟩
      refine ⟨_, rfl, two, fun T hT => ?_⟩
      have sT := Same.new (o := .tup [V.str "found", V.int (0 + (i : Int))]) hT
      have small : (sEnd (valAt ns) (2 * valAt ns i) .fin t 0).2 < 1000000 := by
        have h1 := sEnd_le (valAt ns) (2 * valAt ns i) .fin t 0
        omega
      have eT : (upd H7 T (.tup [V.str "found", V.int (0 + (i : Int))])) T = some (.tup [V.str "found", natV i]) := by rw [upd_same, ei]
      refine ⟨rowD (endRow (sEnd (valAt ns) (2 * valAt ns i) .fin t 0)), rowD [V.str "found", natV i], row_dp (sT _ _ e7) (endRow_plain small), row_dp eT (found_plain (by omega)), row_shaped (endRow_plain small), row_shaped (found_plain (by omega)), _, rfl, ?_⟩
      rw [end_eqv]
      have s67 := s7.trans sT
      have e8 := s67 _ _ e6
      have p8 := Paired.mapP p6 fun v t h => h.same s67
      have ht8 := htx6.same s67
      have s58 := s6.trans s67
      generalize upd H7 T (.tup [V.str "found", V.int (0 + (i : Int))]) = H8 at e8 p8 ht8 s58 ⊢
      have eh : decide (sEnd (valAt ns) (2 * valAt ns i) .fin t 0 = (true, i)) = hits (valAt ns) i t := rfl
      rw [eh]
      have ef : (some t).toList.filter (fun t => !hits (valAt ns) i t) = if (!hits (valAt ns) i t) = true then [t] else [] := by
        show (t :: []).filter _ = _
        rw [List.filter_cons]
        rfl
      rw [ef]
      cases eb : (!hits (valAt ns) i t) with
      | true =>
        refine iteT ⟨_, rfl, zs, e8, ?_, ?_⟩
        · show zs.length < 16777216
          omega
        refine ⟨fun b o eb => ?_, zs ++ [x], upd_same, by rw [List.length_append, List.length_singleton]; omega, ?_⟩
        · rw [upd_ne (ne_of_none eb hC)]
          exact s58 _ _ eb
        · rw [if_pos rfl]
          exact Paired.app (Paired.mapP p8 fun v t h => h.put e8) (.cons (ht8.put e8) .nil)
      | false =>
        refine iteF ⟨s58, zs, e8, by omega, ?_⟩
        rw [if_neg Bool.false_ne_true, List.append_nil]
        exact p8
    obtain ⟨s6, zs, e6, l6, p6⟩ := h6
    rw [lS, List.take_length] at p6
    refine ⟨zero, fun Z hZ => ?_⟩
    have sZ := Same.new (o := .lst []) hZ
    have shp : SeqAt.shaped (treesD ((shapesOf ns.length).filter fun t => !hits (valAt ns) i t)) = true := treesD_shaped fun t ht => by
      have := all20 t (List.mem_filter.mp ht).1
      omega
    refine ⟨treesD ((shapesOf ns.length).filter fun t => !hits (valAt ns) i t), treesD [], .lst (.of (sZ _ _ e6)) (trees_dp (Paired.mapP p6 fun v t h => h.same sZ)), .lst (.of upd_same) .nil, shp, treesD_shaped (fun t ht => by cases ht), ?_⟩
    have sF := s5.trans (s6.trans sZ)
    have e7 := sF _ _ e4
    have s37 := s4.trans sF
    generalize upd H6 Z (.lst []) = H7 at e7 s37 ⊢
    refine ⟨_, rfl, _, rfl, D, ns, i, congrArg (fun z => [V.ref D, z]) ei, e7, hi2, fun H8 s8 => ?_⟩
    refine ⟨_, rfl, scal_opt _ _, _, rfl, ?_⟩
    rw [decide_eq_true rfl]
    refine iteF ?_
    refine ⟨_, rfl, rfl, _, rfl, rfl, _, rfl, ?_⟩
    rw [opt_non, trees_nil, every_hid hi2, decide_eq_true rfl]
    refine iteF ?_
    refine ⟨_, rfl, _, rfl, rfl, rfl, D, ns, i, congrArg (fun z => [V.ref D, z]) ei, s8 _ _ e7, hi2, fun H9 s9 => ?_⟩
    refine ⟨_, rfl, scal_opt _ _, _, rfl, ?_⟩
    rw [decide_eq_true rfl]
    refine iteF ?_
    exact ⟨_, _, _, rfl, s37.trans (s8.trans s9)⟩
  obtain ⟨y5, y6, y7, rfl, s4⟩ := h4
  have kpB : Keep p H H4 := kp2.trans (.of (s3.trans s4))
  have dB : DrAt H4 p (k + 7) := ((d2.same s3).same s4).mono (by omega)
  clear kp1 kp2 d1 d2 e2 e3 eS pS
  -- a longer list
  refine ⟨_, rfl, p, k + 7, rfl, dB, by omega, fun H5 r5 kp5 d5 a3 a4 => .inl ⟨_, rfl, _, _, rfl, rfl, (by show (0 : Int) < 65; decide), ?_⟩⟩
  have m3 := Int.emod_nonneg r5 (show (65 : Int) ≠ 0 by decide)
  have m4 := Int.emod_lt_of_pos r5 (show (0 : Int) < 65 by decide)
  refine ⟨_, rfl, by omega, by omega, fun D2 hD2 => ?_⟩
  have nD2p : D2 ≠ p := d5.ne hD2
  have kpC := kpB.trans kp5
  have nD20 : H D2 = none := kpC.free nD2p hD2
  refine lc_range (lo := 0) (n := (r5 % 65).toNat) (fun i H' => ∃ es : List Int, Keep p H H' ∧ DrAt H' p (k + 8 + i) ∧ H' D2 = some (.lst (es.map V.int)) ∧ es.length = i) ⟨[], kpC.trans (Keep.new hD2), d5.same (Same.new hD2), upd_same, rfl⟩ (fun i H6 hi h6 => ?_) (fun H6 h6 => ?_)
  · obtain ⟨es, kp6, d6, e6, l6⟩ := h6
    refine ⟨rfl, ?_⟩
    refine ⟨_, rfl, p, k + 8 + i, rfl, d6, by omega, fun H7 r7 kp7 d7 b1 b2 => .inl ⟨_, rfl, _, _, rfl, rfl, (by show (0 : Int) < 200; decide), _, kp7 D2 _ nD2p e6, ?_, ?_⟩⟩
    · rw [List.length_map]
      exact small1000 (by omega)
    · refine ⟨es ++ [r7 % 200], Keep.put nD20 (kp6.trans kp7), d7.put nD2p, ?_, ?_⟩
      · rw [upd_same, List.map_append]
        rfl
      · rw [List.length_append, List.length_singleton, l6]
  obtain ⟨es, kp6, d6, e6, l6⟩ := h6
  refine ⟨D2, es, rfl, .of e6, fun ms M perm srt nM => ?_⟩
  have lM : ms.length ≤ 64 := by
    have := perm.length_eq
    omega
  have nMp : M ≠ p := d6.ne nM
  have nM0 : H M = none := kp6.free nMp nM
  have kp7 : Keep p H (upd H6 M (.lst (ms.map V.int))) := kp6.trans (Keep.new nM)
  have d7 : DrAt (upd H6 M (.lst (ms.map V.int))) p (k + 80) := (d6.same (Same.new nM)).mono (by omega)
  have e7 : (upd H6 M (.lst (ms.map V.int))) M = some (.lst (ms.map V.int)) := upd_same
  generalize upd H6 M (.lst (ms.map V.int)) = H7 at kp7 d7 e7 ⊢
  clear srt perm
  refine ⟨_, rfl, p, k + 80, rfl, d7, by omega, fun H8 r8 kp8 d8 a5 a6 => .inl ⟨_, rfl, _, _, rfl, rfl, (by show (0 : Int) < 4; decide), ?_⟩⟩
  have m5 := Int.emod_nonneg r8 (show (4 : Int) ≠ 0 by decide)
  have m6 := Int.emod_lt_of_pos r8 (show (0 : Int) < 4 by decide)
  refine ⟨_, rfl, by omega, by omega, for_range (lo := 0) (n := (r8 % 4).toNat) (fun i σ H' => ∃ (y2 y5 y6 y7 : Option V) (ms : List Int), σ = [some (.ref p), some (.int (r1 % 6)), y2, some (.ref M), some (.ref S), y5, y6, y7, none, none, none] ∧ Keep p H H' ∧ DrAt H' p (k + 81 + 2 * i) ∧ H' M = some (.lst (ms.map V.int)) ∧ ms.length ≤ 64) ⟨_, _, _, _, ms, rfl, kp7.trans kp8, d8, kp8 M _ nMp e7, lM⟩ (fun i σ H9 hi h9 => ?_) (fun σ H9 h9 => ?_)⟩
  · obtain ⟨y2, y5, y6, y7, ms, rfl, kp9, d9, e9, l9⟩ := h9
    refine ⟨_, rfl, zero, fun Z hZ => ⟨intsD ms, intsD [], .lst (.of (Same.new hZ _ _ e9)) (ints_dpAll _), .lst (.of upd_same) (ints_dpAll []), ints_shaped _, ints_shaped _, _, rfl, ?_⟩⟩
    have sZ := Same.new (o := .lst []) hZ
    have kpZ := kp9.trans (.of sZ)
    have dZ := d9.same sZ
    have eZ := sZ _ _ e9
    generalize upd H9 Z (.lst []) = HZ at kpZ dZ eZ ⊢
    cases ms with
    | nil =>
      rw [show (!PyData.eqv (intsD []) (intsD [])) = false by rw [SeqAt.eqv_refl _ (ints_can0 _)]; rfl]
      exact iteF ⟨_, _, _, _, [], rfl, kpZ, dZ.mono (by omega), eZ, by show 0 ≤ 64; omega⟩
    | cons m0 mr =>
      rw [show (!PyData.eqv (intsD (m0 :: mr)) (intsD [])) = true from rfl]
      refine iteT ?_
      refine ⟨_, rfl, p, k + 81 + 2 * i, rfl, dZ, by omega, fun HA rA kpA dA b1 b2 => .inl ⟨_, rfl, _, _, rfl, rfl, (by show (0 : Int) < 200; decide), ?_⟩⟩
      refine ⟨_, rfl, _, rfl, p, k + 81 + 2 * i + 1, rfl, dA, by omega, fun HB rB kpB dB b3 b4 => .inl ⟨_, rfl, _, rfl, M, _, rfl, .inl (.of (kpB M _ nMp (kpA M _ nMp eZ))), _, _, rfl, rfl, ?_, ?_⟩⟩
      · show (0 : Int) < ((((m0 :: mr).map V.int).length : Nat) : Int)
        rw [List.length_map, List.length_cons]
        omega
      have c1 := Int.emod_nonneg rB (show ((((m0 :: mr).map V.int).length : Nat) : Int) ≠ 0 by rw [List.length_map, List.length_cons]; omega)
      have c2 := Int.emod_lt_of_pos rB (show (0 : Int) < ((((m0 :: mr).map V.int).length : Nat) : Int) by rw [List.length_map, List.length_cons]; omega)
      refine ⟨M, _, _, _, rfl, rfl, kpB M _ nMp (kpA M _ nMp eZ), ixN_in c1 c2, ?_⟩
      refine ⟨_, _, _, _, (m0 :: mr).set (rB % ((((m0 :: mr).map V.int).length : Nat) : Int)).toNat (rA % 200), rfl, Keep.put nM0 (kpZ.trans (kpA.trans kpB)), dB.put nMp, ?_, by rw [List.length_set]; exact l9⟩
      rw [upd_same, List.map_set]
  obtain ⟨y2, y5b, y6b, y7b, ms2, rfl, kp9, d9, e9, l9⟩ := h9
  clear e7
  refine ⟨_, rfl, M, _, rfl, .of e9, ?_⟩
  refine for_it (walk_enum (K := K) (a := M) (xs := ms2.map V.int)) (fun j σ H' => ∃ y5 y6 y8 : Option V, σ = [some (.ref p), some (.int (r1 % 6)), y2, some (.ref M), some (.ref S), y5, y6, y7b, y8, none, none] ∧ Same H9 H') ⟨_, _, _, rfl, Same.refl _⟩ (fun j σ HA _ hA => ?_) (fun j x σ HA HB hj hA hy => ?_) (fun σ HA hA => ?_)
  · obtain ⟨_, _, _, _, sA⟩ := hA
    exact .of (sA _ _ e9)
  · obtain ⟨y5, y6, y8, rfl, sA⟩ := hA
    obtain ⟨T, x1, x2, rfl, nT, rfl, ex1, ex2⟩ := hy
    rw [List.length_map] at hj
    cases (valAt_get hj).symm.trans ex2
    cases (show some (V.int ((j : Nat) : Int)) = some x1 from ex1)
    have sT := sA.trans (Same.new (o := .tup [V.int ((j : Nat) : Int), V.int (valAt ms2 j)]) nT)
    refine ⟨T, _, rfl, .of upd_same, rfl, _, _, rfl, _, [], rfl, rfl, ?_⟩
    have eM := sT _ _ e9
    generalize upd HA T (.tup [V.int ((j : Nat) : Int), V.int (valAt ms2 j)]) = HC at sT eM ⊢
    refine ⟨_, rfl, _, rfl, by omega, by omega, fun D3 hD3 => ?_⟩
    have sD3 := Same.new (o := .lst []) hD3
    refine lc_range (lo := 0) (n := j) (fun c H' => Same HC H' ∧ H' D3 = some (.lst (((List.range c).filter fun c => decide (valAt ms2 c ≥ valAt ms2 j)).map natV))) ⟨sD3, upd_same⟩ (fun c H' hc h' => ?_) (fun HD hD => ?_)
    · obtain ⟨s', e'⟩ := h'
      refine ⟨rfl, ?_⟩
      refine ⟨_, rfl, _, rfl, M, _, _, _, rfl, rfl, .of (s' _ _ eM), at_of (z := 0 + (c : Int)) (j := c) (by omega) (valAt_get (by omega)), _, rfl, _, _, rfl, rfl, _, rfl, ?_⟩
      rw [List.range_succ, List.filter_append]
      have ef : [c].filter (fun c => decide (valAt ms2 c ≥ valAt ms2 j)) = if decide (valAt ms2 c ≥ valAt ms2 j) = true then [c] else [] := by
        rw [List.filter_cons]
        rfl
      rw [ef]
      have lf := List.length_filter_le (fun c => decide (valAt ms2 c ≥ valAt ms2 j)) (List.range c)
      rw [List.length_range] at lf
      refine ite2 (fun d => ?_) (fun d => ?_)
      · rw [if_pos d]
        refine ⟨_, rfl, _, e', ?_, fun b o eb => ?_, ?_⟩
        · rw [List.length_map]
          exact small1000 (by omega)
        · rw [upd_ne (ne_of_none eb hD3)]
          exact s' _ _ eb
        · rw [upd_same, List.map_append]
          exact congrArg (fun z => some (HO.lst (_ ++ [z]))) (congrArg V.int (by omega : 0 + (c : Int) = (c : Int)))
      · rw [if_neg d, List.append_nil]
        exact ⟨s', e'⟩
    obtain ⟨sD, eD⟩ := hD
    have eMD := sD _ _ eM
    have lf1 := List.length_filter_le (fun c => decide (valAt ms2 c ≥ valAt ms2 j)) (List.range j)
    rw [List.length_range] at lf1
    refine ⟨_, rfl, _, rfl, _, _, rfl, rfl, _, rfl, M, _, rfl, .inl (.of eMD), _, _, rfl, ⟨by omega, by omega, by omega, by rw [List.length_map]; omega⟩, fun D4 hD4 => ?_⟩
    have sD4 := Same.new (o := .lst []) hD4
    have nn : ((((ms2.map V.int).length : Nat) : Int) - (((j : Nat) : Int) + 1)).toNat = ms2.length - (j + 1) := by
      rw [List.length_map]
      omega
    refine lc_range (lo := ((j : Nat) : Int) + 1) (n := ((((ms2.map V.int).length : Nat) : Int) - (((j : Nat) : Int) + 1)).toNat) (fun c H' => Same HD H' ∧ H' D4 = some (.lst (((List.range c).filter fun c => decide (valAt ms2 (j + 1 + c) ≤ valAt ms2 j)).map fun c => natV (j + 1 + c)))) ⟨sD4, upd_same⟩ (fun c H' hc h' => ?_) (fun HE hE => ?_)
    · obtain ⟨s', e'⟩ := h'
      rw [nn] at hc
      refine ⟨rfl, ?_⟩
      refine ⟨_, rfl, _, rfl, M, _, _, _, rfl, rfl, .of (s' _ _ eMD), at_of (z := ((j : Nat) : Int) + 1 + (c : Int)) (j := j + 1 + c) (by omega) (valAt_get (by omega)), _, rfl, _, _, rfl, rfl, _, rfl, ?_⟩
      rw [List.range_succ, List.filter_append]
      have ef : [c].filter (fun c => decide (valAt ms2 (j + 1 + c) ≤ valAt ms2 j)) = if decide (valAt ms2 (j + 1 + c) ≤ valAt ms2 j) = true then [c] else [] := by
        rw [List.filter_cons]
        rfl
      rw [ef]
      have lf := List.length_filter_le (fun c => decide (valAt ms2 (j + 1 + c) ≤ valAt ms2 j)) (List.range c)
      rw [List.length_range] at lf
      refine ite2 (fun d => ?_) (fun d => ?_)
      · rw [if_pos d]
        refine ⟨_, rfl, _, e', ?_, fun b o eb => ?_, ?_⟩
        · rw [List.length_map]
          exact small1000 (by omega)
        · rw [upd_ne (ne_of_none eb hD4)]
          exact s' _ _ eb
        · rw [upd_same, List.map_append]
          exact congrArg (fun z => some (HO.lst (_ ++ [z]))) (congrArg V.int (by omega : ((j : Nat) : Int) + 1 + (c : Int) = ((j + 1 + c : Nat) : Int)))
      · rw [if_neg d, List.append_nil]
        exact ⟨s', e'⟩
    obtain ⟨sE, eE⟩ := hE
    rw [nn] at eE
    have lf2 := List.length_filter_le (fun c => decide (valAt ms2 (j + 1 + c) ≤ valAt ms2 j)) (List.range (ms2.length - (j + 1)))
    rw [List.length_range] at lf2
    refine ⟨D3, D4, _, _, rfl, rfl, sE _ _ eD, eE, ?_, fun R hR => ⟨one, fun Z hZ => ?_⟩⟩
    · rw [List.length_map, List.length_map]
      exact Nat.le_of_lt (small1000 (by omega))
    have sR := Same.new (o := .lst ((((List.range j).filter fun c => decide (valAt ms2 c ≥ valAt ms2 j)).map natV) ++ ((List.range (ms2.length - (j + 1))).filter fun c => decide (valAt ms2 (j + 1 + c) ≤ valAt ms2 j)).map fun c => natV (j + 1 + c))) hR
    have sZ := Same.new (o := .lst [V.non]) hZ
    refine ⟨R, Z, _, _, rfl, rfl, sZ _ _ upd_same, upd_same, ?_, fun R2 hR2 => ?_⟩
    · rw [List.length_append, List.length_map, List.length_map]
      exact Nat.le_of_lt (small1000 (by show _ + 1 ≤ 1000; omega))
    have sR2 := Same.new (o := .lst (((((List.range j).filter fun c => decide (valAt ms2 c ≥ valAt ms2 j)).map natV) ++ ((List.range (ms2.length - (j + 1))).filter fun c => decide (valAt ms2 (j + 1 + c) ≤ valAt ms2 j)).map fun c => natV (j + 1 + c)) ++ [V.non])) hR2
    have sH := sD.trans (sE.trans (sR.trans (sZ.trans sR2)))
    refine ⟨_, rfl, _, rfl, M, ms2, j, rfl, sH _ _ eM, hj, fun HF sF => ?_⟩
    refine ⟨_, rfl, R2, _, _, _, rfl, rfl, .of (sF _ _ upd_same), at_of (z := 0) (j := 0) rfl (head_hid hj), scal_opt _ _, _, rfl, ?_⟩
    rw [decide_eq_true rfl]
    exact iteF ⟨_, _, _, rfl, sT.trans (sH.trans sF)⟩
  · obtain ⟨_, _, _, rfl, sA⟩ := hA
    exact q HA (kp9.trans (.of sA)) ((d9.same sA).mono (by omega))
end
end HSP
namespace HSP
open PySem PySem.Spec PyProof.Rows L2
section
variable {P : Program} {w : World} {K : PySem.W.Frag} {mg : Str → Option Value} {base : Heap}
/-! ### law -/
theorem DrAt.other {H H' : Hp} {p r : Addr} {k : Nat} (d : DrAt H p k) (s : Keep r H H') (n : p ≠ r) : DrAt H' p k := by
  obtain ⟨z, j, b, e, l⟩ := d
  exact ⟨z, j, b, s _ _ n e, l⟩
theorem sc_law : FnScope n_law ["script"] (defScope s_law) := ⟨rfl, rfl, rfl, by decide +kernel, rfl, by decide +kernel, by decide +kernel⟩
def spLaw (K : PySem.W.Frag) : Sp := fun vs H Q _ => ∃ (a : Addr) (ns : List Int), vs = [.ref a] ∧ SqL K H a (ns.map V.int) ∧ ns.length ≤ 63 ∧ ∀ H', Q (.bl true) H'
theorem ok_law {f : Addr} {fd : FuncData} (B : Bl mg) (F : Fun K "law" "law" s_law f fd) (D : Df P w K mg base "_law_draws" 1 ["cell"] spDraws) (R : DfG P w K mg base "_law_right" 9 ["draws"] spRight) : FnG P w K mg base CX0 10 f fd ["script"] (spLaw K) := by
  refine FnG.mk' F sc_law (fun vs H Q E h => ?_) (fun cdv A outer s H vs Q E hg hr h => ?_)
  · obtain ⟨a, ns, rfl, _⟩ := h
    rfl
  obtain ⟨a, ns, rfl, hS, h63, q⟩ := h
  refine ⟨_, PSs.nox (pss_cons (ps_for PassesOwn.never rfl (pi_list (pe_lc (own := [("cell", 2)]) (g := (gName 2)) (tt := tYes) (by rfl) sc_law.nd (pi_list (pe_op op_cat (pe_slice sl_list (pv 0) po_none (po_some pe_int)) (pe_lst (pa_cons pe_int pa_nil)))) (blkOk_by (N := n_law) (sc := defScope s_law) (by decide +kernel)) (fun _ _ _ _ _ => (pg_name (i := 2) sc_law.nd rfl (.inl rfl))) (fun _ _ _ _ _ => pts_nil) (fun _ _ _ _ _ => (pe_df D (hr.mono (by decide)) (pa_cons (pv 2) pa_nil))))) (pg_name (i := 1) sc_law.nd rfl (.inl rfl)) (pss_one (ps_if (PW.pt (pw_or (pt_not (pt_val (pe_dfG R hg hr (pa_cons (pv 1) pa_nil)))) (pw_or1 (pt_not (pt_val (pe_dfG R hg hr (pa_cons (pv 1) pa_nil))))))) (pss_one (ps_ret pe_bl)) pss_nil)))
 (pss_one (ps_ret pe_bl))), ?_⟩
  refine ⟨_, rfl, 6, rfl, a, _, rfl, hS, fun c1 hc1 => ?_⟩
  refine ⟨(by show 1 ≤ sizeLine; decide), fun c2 hc2 => ?_⟩
  have s1 := Same.new (o := .lst (cutV (ns.map V.int) none (some 6))) hc1
  have s2 := Same.new (o := .lst [V.int 0]) hc2
  have zl := cutV_length (ns.map V.int) none (some 6)
  rw [List.length_map] at zl
  refine ⟨c1, c2, _, _, rfl, rfl, s2 _ _ upd_same, upd_same, ?_, fun C hC => ?_⟩
  · show _ + 1 ≤ sizeLine
    exact Nat.le_of_lt (small1000 (by omega))
  have cells : ∀ x, x ∈ cutV (ns.map V.int) none (some 6) ++ [V.int 0] → ∃ z, x = V.int z := fun x hx => by
    rcases List.mem_append.mp hx with hx | hx
    · have h1 := List.mem_of_mem_take hx
      have h2 := List.mem_of_mem_drop h1
      obtain ⟨z, _, rfl⟩ := List.mem_map.mp h2
      exact ⟨z, rfl⟩
    · exact ⟨0, List.mem_singleton.mp hx⟩
  have few : (cutV (ns.map V.int) none (some 6) ++ [V.int 0]).length ≤ 64 := by
    rw [List.length_append, List.length_singleton]
    omega
  have eC : (upd (upd (upd H c1 (.lst (cutV (ns.map V.int) none (some 6)))) c2 (.lst [V.int 0])) C (.lst (cutV (ns.map V.int) none (some 6) ++ [V.int 0]))) C = some (.lst (cutV (ns.map V.int) none (some 6) ++ [V.int 0])) := upd_same
  generalize cutV (ns.map V.int) none (some 6) ++ [V.int 0] = xs at cells few eC ⊢
  generalize upd (upd (upd H c1 (.lst (cutV (ns.map V.int) none (some 6)))) c2 (.lst [V.int 0])) C (.lst xs) = H1 at eC ⊢
  refine ⟨C, rfl, ⟨_, .of eC⟩, fun M hM => ?_⟩
  refine lc_list (xs := xs) (fun i H' => ∃ ps : List Addr, Same H1 H' ∧ H' M = some (.lst (ps.map V.ref)) ∧ ps.length = i ∧ (∀ p, p ∈ ps → DrAt H' p 0 ∧ p ≠ M) ∧ ps.Nodup) ⟨[], Same.new hM, upd_same, rfl, fun p h => (by cases h), List.nodup_nil⟩ (fun i H2 _ h2 => ?_) (fun i x H2 hx h2 => ?_) (fun H2 h2 => ?_)
  · obtain ⟨_, s2, _⟩ := h2
    exact .of (s2 _ _ eC)
  · obtain ⟨ps, s2, e2, l2, hp, nd⟩ := h2
    obtain ⟨z, rfl⟩ := cells x (List.mem_of_getElem? hx)
    have hi : i < xs.length := (List.getElem?_eq_some_iff.mp hx).1
    refine ⟨rfl, ?_⟩
    refine ⟨_, rfl, z, rfl, fun H3 p s3 np d3 => ?_⟩
    have nMp : M ≠ p := ne_of_none e2 np
    refine ⟨_, s3 _ _ e2, ?_, ps ++ [p], fun b o e => ?_, ?_, ?_, fun r hr2 => ?_, ?_⟩
    · rw [List.length_map]
      exact small1000 (by omega)
    · rw [upd_ne (ne_of_none e hM)]
      exact s3 _ _ (s2 _ _ e)
    · rw [upd_same, List.map_append]
      rfl
    · rw [List.length_append, List.length_singleton, l2]
    · rcases List.mem_append.mp hr2 with q2 | q2
      · exact ⟨((hp r q2).1.same s3).put (hp r q2).2.symm, (hp r q2).2⟩
      · rw [List.mem_singleton.mp q2]
        exact ⟨d3.put nMp, nMp.symm⟩
    · refine List.nodup_append.mpr ⟨nd, List.nodup_cons.mpr ⟨List.not_mem_nil, List.nodup_nil⟩, fun x hx y hy => ?_⟩
      rw [List.mem_singleton.mp hy]
      exact ((hp x hx).1.ne np).symm
  obtain ⟨ps, s2, eM, lps, hp, nd⟩ := h2
  refine ⟨M, rfl, ⟨_, .of eM⟩, for_list (xs := ps.map V.ref) (fun i σ H' => ∃ y1 y2 : Option V, σ = [some (.ref a), y1, y2] ∧ H' M = some (.lst (ps.map V.ref)) ∧ ∀ (j : Nat) (p : Addr), i ≤ j → ps[j]? = some p → DrAt H' p 0) ⟨_, _, rfl, eM, fun j p _ e => (hp p (List.mem_of_getElem? e)).1⟩ (fun i σ H3 _ h3 => ?_) (fun i x σ H3 hx h3 => ?_) (fun σ H3 _ => q H3)⟩
  · obtain ⟨_, _, _, e3, _⟩ := h3
    exact .of e3
  · obtain ⟨y1, y2, rfl, e3, d3⟩ := h3
    rw [List.getElem?_map] at hx
    obtain ⟨p, hpi, rfl⟩ := Option.map_eq_some_iff.mp hx
    have npM := (hp p (List.mem_of_getElem? hpi)).2
    have hi := (List.getElem?_eq_some_iff.mp hpi).1
    have other : ∀ j r, i + 1 ≤ j → ps[j]? = some r → r ≠ p := fun j r hj e z => by
      have hj2 := (List.getElem?_eq_some_iff.mp e).1
      rw [z] at e
      have e1 := (List.getElem?_eq_some_iff.mp hpi).2
      have e2 := (List.getElem?_eq_some_iff.mp e).2
      have := (List.pairwise_iff_getElem.mp nd) i j hi hj2 (by omega)
      exact this (e1.trans e2.symm)
    refine ⟨_, rfl, p, 0, rfl, d3 i p (Nat.le_refl _) hpi, by omega, fun H5 k5 d5 => ⟨true, rfl, iteF ?_⟩⟩
    refine ⟨_, rfl, p, 200, rfl, d5, by omega, fun H6 k6 d6 => ⟨true, rfl, iteF ?_⟩⟩
    exact ⟨_, _, rfl, k6 _ _ npM.symm (k5 _ _ npM.symm e3), fun j r hj e => ((d3 j r (by omega) e).other k5 (other j r hj e)).other k6 (other j r hj e)⟩
end
/-! ## what the top has written -/
theorem all_mk {l : PySem.W.OpenLaw} {w : World} {K : PySem.W.Frag} {h : Heap} {mg : Str → Option Value} {fa : Addr} (X : K.In h) (G : h.Ns mainGlobals mg) (hfa : mg "law" = some (.ref fa))
    {f1 : Addr} {od1 an1 : Option Addr} {sl1 : Array (Option Value)} {oc1 kV1 dc1 pm1 cd1 ct1 : Value}
    (a1 : PySem.W.nsIn K mainGlobals "is_whole" = some (some (.ref f1))) (l1 : K.lookup f1 = some ⟨oc1, od1, .func (PySem.W.fnOf "is_whole" "is_whole" (defArgs s_is_whole) (defBody s_is_whole) (defScope s_is_whole) .none kV1 dc1 pm1 an1 cd1 ct1), sl1⟩) (c1 : PySem.W.codeIn K cd1 "is_whole" = true) (k1 : PySem.W.keepIn K (.ref f1) = true)
    {f2 : Addr} {od2 an2 : Option Addr} {sl2 : Array (Option Value)} {oc2 kV2 dc2 pm2 cd2 ct2 : Value}
    (a2 : PySem.W.nsIn K mainGlobals "is_node" = some (some (.ref f2))) (l2 : K.lookup f2 = some ⟨oc2, od2, .func (PySem.W.fnOf "is_node" "is_node" (defArgs s_is_node) (defBody s_is_node) (defScope s_is_node) .none kV2 dc2 pm2 an2 cd2 ct2), sl2⟩) (c2 : PySem.W.codeIn K cd2 "is_node" = true) (k2 : PySem.W.keepIn K (.ref f2) = true)
    {f3 : Addr} {od3 an3 : Option Addr} {sl3 : Array (Option Value)} {oc3 kV3 dc3 pm3 cd3 ct3 : Value}
    (a3 : PySem.W.nsIn K mainGlobals "check_among" = some (some (.ref f3))) (l3 : K.lookup f3 = some ⟨oc3, od3, .func (PySem.W.fnOf "check_among" "check_among" (defArgs s_check_among) (defBody s_check_among) (defScope s_check_among) .none kV3 dc3 pm3 an3 cd3 ct3), sl3⟩) (c3 : PySem.W.codeIn K cd3 "check_among" = true) (k3 : PySem.W.keepIn K (.ref f3) = true)
    {f4 : Addr} {od4 an4 : Option Addr} {sl4 : Array (Option Value)} {oc4 kV4 dc4 pm4 cd4 ct4 : Value}
    (a4 : PySem.W.nsIn K mainGlobals "check_row" = some (some (.ref f4))) (l4 : K.lookup f4 = some ⟨oc4, od4, .func (PySem.W.fnOf "check_row" "check_row" (defArgs s_check_row) (defBody s_check_row) (defScope s_check_row) .none kV4 dc4 pm4 an4 cd4 ct4), sl4⟩) (c4 : PySem.W.codeIn K cd4 "check_row" = true) (k4 : PySem.W.keepIn K (.ref f4) = true)
    {f5 : Addr} {od5 an5 : Option Addr} {sl5 : Array (Option Value)} {oc5 kV5 dc5 pm5 cd5 ct5 : Value}
    (a5 : PySem.W.nsIn K mainGlobals "hidden_by" = some (some (.ref f5))) (l5 : K.lookup f5 = some ⟨oc5, od5, .func (PySem.W.fnOf "hidden_by" "hidden_by" (defArgs s_hidden_by) (defBody s_hidden_by) (defScope s_hidden_by) .none kV5 dc5 pm5 an5 cd5 ct5), sl5⟩) (c5 : PySem.W.codeIn K cd5 "hidden_by" = true) (k5 : PySem.W.keepIn K (.ref f5) = true)
    {f6 : Addr} {od6 an6 : Option Addr} {sl6 : Array (Option Value)} {oc6 kV6 dc6 pm6 cd6 ct6 : Value}
    (a6 : PySem.W.nsIn K mainGlobals "_law_draws" = some (some (.ref f6))) (l6 : K.lookup f6 = some ⟨oc6, od6, .func (PySem.W.fnOf "_law_draws" "_law_draws" (defArgs s_law_draws) (defBody s_law_draws) (defScope s_law_draws) .none kV6 dc6 pm6 an6 cd6 ct6), sl6⟩) (c6 : PySem.W.codeIn K cd6 "_law_draws" = true) (k6 : PySem.W.keepIn K (.ref f6) = true)
    {f7 : Addr} {od7 an7 : Option Addr} {sl7 : Array (Option Value)} {oc7 kV7 dc7 pm7 cd7 ct7 : Value}
    (a7 : PySem.W.nsIn K mainGlobals "_law_next" = some (some (.ref f7))) (l7 : K.lookup f7 = some ⟨oc7, od7, .func (PySem.W.fnOf "_law_next" "_law_next" (defArgs s_law_next) (defBody s_law_next) (defScope s_law_next) .none kV7 dc7 pm7 an7 cd7 ct7), sl7⟩) (c7 : PySem.W.codeIn K cd7 "_law_next" = true) (k7 : PySem.W.keepIn K (.ref f7) = true)
    {f8 : Addr} {od8 an8 : Option Addr} {sl8 : Array (Option Value)} {oc8 kV8 dc8 pm8 cd8 ct8 : Value}
    (a8 : PySem.W.nsIn K mainGlobals "_law_room" = some (some (.ref f8))) (l8 : K.lookup f8 = some ⟨oc8, od8, .func (PySem.W.fnOf "_law_room" "_law_room" (defArgs s_law_room) (defBody s_law_room) (defScope s_law_room) .none kV8 dc8 pm8 an8 cd8 ct8), sl8⟩) (c8 : PySem.W.codeIn K cd8 "_law_room" = true) (k8 : PySem.W.keepIn K (.ref f8) = true)
    {f9 : Addr} {od9 an9 : Option Addr} {sl9 : Array (Option Value)} {oc9 kV9 dc9 pm9 cd9 ct9 : Value}
    (a9 : PySem.W.nsIn K mainGlobals "_law_ended" = some (some (.ref f9))) (l9 : K.lookup f9 = some ⟨oc9, od9, .func (PySem.W.fnOf "_law_ended" "_law_ended" (defArgs s_law_ended) (defBody s_law_ended) (defScope s_law_ended) .none kV9 dc9 pm9 an9 cd9 ct9), sl9⟩) (c9 : PySem.W.codeIn K cd9 "_law_ended" = true) (k9 : PySem.W.keepIn K (.ref f9) = true)
    {f10 : Addr} {od10 an10 : Option Addr} {sl10 : Array (Option Value)} {oc10 kV10 dc10 pm10 cd10 ct10 : Value}
    (a10 : PySem.W.nsIn K mainGlobals "_law_all_shapes" = some (some (.ref f10))) (l10 : K.lookup f10 = some ⟨oc10, od10, .func (PySem.W.fnOf "_law_all_shapes" "_law_all_shapes" (defArgs s_law_all_shapes) (defBody s_law_all_shapes) (defScope s_law_all_shapes) .none kV10 dc10 pm10 an10 cd10 ct10), sl10⟩) (c10 : PySem.W.codeIn K cd10 "_law_all_shapes" = true) (k10 : PySem.W.keepIn K (.ref f10) = true)
    {f11 : Addr} {od11 an11 : Option Addr} {sl11 : Array (Option Value)} {oc11 kV11 dc11 pm11 cd11 ct11 : Value}
    (a11 : PySem.W.nsIn K mainGlobals "_law_by_roots" = some (some (.ref f11))) (l11 : K.lookup f11 = some ⟨oc11, od11, .func (PySem.W.fnOf "_law_by_roots" "_law_by_roots" (defArgs s_law_by_roots) (defBody s_law_by_roots) (defScope s_law_by_roots) .none kV11 dc11 pm11 an11 cd11 ct11), sl11⟩) (c11 : PySem.W.codeIn K cd11 "_law_by_roots" = true) (k11 : PySem.W.keepIn K (.ref f11) = true)
    {f12 : Addr} {od12 an12 : Option Addr} {sl12 : Array (Option Value)} {oc12 kV12 dc12 pm12 cd12 ct12 : Value}
    (a12 : PySem.W.nsIn K mainGlobals "_law_right" = some (some (.ref f12))) (l12 : K.lookup f12 = some ⟨oc12, od12, .func (PySem.W.fnOf "_law_right" "_law_right" (defArgs s_law_right) (defBody s_law_right) (defScope s_law_right) .none kV12 dc12 pm12 an12 cd12 ct12), sl12⟩) (c12 : PySem.W.codeIn K cd12 "_law_right" = true) (k12 : PySem.W.keepIn K (.ref f12) = true)
    {f13 : Addr} {od13 an13 : Option Addr} {sl13 : Array (Option Value)} {oc13 kV13 dc13 pm13 cd13 ct13 : Value}
    (a13 : PySem.W.nsIn K mainGlobals "law" = some (some (.ref f13))) (l13 : K.lookup f13 = some ⟨oc13, od13, .func (PySem.W.fnOf "law" "law" (defArgs s_law) (defBody s_law) (defScope s_law) .none kV13 dc13 pm13 an13 cd13 ct13), sl13⟩) (c13 : PySem.W.codeIn K cd13 "law" = true) (k13 : PySem.W.keepIn K (.ref f13) = true)
    (z0 : PySem.W.nsIn K mainGlobals "isinstance" = some none)
    (z1 : PySem.W.nsIn K mainGlobals "int" = some none)
    (z2 : PySem.W.nsIn K mainGlobals "bool" = some none)
    (z3 : PySem.W.nsIn K mainGlobals "tuple" = some none)
    (z4 : PySem.W.nsIn K mainGlobals "list" = some none)
    (z5 : PySem.W.nsIn K mainGlobals "str" = some none)
    (z6 : PySem.W.nsIn K mainGlobals "len" = some none)
    (z7 : PySem.W.nsIn K mainGlobals "range" = some none)
    (z8 : PySem.W.nsIn K mainGlobals "enumerate" = some none)
    (z9 : PySem.W.nsIn K mainGlobals "sorted" = some none)
    (z10 : PySem.W.nsIn K mainGlobals "set" = some none)
    (z11 : PySem.W.nsIn K mainGlobals "sum" = some none)
    (z12 : PySem.W.nsIn K mainGlobals "max" = some none)
    (z13 : PySem.W.nsIn K mainGlobals "abs" = some none)
    (z14 : PySem.W.nsIn K mainGlobals "zip" = some none)
    (z15 : PySem.W.nsIn K mainGlobals "min" = some none)
    : ∃ fd : FuncData, (∀ (s : Shared) (v : Value), BindsTo s fd ⟨[v], []⟩ [("script", v)]) ∧ ∀ base : Heap, K.In base → base.Ns mainGlobals mg → FnG l.prog w K mg base CX0 10 fa fd ["script"] (spLaw K) := by
  cases hfa.symm.trans (PySem.W.mg_of X G a13)
  have B : Bl mg := ⟨PySem.W.mg_none_of X G z0, PySem.W.mg_none_of X G z1, PySem.W.mg_none_of X G z2, PySem.W.mg_none_of X G z3, PySem.W.mg_none_of X G z4, PySem.W.mg_none_of X G z5, PySem.W.mg_none_of X G z6, PySem.W.mg_none_of X G z7, PySem.W.mg_none_of X G z8, PySem.W.mg_none_of X G z9, PySem.W.mg_none_of X G z10, PySem.W.mg_none_of X G z11, PySem.W.mg_none_of X G z12, PySem.W.mg_none_of X G z13, PySem.W.mg_none_of X G z14, PySem.W.mg_none_of X G z15⟩
  have A1 : At K mg "is_whole" s_is_whole := ⟨_, _, PySem.W.mg_of X G a1, fun_mk l1 c1 k1⟩
  have A2 : At K mg "is_node" s_is_node := ⟨_, _, PySem.W.mg_of X G a2, fun_mk l2 c2 k2⟩
  have A3 : At K mg "check_among" s_check_among := ⟨_, _, PySem.W.mg_of X G a3, fun_mk l3 c3 k3⟩
  have A4 : At K mg "check_row" s_check_row := ⟨_, _, PySem.W.mg_of X G a4, fun_mk l4 c4 k4⟩
  have A5 : At K mg "hidden_by" s_hidden_by := ⟨_, _, PySem.W.mg_of X G a5, fun_mk l5 c5 k5⟩
  have A6 : At K mg "_law_draws" s_law_draws := ⟨_, _, PySem.W.mg_of X G a6, fun_mk l6 c6 k6⟩
  have A7 : At K mg "_law_next" s_law_next := ⟨_, _, PySem.W.mg_of X G a7, fun_mk l7 c7 k7⟩
  have A8 : At K mg "_law_room" s_law_room := ⟨_, _, PySem.W.mg_of X G a8, fun_mk l8 c8 k8⟩
  have A9 : At K mg "_law_ended" s_law_ended := ⟨_, _, PySem.W.mg_of X G a9, fun_mk l9 c9 k9⟩
  have A10 : At K mg "_law_all_shapes" s_law_all_shapes := ⟨_, _, PySem.W.mg_of X G a10, fun_mk l10 c10 k10⟩
  have A11 : At K mg "_law_by_roots" s_law_by_roots := ⟨_, _, PySem.W.mg_of X G a11, fun_mk l11 c11 k11⟩
  have A12 : At K mg "_law_right" s_law_right := ⟨_, _, PySem.W.mg_of X G a12, fun_mk l12 c12 k12⟩
  refine ⟨PySem.W.fnOf "law" "law" (defArgs s_law) (defBody s_law) (defScope s_law) .none kV13 dc13 pm13 an13 cd13 ct13, fun s v => .of_eq rfl, fun base _ _ => ?_⟩
  have Wh := ok_whole (P := l.prog) (w := w) (base := base) B A1
  have In := ok_isN Wh A2
  have Am := ok_chkA In A3
  have Cr := ok_chkR B Wh A4
  have Hb := ok_hidden B Cr Am A5
  have Dr := ok_draws (P := l.prog) (w := w) (base := base) B A6
  have N := ok_next (P := l.prog) (w := w) (base := base) B A7
  have Rm := ok_room (P := l.prog) (w := w) (base := base) A8 6
  have Le := ok_ended Rm A9
  have Sh := ok_shapes (P := l.prog) (w := w) (base := base) B A10 6
  have Ro := ok_roots B Rm Le A11
  have R := ok_right B N Sh Ro Le Hb A12
  exact ok_law B (fun_mk l13 c13 k13) Dr R
end HSP
open PySem PySem.W PyProof.Rows
set_option maxHeartbeats 0 in
theorem PySem.Challenge.cw_halfsearch_k54_hidden_elements_holds : PySem.Challenge.rw_halfsearch_k54_hidden_elements.Holds := by
  w_on; o_law; k_head; (case hw => w_witness2)
  k_fill
  refine HSP.walk_ofG (l := PySem.Challenge.rw_halfsearch_k54_hidden_elements) (n := 63) (k := 10) (x := "script") (sp := fun w => HSP.spLaw _) rfl (by decide) rfl ⟨rfl, by decide, by decide⟩ (fun w h Y => PySem.W.kIn_of Y) ?F (fun _ _ a ns hl _ hS => ⟨a, ns, rfl, hS, hl, fun _ => rfl⟩)
  case F =>
    intro w mg fa h KX G hmg
    refine' HSP.all_mk KX G hmg ?a1 ?l1 ?c1 ?k1 ?a2 ?l2 ?c2 ?k2 ?a3 ?l3 ?c3 ?k3 ?a4 ?l4 ?c4 ?k4 ?a5 ?l5 ?c5 ?k5 ?a6 ?l6 ?c6 ?k6 ?a7 ?l7 ?c7 ?k7 ?a8 ?l8 ?c8 ?k8 ?a9 ?l9 ?c9 ?k9 ?a10 ?l10 ?c10 ?k10 ?a11 ?l11 ?c11 ?k11 ?a12 ?l12 ?c12 ?k12 ?a13 ?l13 ?c13 ?k13 ?z0 ?z1 ?z2 ?z3 ?z4 ?z5 ?z6 ?z7 ?z8 ?z9 ?z10 ?z11 ?z12 ?z13 ?z14 ?z15
    (case a1 => k_is)
    (case l1 => k_is)
    (case c1 => k_is)
    (case k1 => k_is)
    (case a2 => k_is)
    (case l2 => k_is)
    (case c2 => k_is)
    (case k2 => k_is)
    (case a3 => k_is)
    (case l3 => k_is)
    (case c3 => k_is)
    (case k3 => k_is)
    (case a4 => k_is)
    (case l4 => k_is)
    (case c4 => k_is)
    (case k4 => k_is)
    (case a5 => k_is)
    (case l5 => k_is)
    (case c5 => k_is)
    (case k5 => k_is)
    (case a6 => k_is)
    (case l6 => k_is)
    (case c6 => k_is)
    (case k6 => k_is)
    (case a7 => k_is)
    (case l7 => k_is)
    (case c7 => k_is)
    (case k7 => k_is)
    (case a8 => k_is)
    (case l8 => k_is)
    (case c8 => k_is)
    (case k8 => k_is)
    (case a9 => k_is)
    (case l9 => k_is)
    (case c9 => k_is)
    (case k9 => k_is)
    (case a10 => k_is)
    (case l10 => k_is)
    (case c10 => k_is)
    (case k10 => k_is)
    (case a11 => k_is)
    (case l11 => k_is)
    (case c11 => k_is)
    (case k11 => k_is)
    (case a12 => k_is)
    (case l12 => k_is)
    (case c12 => k_is)
    (case k12 => k_is)
    (case a13 => k_is)
    (case l13 => k_is)
    (case c13 => k_is)
    (case k13 => k_is)
    (case z0 => k_is)
    (case z1 => k_is)
    (case z2 => k_is)
    (case z3 => k_is)
    (case z4 => k_is)
    (case z5 => k_is)
    (case z6 => k_is)
    (case z7 => k_is)
    (case z8 => k_is)
    (case z9 => k_is)
    (case z10 => k_is)
    (case z11 => k_is)
    (case z12 => k_is)
    (case z13 => k_is)
    (case z14 => k_is)
    (case z15 => k_is)
