import PyProof.Rows.All
import Wide.All
import OpenK.AllK
import Wide.FinOn
import HandS.Base
import HandS.Call
import HandS.List
import HandS.Comp
import HandS.Ends
import HandS.Dict
import HandS.Iter
import HandS.Text
import HandS.Words
import HandS.WordsList
import HandS.Wide
import HandS.Strs
import HandS.SetFor
import HandS.SortInts
import HandS.Defaults
import HandS.IsInst
import HandS.Walk
import HandS.Codes
import HandS.ExcValue
import HandS.SortKw
import KE.DatumOrd
import HandS.Exc
import HandS.Deep
import HandS.More
import HandS.DictComp
import HandS.TupSets
import KE.KDictPairs
import HandS.ForSpec
import KE.KTryMore
import HandS.ExcField
import HandS.ExcIs
import HandS.WordsExc
import HandS.ExcOwn
import PyProof.NeKinds
import HandS.RaiseMore
import HandS.Style
import PySem.Challenge.RW_halfsearch_k16_values_that_can_stay
set_option Elab.async false
set_option maxRecDepth 100000
namespace HSP
open PySem PySem.Spec PyProof.Rows L2
/-! ## trees of pairs, as they lie in the heap -/
inductive Tr where
  | nil
  | nod (l r : Tr)
  deriving DecidableEq
def Tr.size : Tr → Nat
  | .nil => 0
  | .nod l r => l.size + 1 + r.size
def Tr.ht : Tr → Nat
  | .nil => 0
  | .nod l r => max l.ht r.ht + 1
theorem Tr.ht_le : ∀ t : Tr, t.ht ≤ t.size
  | .nil => Nat.le_refl _
  | .nod l r => by
    have h1 := l.ht_le
    have h2 := r.ht_le
    simp only [Tr.ht, Tr.size]
    omega
inductive TrAt (H : Hp) : V → Tr → Prop
  | nil : TrAt H .non .nil
  | nod {a : Addr} {x y : V} {l r : Tr} : H a = some (.tup [x, y]) → TrAt H x l → TrAt H y r → TrAt H (.ref a) (.nod l r)
theorem TrAt.keep {H H' : Hp} {v : V} {t : Tr} (h : TrAt H v t) (s : ∀ a x y, H a = some (.tup [x, y]) → H' a = some (.tup [x, y])) : TrAt H' v t := by
  induction h with
  | nil => exact .nil
  | nod e _ _ ih1 ih2 => exact .nod (s _ _ _ e) ih1 ih2
theorem TrAt.same {H H' : Hp} {v : V} {t : Tr} (h : TrAt H v t) (s : Same H H') : TrAt H' v t := h.keep fun a x y e => s a _ e
/-! ## heaps: all but one place stays -/
def Keep (p : Addr) (H H' : Hp) : Prop := ∀ b o, b ≠ p → H b = some o → H' b = some o
theorem Keep.refl (p : Addr) (H : Hp) : Keep p H H := fun _ _ _ e => e
theorem Keep.trans {p : Addr} {H H1 H2 : Hp} (a : Keep p H H1) (b : Keep p H1 H2) : Keep p H H2 := fun c o n e => b c o n (a c o n e)
theorem Keep.of {p : Addr} {H H' : Hp} (s : Same H H') : Keep p H H' := fun b o _ e => s b o e
theorem Keep.at {p : Addr} {H : Hp} {o : HO} : Keep p H (upd H p o) := fun b u n e => by
  rw [upd_ne n]; exact e
theorem Keep.new {p q : Addr} {H : Hp} {o : HO} (h : H q = none) : Keep p H (upd H q o) := fun b u _ e => by
  rw [upd_ne (ne_of_none e h)]; exact e
theorem Keep.tree {p : Addr} {H H' : Hp} {v : V} {t : Tr} {xs : List V} (k : Keep p H H') (hp : H p = some (.lst xs)) (h : TrAt H v t) : TrAt H' v t :=
  h.keep fun a x y e => k a _ (fun z => by rw [z, hp] at e; cases e) e
theorem Same.new {H : Hp} {p : Addr} {o : HO} (h : H p = none) : Same H (upd H p o) := fun b u e => by
  rw [upd_ne (ne_of_none e h)]; exact e
theorem Keep.same {p : Addr} {H H1 H' : Hp} (s : Same H H1) (n : H p = none) (k : Keep p H1 H') : Same H H' := fun b o e => k b o (ne_of_none e n) (s b o e)
/-! ## powers -/
def CPowW (i j : Int) : Prop := 0 ≤ j ∧ (Builtin.Int.intBits i : Int) * j ≤ 2 ^ 27
section
variable {X : Cx}
theorem op_powW : OpR X (binaryOp .Pow) (rI CPowW fun i j => .int (i ^ j.toNat)) :=
  opI fun _ _ _ _ _ _ _ hc q => pow_int hc.1 hc.2 q
end
end HSP
namespace HSP
open PySem PySem.Spec PyProof.Rows L2
/-! ## a def of the text that keeps a promise, called by its name -/
/-- the def stands under its own name behind the top -/
def At (K : PySem.W.Frag) (mg : Str → Option Value) (x : Str) (st : Stmt) : Prop := ∃ (f : Addr) (fd : FuncData), mg x = some (.ref f) ∧ Fun K x x st f fd
structure Df (P : Program) (w : World) (K : PySem.W.Frag) (mg : Str → Option Value) (base : Heap) (x : Str) (n : Nat) (ps : List Str) (sp : Sp) : Prop where
  ex : ∃ (f : Addr) (fd : FuncData), mg x = some (.ref f) ∧ PySem.W.keepIn K (.ref f) = true ∧ Binds K fd ps [] ∧ FnOk P w K mg base CX0 n f fd ps sp
section
variable {P : Program} {w : World} {K : PySem.W.Frag} {mg : Str → Option Value} {base : Heap}
theorem Df.mk' {x : Str} {st : Stmt} {N ps : List Str} {k : Nat} {sp : Sp} (a : At K mg x st) (S : FnScope N ps (defScope st)) (len : ∀ vs H Q E, sp vs H Q E → vs.length = ps.length)
    (hb : ∀ (kV doc pm : Value) (an : Option Addr) (cdv ct : Value) (us : List Value), us.length = ps.length → bindArgs (PySem.W.fnOf x x (defArgs st) (defBody st) (defScope st) .none kV doc pm an cdv ct) ⟨us, []⟩ = pure (ps.zip us))
    (body : ∀ (f : Addr) (cdv : Value) (A : Around) (outer : List Env) (s : Shared) (H : Hp) (vs : List V) (Q : VK) (E : XK), Room k (A.deeper (envOfC x (defScope st) s.heap.objs.size f cdv)) → sp vs H Q E →
      ∃ t, PSs (cxOf CX0 P w K mg base N x (defScope st) f cdv A outer s H E).nox (defBody st) t ∧ t { nx := fun _ H' => Q .non H', rt := Q } (start N vs) H) : Df P w K mg base x (k + 1) ps sp := by
  obtain ⟨f, fd, hm, F⟩ := a
  exact ⟨f, fd, hm, F.kp, F.binds hb, F.ok S len (body f)⟩
theorem Df.mono {x : Str} {j k : Nat} {ps : List Str} {sp : Sp} (D : Df P w K mg base x j ps sp) (h : j ≤ k) : Df P w K mg base x k ps sp := by
  obtain ⟨f, fd, a, b, c, d⟩ := D.ex
  exact ⟨f, fd, a, b, c, d.mono h⟩
theorem Df.imp {x : Str} {k : Nat} {ps : List Str} {sp sp' : Sp} (D : Df P w K mg base x k ps sp) (h : ∀ vs H Q E, sp' vs H Q E → sp vs H Q E) : Df P w K mg base x k ps sp' := by
  obtain ⟨f, fd, a, b, c, d⟩ := D.ex
  exact ⟨f, fd, a, b, c, d.imp h⟩
end
section
variable {X : Cx} {k : Nat} {ps : List Str} {sp : Sp} {x : Str} {p pos : Pos} {e : Expr} {es : List Expr} {t : TA}
theorem pe_df (D : Df X.prog X.w X.K X.mg X.base x k ps sp) (hr : Room k X.A) (ha : PA X (e :: es) t) (hg : Gl X x := by rfl) (hdb : (x == ("__debug__" : Str)) = false := by decide)
    (he : starEach (e :: es) X.env = (false, eval e X.env) :: starEach es X.env := by rfl) (hpl : (backTo pos (starEach es X.env)).any (·.1) = false := by rfl) : PE X (.Call (.Name x p) (e :: es) [] pos) (tCall sp [] E0 t) := by
  obtain ⟨f, fd, hm, hk, hb, F⟩ := D.ex
  exact pe_call F hr hg hm hk hb .nil pass0 ha hdb he hpl
end
/-! ## what a test or a value is -/
theorem int_inj {i j : Int} (h : i = j) : V.int i = V.int j := by rw [h]
/-! ## the built-ins, not shadowed -/
structure Bl (mg : Str → Option Value) : Prop where
  isinstance : mg "isinstance" = none
  int : mg "int" = none
  bool : mg "bool" = none
  tuple : mg "tuple" = none
  list : mg "list" = none
  str : mg "str" = none
  len : mg "len" = none
  range : mg "range" = none
  enumerate : mg "enumerate" = none
  sorted : mg "sorted" = none
  set : mg "set" = none
  sum : mg "sum" = none
  max : mg "max" = none
  abs : mg "abs" = none
  zip : mg "zip" = none
  min : mg "min" = none
end HSP
namespace HSP
open PySem PySem.Spec PyProof.Rows L2
/-! ## sum(rows, start): lists put behind one another -/
/-- a list object with these items -/
def LO (its : List Value) (n : Nat) : Obj := { cls := .type "list", data := .seq its.toArray n }
section
variable {prog : Program} {w : World} {A : Around}
theorem sumL_loop {I S : Addr} {fp wr : List Addr} {n : Nat} {Pv : Nat → Value → Prop} {St : Nat → Heap → Prop} (W : Walks prog w A.in1 I fp wr n Pv St) (hS : S ∉ fp) (row : Nat → Addr) (part : Nat → List Value) (hv : ∀ i v, Pv i v → v = .ref (row i)) (R : Result → Shared → Prop)
    (most : Nat) (hmost : most ≤ sizeLine) (hfp : ∀ i h, St i h → ∀ b ∈ fp, b < h.objs.size) :
    ∀ (k i : Nat) (s : Shared) (T : Addr) (acc : List Value) (c cT : Nat), n - i = k → i ≤ n → St i s.heap → s.heap.get? S = some (LO [.ref T] c) → s.heap.get? T = some (LO acc cT) → T ≠ S → T ∉ wr →
      (∀ j, j < n → row j ≠ S ∧ row j ∉ wr ∧ ∃ m, s.heap.get? (row j) = some (LO (part j) m)) → acc.length + (((List.range n).drop i).map fun j => (part j).length).sum ≤ most →
      (∀ (s' : Shared) (T' : Addr) (c' : Nat), (∀ b o, b ∉ wr → b ≠ S → s.heap.get? b = some o → s'.heap.get? b = some o) → s'.gens = s.gens → s'.drawn = s.drawn → s'.os = s.os →
        s'.heap.get? T' = some (LO (acc ++ (((List.range n).drop i).map part).flatten) c') → T' ≠ S → T' ∉ wr → (i = n ∧ T' = T ∨ s.heap.get? T' = none) → R (.ok (.ret (.ref T'))) s') →
      codeAny (model prog w) A (.builtin "sum.loop" ⟨[.ref I, .ref S, rawInt 2, rawInt 0], []⟩) R s := by
  have hSw : S ∉ wr := fun h => hS (W.sub _ h)
  intro k
  induction k with
  | zero =>
    intro i s T acc c cT hk hi hst eS eT nTS nTw rows hz hR
    obtain rfl : i = n := by omega
    refine codeAny_builtin F.entry_sum_loop ?_
    rw [Around.under_plainId F.plain_sum_loop _]
    show wpAny _ A.in1 (seqItems? (.ref S) >>= _) _ _ s
    refine wpAny_bind (wpAny_seqItems eS rfl (wpAny_bind (wpAny_tryCatch (W.done s _ _ hst fun h' tk kp => ?_))))
    have e0 : ((List.range i).drop i) = [] := List.drop_eq_nil_of_le (by rw [List.length_range]; exact Nat.le_refl _)
    refine wpAny_pure (hR { s with heap := h', toks := tk } T cT (fun b o n1 _ e => kp b o n1 e) rfl rfl rfl ?_ nTS nTw (.inl ⟨rfl, rfl⟩))
    rw [e0, List.map_nil, List.flatten_nil, List.append_nil]
    exact kp T _ nTw eT
  | succ k ih =>
    intro i s T acc c cT hk hi hst eS eT nTS nTw rows hz hR
    have hlt : i < n := by omega
    have ed : (List.range n).drop i = i :: (List.range n).drop (i + 1) := by
      have q := List.drop_eq_getElem_cons (l := List.range n) (i := i) (by rw [List.length_range]; exact hlt)
      rw [List.getElem_range] at q
      exact q
    rw [ed, List.map_cons, List.sum_cons] at hz
    refine codeAny_builtin F.entry_sum_loop ?_
    rw [Around.under_plainId F.plain_sum_loop _]
    show wpAny _ A.in1 (seqItems? (.ref S) >>= _) _ _ s
    refine wpAny_bind (wpAny_seqItems eS rfl (wpAny_bind (wpAny_tryCatch (W.item i s _ _ hlt hst fun v h1 tk hp hst1 kp => ?_))))
    obtain rfl := hv i v hp
    obtain ⟨nrS, nrw, m, er⟩ := rows i hlt
    have eS1 := kp S _ hSw eS
    have eT1 := kp T _ nTw eT
    have er1 := kp (row i) _ nrw er
    show wpAny _ A.in1 ((holding [Value.ref (row i)] (binaryOp .Add (.ref T) (.ref (row i)))).attempt >>= _) _ _ _
    refine wpAny_bind (wpAny_attempt (wpAny_holding (PySem.P.add_list eT1 er1 ?_ (by rw [List.size_toArray, List.size_toArray]; omega))))
    dsimp only
    have z1 : h1.objs.size ≠ S := fun z => by
      have q : S < h1.objs.size := Heap.lt_size eS1
      rw [z] at q
      exact Nat.lt_irrefl _ q
    have eS2 := Heap.get?_push_of_some ({ cls := .type "list", data := .seq (acc.toArray ++ (part i).toArray) } : Obj) eS1
    refine wpAny_bind (wpAny_updateSeq eS2 rfl ?_)
    have eS3 := Heap.get?_update_self (Obj.mapSeq fun _ => #[Value.ref h1.objs.size]) eS2 rfl
    refine wpAny_bind (wpAny_letGo (wpAny_bind (wpAny_updateSeq eS3 rfl ?_)))
    have eS4 := Heap.get?_update_self (Obj.mapSeq fun _ => #[Value.ref h1.objs.size]) eS3 rfl
    have kk : ∀ b o, b ≠ S → h1.get? b = some o → (((h1.push ({ cls := .type "list", data := .seq (acc.toArray ++ (part i).toArray) } : Obj)).update S (Obj.mapSeq fun _ => #[Value.ref h1.objs.size])).update S (Obj.mapSeq fun _ => #[Value.ref h1.objs.size])).get? b = some o := fun b o nb e =>
      (Heap.get?_update_other _ _ (Ne.symm nb)).trans ((Heap.get?_update_other _ _ (Ne.symm nb)).trans (Heap.get?_push_of_some _ e))
    have eN : (((h1.push ({ cls := .type "list", data := .seq (acc.toArray ++ (part i).toArray) } : Obj)).update S (Obj.mapSeq fun _ => #[Value.ref h1.objs.size])).update S (Obj.mapSeq fun _ => #[Value.ref h1.objs.size])).get? h1.objs.size = some (LO (acc ++ part i) 0) := by
      rw [Heap.get?_update_other _ _ (Ne.symm z1), Heap.get?_update_other _ _ (Ne.symm z1), Heap.get?_push_size _ rfl]
      unfold LO
      rw [List.append_toArray]
    refine wpAny_pure ⟨plainId_quiet F.plain_sum_loop _, ih (i + 1) _ h1.objs.size (acc ++ part i) _ 0 (by omega) hlt (W.frame _ _ _ hst1 fun b hb o e => kk b o (fun z => hS (z ▸ hb)) e) eS4 eN z1 (fun z => Nat.lt_irrefl _ (hfp _ _ hst1 _ (W.sub _ z))) (fun j hj => ?_) ?_ fun s' T' c' kp' g' d' o' e' m1 m2 m3 => ?_⟩
    · obtain ⟨n1, n2, m', e1⟩ := rows j hj
      exact ⟨n1, n2, m', kk _ _ n1 (kp _ _ n2 e1)⟩
    · rw [List.length_append]
      omega
    · refine hR s' T' c' (fun b o n1 n2 e => kp' b o n1 n2 (kk b o n2 (kp b o n1 e))) g' d' o' ?_ m1 m2 (.inr ?_)
      · rw [e', ed, List.map_cons, List.flatten_cons, List.append_assoc]
      · cases eo : s.heap.get? T' with
        | none => rfl
        | some o =>
          have e1 := kp T' o m2 eo
          rcases m3 with ⟨_, z⟩ | z
          · rw [z] at e1
            exact absurd (Heap.lt_size e1) (Nat.lt_irrefl _)
          · rw [kk T' o m1 e1] at z
            cases z
end
section
variable {prog : Program} {w : World} {A : Around} {E : Value → Shared → Prop} {s : Shared}
theorem args_sum2 (a b : Value) : argsOk "sum" ⟨[a, b], []⟩ := by
  unfold argsOk
  kernel_rfl
theorem sumL_call {l s0 : Addr} {rows : List Addr} {lits : List Value} {nl n0 : Nat} {parts : Nat → List Value} {acc : List Value} {Q : Value → Shared → Prop} (hh : A.handled = none)
    (el : s.heap.get? l = some (LO lits nl)) (hl : lits = rows.map Value.ref) (e0 : s.heap.get? s0 = some (LO acc n0)) (hr : ∀ j (h : j < rows.length), ∃ m, s.heap.get? rows[j] = some (LO (parts j) m))
    (hz : acc.length + ((List.range rows.length).map fun j => (parts j).length).sum ≤ sizeLine)
    (h : ∀ (s' : Shared) (T : Addr) (c : Nat), (∀ b o, s.heap.get? b = some o → s'.heap.get? b = some o) → s'.gens = s.gens → s'.os = s.os → s'.heap.get? T = some (LO (acc ++ ((List.range rows.length).map parts).flatten) c) → (rows = [] ∧ T = s0 ∨ s.heap.get? T = none) → Q (.ref T) s') :
    wpAny (model prog w) A (call (.builtin "sum") [.ref l, .ref s0]) Q E s := by
  have hlen : lits.toArray.size = rows.length := by rw [hl, List.size_toArray, List.length_map]
  refine call_function_tree F.kind_sum F.plain_sum F.entry_sum (args_sum2 _ _) ?_
  unfold Builtin.«sum»
  simp only [List.length_cons, List.length_nil]
  rw [if_neg (by decide)]
  refine wpAny_bind (wpAny_of_eq (show Builtin.Builtins.bindParams "sum" ["start"] 0 ⟨[.ref s0], []⟩ = pure [some (.ref s0)] from rfl) ?_)
  have hL : s.heap.IsList l lits.toArray := ⟨_, el, rfl, nl, rfl⟩
  refine wpAny_bind (wpAny_pyIter_list hL ?_)
  have lt1 : l < s.heap.objs.size := Heap.lt_size el
  have lt0 : s0 < s.heap.objs.size := Heap.lt_size e0
  have e1 := Heap.get?_push_of_some ({ cls := .type "list_iterator", data := .fields #[.ref l, .int 0 0] } : Obj) e0
  have tL : Shared.TypeIs { s with heap := s.heap.push { cls := .type "list_iterator", data := .fields #[.ref l, .int 0 0] } } (.ref s0) "list" := ⟨_, e1, rfl⟩
  refine wpAny_bind (wpAny_pure ?_)
  simp only [List.forIn_cons, List.forIn_nil]
  refine wpAny_bind (wpAny_bind (wpAny_bind (wpAny_isInstance (T := "list") (b := false) tL PySem.F.sub_list_str ?_)))
  simp only [Bool.false_eq_true, if_false]
  refine wpAny_pure (wpAny_bind (wpAny_bind (wpAny_isInstance (T := "list") (b := false) tL PySem.F.sub_list_bytes ?_)))
  simp only [Bool.false_eq_true, if_false]
  refine wpAny_pure (wpAny_bind (wpAny_bind (wpAny_isInstance (T := "list") (b := false) tL PySem.F.sub_list_bytearray ?_)))
  simp only [Bool.false_eq_true, if_false]
  refine wpAny_pure (wpAny_pure (wpAny_bind (wpAny_newObj_type ?_)))
  have sz1 : (s.heap.push ({ cls := .type "list_iterator", data := .fields #[.ref l, .int 0 0] } : Obj)).objs.size = s.heap.objs.size + 1 := Heap.size_push ..
  have nlI : l ≠ s.heap.objs.size := Nat.ne_of_lt lt1
  have kp : ∀ b o, s.heap.get? b = some o → ((s.heap.push ({ cls := .type "list_iterator", data := .fields #[.ref l, .int 0 0] } : Obj)).push (LO [.ref s0] 0)).get? b = some o := fun b o e => Heap.get?_push_of_some _ (Heap.get?_push_of_some _ e)
  refine wpAny_pure ⟨plainId_quiet F.plain_sum_loop _, sumL_loop (Walks.list (A := A.in1) (by simp [hh]) s.heap.objs.size l nlI lits.toArray) (S := (s.heap.push ({ cls := .type "list_iterator", data := .fields #[.ref l, .int 0 0] } : Obj)).objs.size) ?_ (fun j => rows.getD j 0) parts ?_ _ sizeLine (Nat.le_refl _) ?_
    (rows.length - 0) 0 _ s0 acc 0 n0 (by rw [hlen]) (Nat.zero_le _) ⟨⟨_, Heap.get?_push_of_some _ (Heap.get?_push_size _ rfl), rfl, rfl⟩, (hL.push _).push _⟩ ?_ (kp _ _ e0) (by rw [sz1]; exact Nat.ne_of_lt (Nat.lt_succ_of_lt lt0)) ?_ ?_ ?_ ?_⟩
  · rw [sz1]
    intro z
    rcases List.mem_cons.mp z with z | z
    · exact absurd z (Nat.ne_of_gt (Nat.lt_succ_self _))
    · exact absurd (List.mem_singleton.mp z) (Nat.ne_of_gt (Nat.lt_succ_of_lt lt1))
  · intro i v hv
    rw [List.getElem?_toArray, hl, List.getElem?_map] at hv
    cases hr2 : rows[i]? with
    | none => rw [hr2] at hv; cases hv
    | some b =>
      rw [hr2] at hv
      cases hv
      rw [List.getD_eq_getElem?_getD, hr2]
      rfl
  · intro i h st b hb
    rcases List.mem_cons.mp hb with z | z
    · obtain ⟨⟨o, ho, _⟩, _⟩ := st
      rw [z]
      exact Heap.lt_size ho
    · obtain ⟨_, ⟨o, ho, _⟩⟩ := st
      rw [List.mem_singleton.mp z]
      exact Heap.lt_size ho
  · exact Heap.get?_push_size _ rfl
  · intro z
    exact absurd (List.mem_singleton.mp z) (Nat.ne_of_lt lt0)
  · intro j hj
    rw [hlen] at hj
    obtain ⟨m, e⟩ := hr j hj
    have eg : rows.getD j 0 = rows[j] := by
      rw [List.getD_eq_getElem?_getD, List.getElem?_eq_getElem hj]
      rfl
    have lt2 : rows[j] < s.heap.objs.size := Heap.lt_size e
    refine ⟨?_, ?_, m, ?_⟩
    · rw [eg, sz1]; exact Nat.ne_of_lt (Nat.lt_succ_of_lt lt2)
    · rw [eg]; exact fun z => absurd (List.mem_singleton.mp z) (Nat.ne_of_lt lt2)
    · rw [eg]; exact kp _ _ e
  · rw [hlen, List.drop_zero]
    exact hz
  · intro s' T' c' k1 g1 d1 o1 e' m1 m2 m3
    rw [hlen, List.drop_zero] at e'
    refine h s' T' c' (fun b o e => ?_) g1 o1 e' (m3.imp (fun z => ⟨List.eq_nil_of_length_eq_zero (by rw [← hlen]; exact z.1.symm), z.2⟩) fun z => ?_)
    rotate_left
    · cases eo : s.heap.get? T' with
      | none => rfl
      | some o =>
        cases (kp _ _ eo).symm.trans z
    have lt3 : b < s.heap.objs.size := Heap.lt_size e
    exact k1 b o (fun z => absurd (List.mem_singleton.mp z) (Nat.ne_of_lt lt3)) (by rw [sz1]; exact Nat.ne_of_lt (Nat.lt_succ_of_lt lt3)) (kp _ _ e)
end
section
variable {X : Cx}
/-- sum(a list of lists of ints, a list of ints) -/
def rSumL (K : PySem.W.Frag) : List V → Hp → VK → Prop := fun vs H Q => ∃ (a b : Addr) (rows : List Addr) (parts : List (List Int)) (ms : List Int), vs = [V.ref a, V.ref b] ∧ H a = some (.lst (rows.map V.ref)) ∧ H b = some (.lst (ms.map V.int)) ∧
  Paired (fun r ns => H r = some (.lst (ns.map V.int))) rows parts ∧ ms.length + parts.flatten.length ≤ sizeLine ∧ ∀ (H' : Hp) (p : Addr), Same H H' → H' p = some (.lst ((ms ++ parts.flatten).map V.int)) → Q (.ref p) H'
theorem refs_of : ∀ {rows : List Addr} {its : List Value}, Vals (rows.map V.ref) its → its = rows.map Value.ref
  | [], _, .nil => rfl
  | a :: r, _, .cons q t => by rw [List.map_cons, ← refs_of t, (show _ = Value.ref a from q)]
theorem Paired.at' {α β : Type} {R : α → β → Prop} : ∀ {l : List α} {m : List β}, Paired R l m → ∀ j (h : j < l.length) (h' : j < m.length), R l[j] m[j]
  | _, _, .cons q _, 0, _, _ => q
  | _, _, .cons _ t, j + 1, h, h' => Paired.at' t j (Nat.lt_of_succ_lt_succ h) (Nat.lt_of_succ_lt_succ h')
theorem range_map {α β : Type} (f : α → β) (d : α) : ∀ l : List α, (List.range l.length).map (fun j => f (l.getD j d)) = l.map f := by
  intro l
  apply List.ext_getElem
  · rw [List.length_map, List.length_map, List.length_range]
  · intro i h1 h2
    rw [List.length_map] at h2
    rw [List.getElem_map, List.getElem_map, List.getElem_range, List.getD_eq_getElem?_getD, List.getElem?_eq_getElem h2]
    rfl
theorem rows_of {P : Program} {w : World} {H : Hp} {h : Heap} (ok : HOk P w H h) : ∀ {rows : List Addr} {parts : List (List Int)}, Paired (fun r ns => H r = some (.lst (ns.map V.int))) rows parts →
    ∃ pits : List (List Value), pits.length = rows.length ∧ (∀ j (hj : j < rows.length), ∃ m, h.get? rows[j] = some (LO (pits.getD j []) m)) ∧ Vals (parts.flatten.map V.int) pits.flatten ∧ (pits.map List.length).sum = parts.flatten.length
  | [], [], .nil => ⟨[], rfl, fun j hj => absurd hj (Nat.not_lt_zero j), .nil, rfl⟩
  | r :: rows, ns :: parts, .cons e t => by
    obtain ⟨pits, h1, h2, h3, h4⟩ := rows_of ok t
    obtain ⟨z, its, n, v, g⟩ : ObjOk P w H h r (.lst (ns.map V.int)) := ok r _ e
    refine ⟨its :: pits, by rw [List.length_cons, h1, List.length_cons], fun j hj => ?_, ?_, ?_⟩
    · cases j with
      | zero => exact ⟨n, g⟩
      | succ j => exact h2 j (Nat.lt_of_succ_lt_succ hj)
    · rw [List.flatten_cons, List.map_append, List.flatten_cons]
      exact v.append h3
    · rw [List.map_cons, List.sum_cons, h4, List.flatten_cons, List.length_append, ← v.length, List.length_map]
theorem cr_sumL (hc : X.calm = true) : CallR X (.builtin "sum") (rSumL X.K) := by
  intro pins s σ H vs us Q I r h
  obtain ⟨a, b, rows, parts, ms, rfl, ha, hb, hp, hz, q⟩ := h
  cases r with
  | cons r1 t1 =>
    cases t1 with
    | cons r2 t2 =>
      cases t2
      cases r1
      cases r2
      obtain ⟨za, its, n, va, ea⟩ : ObjOk X.prog X.w H s.heap a (.lst (rows.map V.ref)) := I.hok a _ ha
      obtain ⟨zb, it0, n0, vb, eb⟩ : ObjOk X.prog X.w H s.heap b (.lst (ms.map V.int)) := I.hok b _ hb
      obtain ⟨pits, hl2, hg2, hv2, hn2⟩ := rows_of I.hok hp
      have e1 : (List.range rows.length).map (fun j => pits.getD j []) = pits := by
        have q := range_map (fun x : List Value => x) [] pits
        rw [List.map_id', hl2] at q
        exact q
      have e2 : ((List.range rows.length).map fun j => (pits.getD j []).length).sum = parts.flatten.length := by
        have q := range_map (fun x : List Value => x.length) [] pits
        rw [hl2] at q
        rw [q, hn2]
      refine sumL_call (I.ok.hd hc) (lits := its) (acc := it0) (parts := fun j => pits.getD j []) ea (refs_of va) eb hg2 (by rw [e2, ← vb.length, List.length_map]; exact hz) fun s' T c kp hg ho hT hw => ?_
      rw [e1] at hT
      have hvals : Vals ((ms ++ parts.flatten).map V.int) (it0 ++ pits.flatten) := by
        rw [List.map_append]
        exact vb.append hv2
      rcases hw with ⟨z1, z2⟩ | hnew
      · subst z1
        cases hp
        refine ⟨.ref T, H, I.call' (ch := []) ho (Un.kept kp) (I.hok.kept kp) (by rw [hg]; exact I.bare) (fun _ z => nomatch z), rfl, q H T (Same.refl H) ?_⟩
        rw [z2, hb, List.flatten_nil, List.append_nil]
      · have hn : H T = none := by
          cases eo : H T with
          | none => rfl
          | some o =>
            obtain ⟨u, hu⟩ := objOk_get (I.hok T o eo)
            rw [hnew] at hu
            cases hu
        refine ⟨.ref T, upd H T (.lst ((ms ++ parts.flatten).map V.int)), I.call' (ch := []) ho (Un.laidN kp hnew hn) (I.hok.laidN kp hn ⟨?_, _, c, hvals, hT⟩) (by rw [hg]; exact I.bare) (fun _ z => nomatch z), rfl, q _ T (Same.new hn) upd_same⟩
        rw [List.length_map, List.length_append]
        exact hz
end
end HSP
namespace HSP
open PySem PySem.Spec PyProof.Rows L2
/-! ## set(a list of ints) -/
/-- a set that was just made, as the world bears it -/
abbrev nSet (w : World) : Obj := { cls := .type "set", dict := none, data := .set #[] 0 (.fresh 0 0 (!w.params.followText "set-order")) }
abbrev nIt (l : Addr) : Obj := { cls := .type "list_iterator", data := .fields #[.ref l, .int 0 0] }
section
variable {P : Program} {w : World} {A : Around} {E : Value → Shared → Prop} {s : Shared}
/-- what the filling of the new set leaves -/
def Filled (w : World) (s : Shared) (ns : List Int) (v : Value) (s2 : Shared) : Prop :=
  v = .none ∧ ∃ (h2 : Heap) (tk c : Nat), s2 = { s with heap := h2, toks := tk } ∧ SetR w h2 s.heap.objs.size (fun j => decide (j ∈ ns)) c ∧ c ≤ ns.length ∧ ∀ b o, s.heap.get? b = some o → h2.get? b = some o
theorem setL_fill {l : Addr} {items : Array Value} {nl : Nat} {dd : Option Addr} {sl : Array (Option Value)} (ns : List Int) (hh : A.handled = none) (el : s.heap.get? l = some { cls := .type "list", dict := dd, data := .seq items nl, slots := sl }) (hi : IntsAre items.toList ns) (hb : ns.length + 1 < scanBound) :
    codeAny (model P w) A (.call (.builtin "set.__init__") ⟨[.ref s.heap.objs.size, .ref l], []⟩) (wants (Filled w s ns) E) { s with heap := s.heap.push (nSet w) } := by
  have many : items.size = ns.length := by rw [← Array.length_toList]; exact IntsAre.length hi
  have lS : l < s.heap.objs.size := Heap.lt_size el
  have sz : (s.heap.push (nSet w)).objs.size = s.heap.objs.size + 1 := Heap.size_push ..
  have gS : (s.heap.push (nSet w)).get? s.heap.objs.size = some (nSet w) := Heap.get?_push_size _ rfl
  have el1 := Heap.get?_push_of_some (nSet w) el
  have isL : (s.heap.push (nSet w)).IsList l items := ⟨_, el1, rfl, nl, rfl⟩
  refine codeAny_call_builtin F.called_set.init.plain F.entry_set_init (check_set_init_1 ⟨_, gS, rfl⟩ ?_)
  have t1 := F.sub_list_set
  have t2 := F.sub_list_frozenset
  have t3 : (Value.type "list" == Value.type "dict") = false := by decide
  unfold Builtin.«set.__init__» noKeywords Builtin.Frozenset.updateFrom
  generalize hPI : pyIter = PI
  wp_walk
  subst hPI
  refine wpAny_pyIter_list isL (wpAny_bind (wpAny_runValue ?_))
  have nlI : l ≠ (s.heap.push (nSet w)).objs.size := by rw [sz]; exact Nat.ne_of_lt (Nat.lt_succ_of_lt lS)
  have offS : s.heap.objs.size ∉ [(s.heap.push (nSet w)).objs.size, l] := fun z => by
    rw [sz] at z
    rcases List.mem_cons.mp z with z | z
    · exact absurd z (Nat.ne_of_lt (Nat.lt_succ_self _))
    · exact absurd (List.mem_singleton.mp z) (Nat.ne_of_gt lS)
  have vals : ∀ (i : Nat) (v : Value), items[i]? = some v → ∃ k t, ns[i]? = some k ∧ v = .int k t := fun i v hv => by
    have lt : i < ns.length := by rw [← many]; exact (Array.getElem?_eq_some_iff.mp hv).1
    obtain ⟨t, e⟩ := IntsAre.int_at hi i v (by rw [Array.getElem?_toList]; exact hv)
    have eg : ns.getD i 0 = ns[i] := by rw [List.getD_eq_getElem?_getD, List.getElem?_eq_getElem lt]; rfl
    exact ⟨ns[i], t, List.getElem?_eq_getElem lt, by rw [e, eg]⟩
  refine set_update_ints (Walks.list (A := A.in1.in1) (by simp [hh]) _ l nlI items).toS s.heap.objs.size offS ns many hb vals (items.size - 0) 0 _ rfl (Nat.zero_le _) ?st ?new fun s2 c hm hc hR => ?_
  case st => exact ⟨⟨_, Heap.get?_push_size _ rfl, rfl, rfl⟩, isL.push _⟩
  case new => exact ⟨0, Nat.le_refl 0, setR_new_at (w := w) (show ((s.heap.push (nSet w)).push (nIt l)).get? s.heap.objs.size = some (nSet w) from Heap.get?_push_of_some _ gS)⟩
  obtain ⟨h2, g2, d2, tk2, os2⟩ := s2
  obtain rfl : g2 = s.gens := hm.gens
  obtain rfl : d2 = s.drawn := hm.drawn
  obtain rfl : os2 = s.os := hm.os
  rw [many] at hc
  refine wpAny_pure (wpAny_pure ⟨rfl, h2, tk2, c, rfl, hR, hc, fun b o e => ?_⟩)
  have bS : b < s.heap.objs.size := Heap.lt_size e
  refine hm.heap b o (fun z => ?_) (Heap.get?_push_of_some _ (Heap.get?_push_of_some _ e))
  rcases List.mem_cons.mp z with z | z
  · exact absurd z (Nat.ne_of_lt bS)
  · have z' := List.mem_singleton.mp z
    rw [sz] at z'
    exact absurd z' (Nat.ne_of_lt (Nat.lt_succ_of_lt bS))
theorem setL_call {l : Addr} {items : Array Value} {nl : Nat} {dd : Option Addr} {sl : Array (Option Value)} (ns : List Int) {Q : Value → Shared → Prop} (hh : A.handled = none) (el : s.heap.get? l = some { cls := .type "list", dict := dd, data := .seq items nl, slots := sl }) (hi : IntsAre items.toList ns) (hb : ns.length + 1 < scanBound)
    (h : ∀ s2, Filled w s ns .none s2 → Q (.ref s.heap.objs.size) s2) : wpAny (model P w) A (call (.type "set") [.ref l]) Q E s := by
  obtain ⟨cl, tl, f1⟩ := F.called_set.mro
  have f2 := F.called_set.made
  have f3 := F.called_set.sub
  have f4 := F.called_set.notType
  have f5 := F.called_set.canCreate
  have f6 := F.typeCall_set_1 (.ref l)
  refine wpAny_call (codeAny_of_tree (show wpAny _ _ (callAny (.type "set") _) _ _ _ from wpAny_pure ⟨Code.quiet_builtin _ (by decide +kernel), codeAny_builtin F.entry_type_call ?_⟩))
  rw [Around.under_plain (weight_type_call_type "set" [.ref l] []) rfl]
  repeat any_goals (first | assumption | wp_step)
  refine codeAny_mono (code_set_led1 (.ref l) (E := E) (Q₁ := fun v s1 => v = .ref s.heap.objs.size ∧ s1 = { s with heap := s.heap.push (nSet w) }) ⟨rfl, rfl⟩) fun r s1 hr => ?_
  match r, hr with
  | .error _, hr => exact hr
  | .ok (.ret v), hr =>
    obtain ⟨e1, e2⟩ := hr
    subst e1 e2
    have f7 := F.called_set.init.lookup
    have f8 := F.called_set.init.bind (.ref s.heap.objs.size)
    have f9 : Shared.TypeIs { s with heap := s.heap.push (nSet w) } (.ref s.heap.objs.size) "set" := ⟨_, Heap.get?_push_size _ rfl, rfl⟩
    repeat any_goals (first | assumption | wp_step)
    refine codeAny_mono (setL_fill (E := E) (A := A.in1) ns (by simp [hh]) el hi hb) fun r2 s2 hr2 => ?_
    match r2, hr2 with
    | .error _, hr2 => exact hr2
    | .ok (.ret u), hr2 =>
      obtain ⟨e3, q⟩ := hr2
      subst e3
      repeat any_goals (first | assumption | wp_step)
      exact h _ ⟨rfl, q⟩
end
section
variable {X : Cx}
/-- set(a list of ints): its members, at most as many as there are items -/
def rSetInts (w : World) : List V → Hp → VK → Prop := fun vs H Q => ∃ (a : Addr) (ns : List Int), vs = [V.ref a] ∧ H a = some (.lst (ns.map V.int)) ∧ ns.length ≤ 1000 ∧
  ∀ (p : Addr) (c : Nat), H p = none → c ≤ ns.length → Q (.ref p) (upd H p (SetO w p (fun j => decide (j ∈ ns)) c))
theorem cr_setInts (hc : X.calm = true) : CallR X (.type "set") (rSetInts X.w) := by
  intro pins s σ H vs us Q I r h
  obtain ⟨a, ns, rfl, ha, hl, q⟩ := h
  rw [Vals.ref1 r]
  obtain ⟨z, its, n, rv, e⟩ : ObjOk X.prog X.w H s.heap a (.lst (ns.map V.int)) := I.hok a _ ha
  refine setL_call ns (I.ok.hd hc) e (ints_of_vals rv) (by unfold scanBound; omega) fun s2 hf => ?_
  obtain ⟨_, h2, tk, c, rfl, hR, hc2, kp⟩ := hf
  have hn : H s.heap.objs.size = none := I.hok.fresh (Nat.le_refl _)
  exact ⟨.ref _, _, I.laid kp (Nat.le_refl _) (setO_new hR), rfl, q _ c hn hc2⟩
end
end HSP
namespace HSP
open PySem PySem.Spec PyProof.Rows L2
def topS (i : Nat) : Stmt := PySem.Challenge.pw_halfsearch_k16_values_that_can_stay.main.body.getD i (.Pass ⟨0, 0, 0, 0⟩)
abbrev s_is_whole : Stmt := topS 5
abbrev p_is_whole : List Str := ["thing"]
abbrev n_is_whole : List Str := ["thing"]
abbrev s_is_node : Stmt := topS 6
abbrev p_is_node : List Str := ["thing", "many"]
abbrev n_is_node : List Str := ["thing", "many"]
abbrev s_is_tree : Stmt := topS 7
abbrev p_is_tree : List Str := ["thing"]
abbrev n_is_tree : List Str := ["thing", "waiting", "part"]
abbrev s_count_nodes : Stmt := topS 8
abbrev p_count_nodes : List Str := ["tree"]
abbrev n_count_nodes : List Str := ["tree", "many", "waiting", "part"]
abbrev s_walk : Stmt := topS 9
abbrev p_walk : List Str := ["tree"]
abbrev n_walk : List Str := ["tree", "rows", "waiting", "part", "first", "above", "left", "right", "node"]
abbrev s_paths_of : Stmt := topS 10
abbrev p_paths_of : List Str := ["tree"]
abbrev n_paths_of : List Str := ["tree", "paths", "node", "above", "_"]
abbrev s_check_tree : Stmt := topS 11
abbrev p_check_tree : List Str := ["tree"]
abbrev n_check_tree : List Str := ["tree"]
abbrev s_check_row : Stmt := topS 12
abbrev p_check_row : List Str := ["row"]
abbrev n_check_row : List Str := ["row", "node", "value"]
abbrev s_check_values : Stmt := topS 13
abbrev p_check_values : List Str := ["tree", "values"]
abbrev n_check_values : List Str := ["tree", "values"]
abbrev s_check_wished : Stmt := topS 15
abbrev p_check_wished : List Str := ["tree", "wished"]
abbrev n_check_wished : List Str := ["tree", "wished", "many", "at", "node"]
abbrev s_check_wishes : Stmt := topS 16
abbrev p_check_wishes : List Str := ["tree", "values", "wished"]
abbrev n_check_wishes : List Str := ["tree", "values", "wished"]
abbrev s_greater_nodes : Stmt := topS 17
abbrev p_greater_nodes : List Str := ["tree", "wished"]
abbrev n_greater_nodes : List Str := ["tree", "wished", "ways", "node", "ancestor", "nodes", "greater", "side", "_"]
abbrev s_distances : Stmt := topS 18
abbrev p_distances : List Str := ["tree", "wished"]
abbrev n_distances : List Str := ["tree", "wished", "greater", "far", "one", "steps", "middle", "other", "more"]
abbrev s_conflicts : Stmt := topS 19
abbrev p_conflicts : List Str := ["tree", "values", "wished"]
abbrev n_conflicts : List Str := ["tree", "values", "wished", "rows", "one", "steps", "other"]
abbrev s_can_keep : Stmt := topS 20
abbrev p_can_keep : List Str := ["tree", "values", "wished", "kept"]
abbrev n_can_keep : List Str := ["tree", "values", "wished", "kept", "rows", "at", "node", "one", "other"]
abbrev s_law_draws : Stmt := topS 22
abbrev p_law_draws : List Str := ["cell"]
abbrev n_law_draws : List Str := ["cell"]
abbrev s_law_next : Stmt := topS 23
abbrev p_law_next : List Str := ["draws"]
abbrev n_law_next : List Str := ["draws", "k", "number"]
abbrev s_law_size : Stmt := topS 24
abbrev p_law_size : List Str := ["a_tree"]
abbrev n_law_size : List Str := ["a_tree"]
abbrev s_law_tree : Stmt := topS 25
abbrev p_law_tree : List Str := ["draws", "room"]
abbrev n_law_tree : List Str := ["draws", "room", "at"]
abbrev s_law_values : Stmt := topS 26
abbrev p_law_values : List Str := ["draws", "many"]
abbrev n_law_values : List Str := ["draws", "many", "pick", "spread", "k", "told", "at"]
abbrev s_law_way : Stmt := topS 27
abbrev p_law_way : List Str := ["a_tree", "node"]
abbrev n_law_way : List Str := ["a_tree", "node", "told", "first", "here"]
abbrev s_law_some : Stmt := topS 28
abbrev p_law_some : List Str := ["draws", "many"]
abbrev n_law_some : List Str := ["draws", "many", "node"]
abbrev s_law_near : Stmt := topS 29
abbrev p_law_near : List Str := ["a_tree", "a_wished"]
abbrev n_law_near : List Str := ["a_tree", "a_wished", "told", "node", "ancestor", "side"]
abbrev s_law_nodes_of : Stmt := topS 30
abbrev p_law_nodes_of : List Str := ["a_tree", "a_wished"]
abbrev n_law_nodes_of : List Str := ["a_tree", "a_wished", "every", "node", "ancestor", "side"]
abbrev s_law_far : Stmt := topS 31
abbrev p_law_far : List Str := ["a_tree", "a_wished"]
abbrev n_law_far : List Str := ["a_tree", "a_wished", "nodes", "far", "middle", "one", "other", "length", "pair"]
abbrev s_law_keeps : Stmt := topS 32
abbrev p_law_keeps : List Str := ["far", "a_values", "a_kept"]
abbrev n_law_keeps : List Str := ["far", "a_values", "a_kept", "one", "other"]
abbrev s_law_filled : Stmt := topS 33
abbrev p_law_filled : List Str := ["far", "a_values", "a_kept", "nodes"]
abbrev n_law_filled : List Str := ["far", "a_values", "a_kept", "nodes", "node", "told", "least", "lower", "one", "number"]
abbrev s_law_right : Stmt := topS 34
abbrev p_law_right : List Str := ["draws"]
abbrev n_law_right : List Str := ["draws", "a_tree", "many", "a_values", "a_wished", "k", "at", "before", "far", "nodes", "turn", "a_kept", "row", "due", "more", "odd", "node", "thing", "some"]
abbrev s_law : Stmt := topS 35
abbrev p_law : List Str := ["script"]
abbrev n_law : List Str := ["script", "cell", "draws", "turn"]
end HSP
namespace HSP
open PySem PySem.Spec PyProof.Rows L2
/-! ## what the law draws from: a list of a number, a count, a mark -/
def DrAt (H : Hp) (p : Addr) (k : Nat) : Prop := ∃ (n : Int) (j : Nat) (b : Bool), H p = some (.lst [.int n, .int (j : Int), .bl b]) ∧ j ≤ k
theorem DrAt.mono {H : Hp} {p : Addr} {k k' : Nat} (d : DrAt H p k) (h : k ≤ k') : DrAt H p k' := by
  obtain ⟨n, j, b, e, l⟩ := d
  exact ⟨n, j, b, e, Nat.le_trans l h⟩
theorem DrAt.same {H H' : Hp} {p : Addr} {k : Nat} (d : DrAt H p k) (s : Same H H') : DrAt H' p k := by
  obtain ⟨n, j, b, e, l⟩ := d
  exact ⟨n, j, b, s _ _ e, l⟩
theorem DrAt.ne {H : Hp} {p q : Addr} {k : Nat} (d : DrAt H p k) (h : H q = none) : q ≠ p := by
  obtain ⟨n, j, b, e, l⟩ := d
  exact (ne_of_none e h).symm
theorem DrAt.tree {H H' : Hp} {p : Addr} {k : Nat} {v : V} {t : Tr} (d : DrAt H p k) (s : Keep p H H') (h : TrAt H v t) : TrAt H' v t := by
  obtain ⟨n, j, b, e, l⟩ := d
  exact s.tree e h
/-- any of the items, whichever place is read -/
theorem at_any {xs : List V} {C : V → Prop} (h : ∀ x, x ∈ xs → C x) {i : Int} (h0 : 0 ≤ i) (h1 : i < (xs.length : Int)) : ∃ v, atI xs i = some v ∧ C v := by
  have hk : i.toNat < xs.length := by omega
  have ei : i = ((i.toNat : Nat) : Int) := by omega
  exact ⟨xs[i.toNat], at_of ei (List.getElem?_eq_getElem hk), h _ (List.getElem_mem hk)⟩
theorem small_mod {a m : Int} (h0 : 0 < m) (h1 : m < 2 ^ 64) : -(2 ^ 64) < a % m ∧ a % m < 2 ^ 64 := by
  have q1 := Int.emod_nonneg a (show m ≠ 0 by omega)
  have q2 := Int.emod_lt_of_pos a h0
  constructor <;> omega
section
variable {P : Program} {w : World} {K : PySem.W.Frag} {mg : Str → Option Value} {base : Heap}
/-! ### _law_draws -/
theorem sc_law_draws : FnScope n_law_draws ["cell"] (defScope s_law_draws) := ⟨rfl, rfl, rfl, by decide +kernel, rfl, by decide +kernel, by decide +kernel⟩
def spDraws : Sp := fun vs H Q _ => ∃ c : Int, vs = [.int c] ∧ ∀ (H' : Hp) (p : Addr), Same H H' → H p = none → DrAt H' p 0 → Q (.ref p) H'
theorem ok_draws (B : Bl mg) (a : At K mg "_law_draws" s_law_draws) : Df P w K mg base "_law_draws" 1 ["cell"] spDraws := by
  refine Df.mk' a sc_law_draws (fun vs H Q E h => ?_) (fun _ _ _ _ _ _ us hl => match us, hl with | [_], _ => rfl) (fun f cdv A outer s H vs Q E hr h => ?_)
  · obtain ⟨c, rfl, _⟩ := h
    rfl
  obtain ⟨c, rfl, q⟩ := h
  refine ⟨_, (pss_one (ps_ret (pe_lst (pa_cons (pe_op op_mod (pe_callTy call_int1 (by rfl) B.int (by decide +kernel) (pa_cons (pv 0) pa_nil)) (pe_op op_powW (pe_op op_powW (pe_op op_powW pe_int pe_int) pe_int) pe_int)) (pa_cons pe_int (pa_cons (pe_cmpR op_ge (pv 0) (pe_op op_powW pe_int pe_int) (nomark _)) pa_nil)))))), ?_⟩
  refine ⟨_, rfl, .inl ⟨_, rfl, _, _, rfl, rfl, ⟨by decide, by decide +kernel⟩, _, _, rfl, rfl, ⟨by decide, by decide +kernel⟩, _, _, rfl, rfl, ⟨by decide, by decide +kernel⟩, _, _, rfl, rfl, ?_, ?_⟩⟩
  · exact Int.pow_pos (Int.pow_pos (Int.pow_pos (by decide)))
  refine ⟨_, rfl, _, _, rfl, rfl, ⟨by decide, by decide +kernel⟩, _, _, rfl, rfl, (by show 3 ≤ sizeLine; decide), fun p hp => ?_⟩
  exact q _ p (Same.new hp) hp ⟨_, 0, _, upd_same, Nat.le_refl _⟩
/-! ### _law_next -/
theorem sc_law_next : FnScope n_law_next ["draws"] (defScope s_law_next) := ⟨rfl, rfl, rfl, by decide +kernel, rfl, by decide +kernel, by decide +kernel⟩
def spNext : Sp := fun vs H Q _ => ∃ (p : Addr) (k : Nat), vs = [.ref p] ∧ DrAt H p k ∧ k ≤ 100000 ∧ ∀ (H' : Hp) (r : Int), Keep p H H' → DrAt H' p (k + 1) → 0 ≤ r → r < 2147483648 → Q (.int r) H'
theorem ok_next (B : Bl mg) (a : At K mg "_law_next" s_law_next) : Df P w K mg base "_law_next" 1 ["draws"] spNext := by
  refine Df.mk' a sc_law_next (fun vs H Q E h => ?_) (fun _ _ _ _ _ _ us hl => match us, hl with | [_], _ => rfl) (fun f cdv A outer s H vs Q E hr h => ?_)
  · obtain ⟨p, k, rfl, _⟩ := h
    rfl
  obtain ⟨p, k, rfl, ⟨n, j, b, e, hj⟩, hk, q⟩ := h
  refine ⟨_, (pss_cons (ps_asg (pe_op op_add (pe_ix ix_list (pv 0) pe_int (fun _ _ => rfl)) pe_int) (pg_sub (pv 0) pe_int set_list))
 (pss_cons (ps_set (i := 1) sc_law_next.nd rfl (.inl rfl) (pe_ix ix_list (pv 0) pe_int (fun _ _ => rfl)))
 (pss_cons (ps_if (pt_val (pe_ix ix_list (pv 0) pe_int (fun _ _ => rfl))) (pss_cons (ps_set (i := 2) sc_law_next.nd rfl (.inl rfl) (pe_op op_mod (pe_callTy call_int1 (by rfl) B.int (by decide +kernel) (pa_cons (pe_ix ix_list (pv 0) pe_int (fun _ _ => rfl)) pa_nil)) (pe_op op_powW pe_int pe_int)))
 (pss_cons (ps_asg (pe_op op_fdiv (pe_ix ix_list (pv 0) pe_int (fun _ _ => rfl)) (pe_op op_powW pe_int pe_int)) (pg_sub (pv 0) pe_int set_list))
 (pss_one (ps_ret (pv 2))))) pss_nil)
 (pss_cons (ps_set (i := 2) sc_law_next.nd rfl (.inl rfl) (pe_op op_mod (pe_callTy call_int1 (by rfl) B.int (by decide +kernel) (pa_cons (pe_op op_mul (pe_op op_add (pe_op op_add (pe_op op_mod (pe_callTy call_int1 (by rfl) B.int (by decide +kernel) (pa_cons (pe_ix ix_list (pv 0) pe_int (fun _ _ => rfl)) pa_nil)) pe_int) (pe_op op_mul (pe_op op_mul (pv 1) (pv 1)) pe_int)) (pv 1)) pe_int) pa_nil)) pe_int))
 (pss_cons (ps_set (i := 2) sc_law_next.nd rfl (.inl rfl) (pe_op op_mod (pe_callTy call_int1 (by rfl) B.int (by decide +kernel) (pa_cons (pe_op op_mul (pv 2) (pv 2)) pa_nil)) pe_int))
 (pss_one (ps_ret (pe_op op_fdiv (pe_op op_mod (pe_callTy call_int1 (by rfl) B.int (by decide +kernel) (pa_cons (pe_op op_mul (pv 2) (pe_op op_add (pv 2) pe_int)) pa_nil)) pe_int) pe_int)))))))), ?_⟩
  have e1 : (upd H p (.lst ([V.int n, .int (j : Int), .bl b].set 1 (.int ((j : Int) + 1))))) p = some (.lst [.int n, .int ((j + 1 : Nat) : Int), .bl b]) := by
    rw [upd_same]
    rfl
  refine ⟨_, rfl, p, _, _, _, rfl, rfl, .of e, atI_nat (j := 1) rfl, _, _, rfl, rfl, _, rfl, p, _, _, 1, rfl, rfl, e, rfl, ?_⟩
  have kp1 : Keep p H (upd H p (.lst ([V.int n, .int (j : Int), .bl b].set 1 (.int ((j : Int) + 1))))) := Keep.at
  generalize upd H p (.lst ([V.int n, .int (j : Int), .bl b].set 1 (.int ((j : Int) + 1)))) = H1 at e1 kp1 ⊢
  refine ⟨_, rfl, p, _, _, _, rfl, rfl, .of e1, atI_nat (j := 1) rfl, ?_⟩
  refine ⟨_, rfl, p, _, _, _, rfl, rfl, .of e1, atI_nat (j := 2) rfl, b, rfl, ?_⟩
  refine ite2 (fun c => ?_) (fun c => ?_)
  · refine ⟨_, rfl, p, _, _, _, rfl, rfl, .of e1, atI_nat (j := 0) rfl, .inl ⟨_, rfl, _, _, rfl, rfl, ⟨by decide, by decide +kernel⟩, _, _, rfl, rfl, Int.pow_pos (by decide), ?_⟩⟩
    refine ⟨_, rfl, p, _, _, _, rfl, rfl, .of e1, atI_nat (j := 0) rfl, _, _, rfl, rfl, ⟨by decide, by decide +kernel⟩, _, _, rfl, rfl, ⟨by decide, by decide⟩, _, rfl, p, _, _, 0, rfl, rfl, e1, rfl, ?_⟩
    refine ⟨_, rfl, q _ _ (kp1.trans Keep.at) ⟨_, j + 1, b, upd_same, by omega⟩ (Int.emod_nonneg _ (by decide)) ?_⟩
    have h6 : n % (1000000 : Int) < 1000000 := Int.emod_lt_of_pos n (by decide)
    exact Int.lt_trans h6 (by decide)
  · have k1 : -(2 ^ 64) < ((j + 1 : Nat) : Int) := by omega
    have k2 : ((j + 1 : Nat) : Int) < 2 ^ 64 := by omega
    refine ⟨_, rfl, p, _, _, _, rfl, rfl, .of e1, atI_nat (j := 0) rfl, .inl ⟨_, rfl, _, _, rfl, rfl, (by show (0 : Int) < 1000003; decide), _, rfl, _, rfl, _, _, rfl, rfl, .inl ⟨k1, k2⟩, _, _, rfl, rfl, .inr ⟨by decide, by decide⟩, _, _, rfl, rfl, _, rfl, _, _, rfl, rfl, _, _, rfl, rfl, .inr ⟨by decide, by decide⟩,
      .inl ⟨_, rfl, _, _, rfl, rfl, (by show (0 : Int) < 2147483629; decide), ?_⟩⟩⟩
    refine ⟨_, rfl, _, rfl, _, _, rfl, rfl, .inl (small_mod (by decide) (by decide)), .inl ⟨_, rfl, _, _, rfl, rfl, (by show (0 : Int) < 2147483587; decide), ?_⟩⟩
    refine ⟨_, rfl, _, rfl, _, _, rfl, rfl, _, _, rfl, rfl, .inl (small_mod (by decide) (by decide)), .inl ⟨_, rfl, _, _, rfl, rfl, (by show (0 : Int) < 2147483579; decide), _, _, rfl, rfl, ⟨by decide, by decide⟩, ?_⟩⟩
    refine q _ _ kp1 ⟨n, j + 1, b, e1, by omega⟩ (Int.ediv_nonneg (Int.emod_nonneg _ (by decide)) (by decide)) ?_
    exact Int.lt_of_le_of_lt (Int.ediv_le_self _ (Int.emod_nonneg _ (by decide))) (Int.lt_trans (Int.emod_lt_of_pos _ (by decide)) (by decide))
end
end HSP
namespace HSP
open PySem PySem.Spec PyProof.Rows L2
section
variable {P : Program} {w : World} {K : PySem.W.Frag} {mg : Str → Option Value} {base : Heap}
/-- nothing can be asked: no room is needed -/
theorem Df.none' {x : Str} {st : Stmt} {ps : List Str} {sp : Sp} (a : At K mg x st) (no : ∀ vs H Q E, ¬ sp vs H Q E)
    (hb : ∀ (kV doc pm : Value) (an : Option Addr) (cdv ct : Value) (us : List Value), us.length = ps.length → bindArgs (PySem.W.fnOf x x (defArgs st) (defBody st) (defScope st) .none kV doc pm an cdv ct) ⟨us, []⟩ = pure (ps.zip us)) (k : Nat) : Df P w K mg base x k ps sp := by
  obtain ⟨f, fd, hm, F⟩ := a
  exact ⟨f, fd, hm, F.kp, F.binds hb, ⟨fun vs H Q E h => absurd h (no vs H Q E), fun A outer s H args us vs Q E _ _ _ _ h => absurd h (no vs H Q E)⟩⟩
def spSize (n : Nat) : Sp := fun vs H Q _ => ∃ (v : V) (t : Tr), vs = [v] ∧ TrAt H v t ∧ t.ht < n ∧ Q (.int t.size) H
end
end HSP
namespace HSP
open PySem PySem.Spec PyProof.Rows L2
section
variable {P : Program} {w : World} {K : PySem.W.Frag} {mg : Str → Option Value} {base : Heap}
/-! ### count_nodes -/
/-- what waits: trees of together n nodes -/
inductive Waits (H : Hp) : List V → List Tr → Prop
  | nil : Waits H [] []
  | cons {v : V} {t : Tr} {vs : List V} {ts : List Tr} : TrAt H v t → Waits H vs ts → Waits H (v :: vs) (t :: ts)
theorem Waits.len {H : Hp} {vs : List V} {ts : List Tr} (h : Waits H vs ts) : vs.length = ts.length := by
  induction h with
  | nil => rfl
  | cons _ _ ih => rw [List.length_cons, List.length_cons, ih]
def sizes : List Tr → Nat
  | [] => 0
  | t :: r => t.size + sizes r
def turns : List Tr → Nat
  | [] => 0
  | t :: r => 2 * t.size + 1 + turns r
/-- the list on which they wait, the last one first -/
theorem last_rev {v : V} {vs : List V} : (v :: vs).reverse[(v :: vs).reverse.length - 1]? = some v := by
  rw [List.reverse_cons, List.length_append, List.length_singleton, Nat.add_sub_cancel, List.getElem?_append_right (Nat.le_refl _), Nat.sub_self]
  all_goals rfl
theorem drop_rev {v : V} {vs : List V} : (v :: vs).reverse.dropLast = vs.reverse := by
  rw [List.reverse_cons, List.dropLast_concat]
theorem rev_push {v : V} {vs : List V} : vs.reverse ++ [v] = (v :: vs).reverse := by rw [List.reverse_cons]
theorem rev_empty {vs : List V} : (!vs.reverse.isEmpty) = !vs.isEmpty := by
  cases vs with
  | nil => rfl
  | cons v r =>
    rw [List.reverse_cons]
    cases r.reverse <;> rfl
def spCount : Sp := fun vs H Q _ => ∃ (v : V) (t : Tr), vs = [v] ∧ TrAt H v t ∧ t.size ≤ 1000 ∧ ∀ H', Same H H' → Q (.int t.size) H'
theorem sc_count : FnScope n_count_nodes ["tree"] (defScope s_count_nodes) := ⟨rfl, rfl, rfl, by decide +kernel, rfl, by decide +kernel, by decide +kernel⟩
theorem ok_count (a : At K mg "count_nodes" s_count_nodes) : Df P w K mg base "count_nodes" 1 ["tree"] spCount := by
  refine Df.mk' a sc_count (fun vs H Q E h => ?_) (fun _ _ _ _ _ _ us hl => match us, hl with | [_], _ => rfl) (fun f cdv A outer s H vs Q E hr h => ?_)
  · obtain ⟨v, t, rfl, _⟩ := h
    rfl
  obtain ⟨v, t, rfl, ht, hz, q⟩ := h
  refine ⟨_, pss_cons (ps_set (i := 1) sc_count.nd rfl (.inl rfl) pe_int)
    (pss_cons (ps_set (i := 2) sc_count.nd rfl (.inl rfl) (pe_lst (pa_cons (pv 0) pa_nil)))
    (pss_cons (ps_while PassesOwn.never (pt_truth (pv 2) (by intro _; rfl))
      (pss_cons (ps_set (i := 3) sc_count.nd rfl (.inl rfl) (pe_bm0 PySem.F.plainAttrs_list PySem.F.slot_list_pop PySem.F.type_list_pop mt_pop (pv 2)))
      (pss_one (ps_if (pt_cmpR op_notN (pv 3) pe_non (nomark _))
        (pss_cons (ps_aug (i := 1) sc_count.nd rfl (.inl rfl) pe_int ip_add)
        (pss_cons (ps_expr (pe_bm PySem.F.plainAttrs_list PySem.F.slot_list_append PySem.F.type_list_append mt_append (pv 2) (pa_cons (pe_ix ix_tup (pv 3) pe_int (fun _ _ => rfl)) pa_nil)))
        (pss_one (ps_expr (pe_bm PySem.F.plainAttrs_list PySem.F.slot_list_append PySem.F.type_list_append mt_append (pv 2) (pa_cons (pe_ix ix_tup (pv 3) pe_int (fun _ _ => rfl)) pa_nil)))))) pss_nil))))
    (pss_one (ps_ret (pv 1))))), ?_⟩
  refine ⟨v, rfl, (by show 1 ≤ sizeLine; decide), fun l hl => ?_⟩
  have s0 : Same H (upd H l (.lst [v])) := Same.new hl
  refine ⟨fun m σ H1 => ∃ (vs : List V) (ts : List Tr) (n : Nat) (y : Option V), σ = [some v, some (.int n), some (.ref l), y] ∧ Same H H1 ∧ H1 l = some (.lst vs.reverse) ∧ Waits H vs ts ∧ n + sizes ts = t.size ∧ vs.length ≤ n + 1 ∧ m = turns ts,
    ⟨_, [v], [t], 0, none, rfl, s0, upd_same, .cons ht .nil, by show 0 + (t.size + 0) = t.size; omega, by show 1 ≤ 0 + 1; omega, rfl⟩, fun m σ H1 hW => ?_⟩
  obtain ⟨vs, ts, n, y, rfl, sm, el, hw, hn, hlen, rfl⟩ := hW
  refine ⟨.ref l, rfl, !vs.reverse.isEmpty, .inl ⟨_, .of el, rfl⟩, ?_⟩
  rw [rev_empty]
  cases hw with
  | nil =>
    refine iteF ?_
    exact ⟨_, rfl, by rw [show ((n : Nat) : Int) = ((t.size : Nat) : Int) from congrArg _ hn]; exact q _ sm⟩
  | @cons x u xs us hx hxs =>
    refine iteT ⟨fun σ' H' => ∃ m', m' < turns (u :: us) ∧ ∃ (vs : List V) (ts : List Tr) (n : Nat) (y : Option V), σ' = [some v, some (.int n), some (.ref l), y] ∧ Same H H' ∧ H' l = some (.lst vs.reverse) ∧ Waits H vs ts ∧ n + sizes ts = t.size ∧ vs.length ≤ n + 1 ∧ m' = turns ts,
      fun σ' H' hN => hN, ?_⟩
    refine ⟨.ref l, rfl, .inl ⟨rfl, _, .of el⟩, l, _, x, rfl, rfl, el, last_rev, ?_⟩
    rw [drop_rev]
    have sm2 : Same H (upd H1 l (.lst xs.reverse)) := fun b o e => by rw [upd_ne (ne_of_none e hl)]; exact sm b o e
    refine ⟨x, rfl, rfl, _, rfl, ?_⟩
    cases hx with
    | nil =>
      refine iteF ?_
      refine ⟨_, ?_, xs, us, n, _, rfl, sm2, upd_same, hxs, ?_, ?_, rfl⟩
      · show turns us < 2 * 0 + 1 + turns us; omega
      · have : 0 + sizes us = sizes (Tr.nil :: us) := rfl
        omega
      · rw [List.length_cons] at hlen; omega
    | @nod a x1 y1 l1 r1 ea hl1 hr1 =>
      refine iteT ?_
      refine ⟨_, rfl, _, _, rfl, rfl, ?_⟩
      have e2 : (upd H1 l (.lst xs.reverse)) a = some (.tup [x1, y1]) := sm2 _ _ ea
      refine ⟨_, rfl, .inl ⟨rfl, _, .of upd_same⟩, _, rfl, a, _, _, y1, rfl, rfl, .of e2, atI_nat (j := 1) rfl, l, _, _, rfl, rfl, upd_same, ?_, ?_⟩
      · rw [List.length_reverse]
        rw [List.length_cons] at hlen
        exact small1000 (by omega)
      refine ⟨_, rfl, .inl ⟨rfl, _, .of upd_same⟩, _, rfl, a, _, _, x1, rfl, rfl, .of (by rw [upd_ne (ne_of_none ea hl)]; exact e2), atI_nat (xs := [x1, y1]) (j := 0) rfl, l, _, _, rfl, rfl, upd_same, ?_, ?_⟩
      · rw [List.length_append, List.length_reverse, List.length_singleton]
        rw [List.length_cons] at hlen
        have e1 : sizes (Tr.nod l1 r1 :: us) = (l1.size + 1 + r1.size) + sizes us := rfl
        exact small1000 (by omega)
      rw [rev_push, rev_push]
      refine ⟨_, ?_, x1 :: y1 :: xs, l1 :: r1 :: us, n + 1, _, rfl, fun b o e => ?_, upd_same, .cons hl1 (.cons hr1 hxs), ?_, ?_, rfl⟩
      · show 2 * l1.size + 1 + (2 * r1.size + 1 + turns us) < 2 * (l1.size + 1 + r1.size) + 1 + turns us
        omega
      · rw [upd_ne (ne_of_none e hl), upd_ne (ne_of_none e hl)]
        exact sm2 b o e
      · have e1 : sizes (Tr.nod l1 r1 :: us) = (l1.size + 1 + r1.size) + sizes us := rfl
        show n + 1 + (l1.size + (r1.size + sizes us)) = t.size
        omega
      · rw [List.length_cons] at hlen
        show xs.length + 1 + 1 ≤ n + 1 + 1
        omega
end
end HSP
namespace HSP
open PySem PySem.Spec PyProof.Rows L2
section
variable {P : Program} {w : World} {K : PySem.W.Frag} {mg : Str → Option Value} {base : Heap}
/-! ### is_whole -/
def spWhole : Sp := fun vs H Q _ => ∃ i : Int, vs = [.int i] ∧ Q (.bl true) H
theorem sc_whole : FnScope n_is_whole ["thing"] (defScope s_is_whole) := ⟨rfl, rfl, rfl, by decide +kernel, rfl, by decide +kernel, by decide +kernel⟩
theorem ok_whole (B : Bl mg) (a : At K mg "is_whole" s_is_whole) : Df P w K mg base "is_whole" 1 ["thing"] spWhole := by
  refine Df.mk' a sc_whole (fun vs H Q E h => ?_) (fun _ _ _ _ _ _ us hl => match us, hl with | [_], _ => rfl) (fun f cdv A outer s H vs Q E hr h => ?_)
  · obtain ⟨v, rfl, _⟩ := h
    rfl
  obtain ⟨i, rfl, q⟩ := h
  refine ⟨_, pss_one (ps_ret (pe_and (pe_callB call_isi (by rfl) B.isinstance (by decide +kernel) (pa_cons (pv 0) (pa_cons (pe_bltn (v := .ty "int") (by rfl) B.int (by decide +kernel) rfl) pa_nil)))
    (pe_one (pe_not (pe_callB call_isi (by rfl) B.isinstance (by decide +kernel) (pa_cons (pv 0) (pa_cons (pe_bltn (v := .ty "bool") (by rfl) B.bool (by decide +kernel) rfl) pa_nil))))))), ?_⟩
  refine ⟨_, rfl, _, _, _, _, true, rfl, .ty "int", .base (.int i), rfl, true, rfl, iteT ?_⟩
  exact ⟨_, rfl, _, _, _, _, false, rfl, .ty "bool", .base (.int i), rfl, false, rfl, q⟩
end
end HSP
namespace HSP
open PySem PySem.Spec PyProof.Rows L2
section
variable {P : Program} {w : World} {K : PySem.W.Frag} {mg : Str → Option Value} {base : Heap}
/-! ### is_tree -/
def spTree : Sp := fun vs H Q _ => ∃ (v : V) (t : Tr), vs = [v] ∧ TrAt H v t ∧ t.size ≤ 1000 ∧ ∀ H', Same H H' → Q (.bl true) H'
theorem sc_tree : FnScope n_is_tree ["thing"] (defScope s_is_tree) := ⟨rfl, rfl, rfl, by decide +kernel, rfl, by decide +kernel, by decide +kernel⟩
theorem ok_tree (B : Bl mg) (a : At K mg "is_tree" s_is_tree) : Df P w K mg base "is_tree" 1 ["thing"] spTree := by
  refine Df.mk' a sc_tree (fun vs H Q E h => ?_) (fun _ _ _ _ _ _ us hl => match us, hl with | [_], _ => rfl) (fun f cdv A outer s H vs Q E hr h => ?_)
  · obtain ⟨v, t, rfl, _⟩ := h
    rfl
  obtain ⟨v, t, rfl, ht, hz, q⟩ := h
  refine ⟨_, pss_cons (ps_set (i := 1) sc_tree.nd rfl (.inl rfl) (pe_lst (pa_cons (pv 0) pa_nil)))
    (pss_cons (ps_while PassesOwn.never (pt_truth (pv 1) (by intro _; rfl))
      (pss_cons (ps_set (i := 2) sc_tree.nd rfl (.inl rfl) (pe_bm0 PySem.F.plainAttrs_list PySem.F.slot_list_pop PySem.F.type_list_pop mt_pop (pv 1)))
      (pss_one (ps_if (pt_cmpR op_notN (pv 2) pe_non (nomark _))
        (pss_cons (ps_if (PW.pt (pw_or (pt_not (pt_val (pe_callB call_isi (by rfl) B.isinstance (by decide +kernel) (pa_cons (pv 2) (pa_cons (pe_bltn (v := .ty "tuple") (by rfl) B.tuple (by decide +kernel) rfl) pa_nil)))))
            (pw_or1 (pt_cmpR op_ne (pe_callB call_len_seq (by rfl) B.len PySem.boot_len (pa_cons (pv 2) pa_nil)) pe_int (nomark _)))))
          (pss_one (ps_ret pe_bl)) pss_nil)
        (pss_cons (ps_expr (pe_bm PySem.F.plainAttrs_list PySem.F.slot_list_append PySem.F.type_list_append mt_append (pv 1) (pa_cons (pe_ix ix_tup (pv 2) pe_int (fun _ _ => rfl)) pa_nil)))
        (pss_one (ps_expr (pe_bm PySem.F.plainAttrs_list PySem.F.slot_list_append PySem.F.type_list_append mt_append (pv 1) (pa_cons (pe_ix ix_tup (pv 2) pe_int (fun _ _ => rfl)) pa_nil)))))) pss_nil))))
    (pss_one (ps_ret pe_bl))), ?_⟩
  refine ⟨v, rfl, (by show 1 ≤ sizeLine; decide), fun l hl => ?_⟩
  have s0 : Same H (upd H l (.lst [v])) := Same.new hl
  refine ⟨fun m σ H1 => ∃ (vs : List V) (ts : List Tr) (n : Nat) (y : Option V), σ = [some v, some (.ref l), y] ∧ Same H H1 ∧ H1 l = some (.lst vs.reverse) ∧ Waits H vs ts ∧ n + sizes ts = t.size ∧ vs.length ≤ n + 1 ∧ m = turns ts,
    ⟨_, [v], [t], 0, none, rfl, s0, upd_same, .cons ht .nil, by show 0 + (t.size + 0) = t.size; omega, by show 1 ≤ 0 + 1; omega, rfl⟩, fun m σ H1 hW => ?_⟩
  obtain ⟨vs, ts, n, y, rfl, sm, el, hw, hn, hlen, rfl⟩ := hW
  refine ⟨.ref l, rfl, !vs.reverse.isEmpty, .inl ⟨_, .of el, rfl⟩, ?_⟩
  rw [rev_empty]
  cases hw with
  | nil => exact iteF (q _ sm)
  | @cons x u xs us hx hxs =>
    refine iteT ⟨fun σ' H' => ∃ m', m' < turns (u :: us) ∧ ∃ (vs : List V) (ts : List Tr) (n : Nat) (y : Option V), σ' = [some v, some (.ref l), y] ∧ Same H H' ∧ H' l = some (.lst vs.reverse) ∧ Waits H vs ts ∧ n + sizes ts = t.size ∧ vs.length ≤ n + 1 ∧ m' = turns ts,
      fun σ' H' hN => hN, ?_⟩
    refine ⟨.ref l, rfl, .inl ⟨rfl, _, .of el⟩, l, _, x, rfl, rfl, el, last_rev, ?_⟩
    rw [drop_rev]
    have sm2 : Same H (upd H1 l (.lst xs.reverse)) := fun b o e => by rw [upd_ne (ne_of_none e hl)]; exact sm b o e
    refine ⟨x, rfl, rfl, _, rfl, ?_⟩
    cases hx with
    | nil =>
      refine iteF ?_
      refine ⟨_, ?_, xs, us, n, _, rfl, sm2, upd_same, hxs, ?_, ?_, rfl⟩
      · show turns us < 2 * 0 + 1 + turns us; omega
      · have : 0 + sizes us = sizes (Tr.nil :: us) := rfl
        omega
      · rw [List.length_cons] at hlen; omega
    | @nod a x1 y1 l1 r1 ea hl1 hr1 =>
      refine iteT ?_
      have e2 : (upd H1 l (.lst xs.reverse)) a = some (.tup [x1, y1]) := sm2 _ _ ea
      refine ⟨_, rfl, _, _, _, _, true, rfl, .ty "tuple", .base (.tup e2), rfl, true, rfl, iteF ?_⟩
      refine ⟨_, rfl, a, _, rfl, .inr (.of e2), rfl, _, rfl, iteF ?_⟩
      refine ⟨_, rfl, .inl ⟨rfl, _, .of upd_same⟩, _, rfl, a, _, _, y1, rfl, rfl, .of e2, atI_nat (j := 1) rfl, l, _, _, rfl, rfl, upd_same, ?_, ?_⟩
      · rw [List.length_reverse]
        rw [List.length_cons] at hlen
        exact small1000 (by omega)
      refine ⟨_, rfl, .inl ⟨rfl, _, .of upd_same⟩, _, rfl, a, _, _, x1, rfl, rfl, .of (by rw [upd_ne (ne_of_none ea hl)]; exact e2), atI_nat (xs := [x1, y1]) (j := 0) rfl, l, _, _, rfl, rfl, upd_same, ?_, ?_⟩
      · rw [List.length_append, List.length_reverse, List.length_singleton]
        rw [List.length_cons] at hlen
        have e1 : sizes (Tr.nod l1 r1 :: us) = (l1.size + 1 + r1.size) + sizes us := rfl
        exact small1000 (by omega)
      rw [rev_push, rev_push]
      refine ⟨_, ?_, x1 :: y1 :: xs, l1 :: r1 :: us, n + 1, _, rfl, fun b o e => ?_, upd_same, .cons hl1 (.cons hr1 hxs), ?_, ?_, rfl⟩
      · show 2 * l1.size + 1 + (2 * r1.size + 1 + turns us) < 2 * (l1.size + 1 + r1.size) + 1 + turns us
        omega
      · rw [upd_ne (ne_of_none e hl), upd_ne (ne_of_none e hl)]
        exact sm2 b o e
      · have e1 : sizes (Tr.nod l1 r1 :: us) = (l1.size + 1 + r1.size) + sizes us := rfl
        show n + 1 + (l1.size + (r1.size + sizes us)) = t.size
        omega
      · rw [List.length_cons] at hlen
        show xs.length + 1 + 1 ≤ n + 1 + 1
        omega
/-! ### check_tree -/
theorem sc_chkT : FnScope n_check_tree ["tree"] (defScope s_check_tree) := ⟨rfl, rfl, rfl, by decide +kernel, rfl, by decide +kernel, by decide +kernel⟩
def spChkT : Sp := fun vs H Q _ => ∃ (v : V) (t : Tr), vs = [v] ∧ TrAt H v t ∧ t.size ≤ 1000 ∧ ∀ H', Same H H' → Q .non H'
theorem ok_chkT (T : Df P w K mg base "is_tree" 1 ["thing"] spTree) (a : At K mg "check_tree" s_check_tree) : Df P w K mg base "check_tree" 2 ["tree"] spChkT := by
  refine Df.mk' a sc_chkT (fun vs H Q E h => ?_) (fun _ _ _ _ _ _ us hl => match us, hl with | [_], _ => rfl) (fun f cdv A outer s H vs Q E hr h => ?_)
  · obtain ⟨v, t, rfl, _⟩ := h
    rfl
  obtain ⟨v, t, rfl, ht, hz, q⟩ := h
  refine ⟨_, pss_one (ps_if (pt_not (pt_val (pe_df T hr (pa_cons (pv 0) pa_nil)))) (pss_one ps_never) pss_nil), ?_⟩
  refine ⟨v, rfl, v, t, rfl, ht, hz, fun H' sm => ⟨true, rfl, iteF ?_⟩⟩
  exact q H' sm
end
end HSP
namespace HSP
open PySem PySem.Spec PyProof.Rows L2
/-! ## max(.., default=None), min(.., default=None) of ints -/
theorem maxOf_spec : ∀ (ys : List Int) (y : Int), (PySem.W.maxOf y ys) ∈ y :: ys ∧ ∀ z, z ∈ y :: ys → z ≤ PySem.W.maxOf y ys
  | [], y => ⟨List.mem_cons_self, fun z hz => by rw [List.mem_singleton.mp hz]; exact Int.le_refl y⟩
  | x :: r, y => by
    have e : PySem.W.maxOf y (x :: r) = PySem.W.maxOf (if y < x then x else y) r := by
      unfold PySem.W.maxOf
      rw [List.foldl_cons]
      show List.foldl _ (if decide (y < x) = true then x else y) r = _
      by_cases c : y < x
      · rw [if_pos c, if_pos (decide_eq_true c)]
      · rw [if_neg c, if_neg (fun z => c (of_decide_eq_true z))]
    rw [e]
    obtain ⟨h1, h2⟩ := maxOf_spec r (if y < x then x else y)
    generalize PySem.W.maxOf (if y < x then x else y) r = M at h1 h2 ⊢
    constructor
    · rcases List.mem_cons.mp h1 with z | z
      · rw [z]
        split
        · exact List.mem_cons_of_mem _ List.mem_cons_self
        · exact List.mem_cons_self
      · exact List.mem_cons_of_mem _ (List.mem_cons_of_mem _ z)
    · intro z hz
      have h3 := h2 (if y < x then x else y) List.mem_cons_self
      rcases List.mem_cons.mp hz with q | q
      · rw [q]
        split at h3 <;> omega
      · rcases List.mem_cons.mp q with q | q
        · rw [q]
          split at h3 <;> omega
        · exact h2 z (List.mem_cons_of_mem _ q)
theorem minOf_spec : ∀ (ys : List Int) (y : Int), (PySem.W.minOf y ys) ∈ y :: ys ∧ ∀ z, z ∈ y :: ys → PySem.W.minOf y ys ≤ z
  | [], y => ⟨List.mem_cons_self, fun z hz => by rw [List.mem_singleton.mp hz]; exact Int.le_refl y⟩
  | x :: r, y => by
    have e : PySem.W.minOf y (x :: r) = PySem.W.minOf (if x < y then x else y) r := by
      unfold PySem.W.minOf
      rw [List.foldl_cons]
      show List.foldl _ (if decide (x < y) = true then x else y) r = _
      by_cases c : x < y
      · rw [if_pos c, if_pos (decide_eq_true c)]
      · rw [if_neg c, if_neg (fun z => c (of_decide_eq_true z))]
    rw [e]
    obtain ⟨h1, h2⟩ := minOf_spec r (if x < y then x else y)
    generalize PySem.W.minOf (if x < y then x else y) r = M at h1 h2 ⊢
    constructor
    · rcases List.mem_cons.mp h1 with z | z
      · rw [z]
        split
        · exact List.mem_cons_of_mem _ List.mem_cons_self
        · exact List.mem_cons_self
      · exact List.mem_cons_of_mem _ (List.mem_cons_of_mem _ z)
    · intro z hz
      have h3 := h2 (if x < y then x else y) List.mem_cons_self
      rcases List.mem_cons.mp hz with q | q
      · rw [q]
        split at h3 <;> omega
      · rcases List.mem_cons.mp q with q | q
        · rw [q]
          split at h3 <;> omega
        · exact h2 z (List.mem_cons_of_mem _ q)
theorem holds_is {h : Heap} {v : Value} {i : Int} (q : PySem.W.Holds h v i) : ∃ t, v = .int i t := by
  obtain ⟨as, r⟩ := q
  cases r with
  | int _ t => exact ⟨t, rfl⟩
section
variable {X : Cx}
def rMaxN : List V → List V → Hp → VK → Prop := fun vs zs H Q => ∃ (a : Addr) (ns : List Int), vs = [V.ref a] ∧ zs = [V.non] ∧ H a = some (.lst (ns.map V.int)) ∧ (ns = [] → Q .non H) ∧ ∀ m, m ∈ ns → (∀ y, y ∈ ns → y ≤ m) → Q (.int m) H
def rMinN : List V → List V → Hp → VK → Prop := fun vs zs H Q => ∃ (a : Addr) (ns : List Int), vs = [V.ref a] ∧ zs = [V.non] ∧ H a = some (.lst (ns.map V.int)) ∧ (ns = [] → Q .non H) ∧ ∀ m, m ∈ ns → (∀ y, y ∈ ns → m ≤ y) → Q (.int m) H
theorem crk_maxN (hc : X.calm = true) (hu : X.A.units + 64 < cLine) : CallRK X (.builtin "max") ["default"] rMaxN := by
  intro pins s σ H xs zs us ws Q I r rz h
  obtain ⟨a, ns, rfl, rfl, ha, q0, q1⟩ := h
  rw [Vals.ref1 r]
  obtain ⟨z, its, n, rv, e⟩ : ObjOk X.prog X.w H s.heap a (.lst (ns.map V.int)) := I.hok a _ ha
  cases rz with
  | cons r1 t1 =>
    cases t1
    cases (show _ = Value.none from r1)
    refine PySem.W.max_list_datum_default (I.ok.hd hc) (show s.heap.IsList a its.toArray from ⟨_, e, rfl, n, rfl⟩) (PySem.W.HoldAll.of_ints (ints_of_vals rv)) (by show X.A.units + 1 + 0 < cLine; omega) (fun e0 h' tk kp => ?_) (fun y ys i v h' tk ey _ hv kp => ?_)
    · exact ⟨.non, H, I.kept kp, rfl, q0 e0⟩
    · obtain ⟨t, rfl⟩ := holds_is hv
      obtain ⟨m1, m2⟩ := maxOf_spec ys y
      exact ⟨.int _, H, I.kept kp, ⟨t, rfl⟩, q1 _ (by rw [ey]; exact m1) (by rw [ey]; exact m2)⟩
theorem crk_minN (hc : X.calm = true) (hu : X.A.units + 64 < cLine) : CallRK X (.builtin "min") ["default"] rMinN := by
  intro pins s σ H xs zs us ws Q I r rz h
  obtain ⟨a, ns, rfl, rfl, ha, q0, q1⟩ := h
  rw [Vals.ref1 r]
  obtain ⟨z, its, n, rv, e⟩ : ObjOk X.prog X.w H s.heap a (.lst (ns.map V.int)) := I.hok a _ ha
  cases rz with
  | cons r1 t1 =>
    cases t1
    cases (show _ = Value.none from r1)
    refine PySem.W.min_list_datum_default (I.ok.hd hc) (show s.heap.IsList a its.toArray from ⟨_, e, rfl, n, rfl⟩) (PySem.W.HoldAll.of_ints (ints_of_vals rv)) (by show X.A.units + 1 + 0 < cLine; omega) (fun e0 h' tk kp => ?_) (fun y ys i v h' tk ey _ hv kp => ?_)
    · exact ⟨.non, H, I.kept kp, rfl, q0 e0⟩
    · obtain ⟨t, rfl⟩ := holds_is hv
      obtain ⟨m1, m2⟩ := minOf_spec ys y
      exact ⟨.int _, H, I.kept kp, ⟨t, rfl⟩, q1 _ (by rw [ey]; exact m1) (by rw [ey]; exact m2)⟩
end
end HSP
namespace HSP
open PySem PySem.Spec PyProof.Rows L2
theorem Paired.app {α β : Type} {R : α → β → Prop} : ∀ {l : List α} {m : List β} {l' : List α} {m' : List β}, Paired R l m → Paired R l' m' → Paired R (l ++ l') (m ++ m')
  | _, _, _, _, .nil, h => h
  | _, _, _, _, .cons a t, h => .cons a (Paired.app t h)
theorem ixN_in {n : Nat} {i : Int} (h0 : 0 ≤ i) (h1 : i < (n : Int)) : ixN n i = some i.toNat := by
  unfold ixN
  rw [if_pos h0, if_pos h1]
def valAt (ns : List Int) (i : Nat) : Int := ns.getD i 0
theorem valAt_get {ns : List Int} {i : Nat} (h : i < ns.length) : (ns.map V.int)[i]? = some (.int (valAt ns i)) := by
  rw [List.getElem?_map, List.getElem?_eq_getElem h, valAt, List.getD_eq_getElem?_getD, List.getElem?_eq_getElem h]
  rfl
def natV (n : Nat) : V := .int (n : Int)
theorem ite_no {c A B : Prop} [Decidable c] (h : ¬ c) (b : B) : if decide c = true then A else B := by
  rw [decide_eq_false h]
  exact iteF b
theorem ite_yes {c A B : Prop} [Decidable c] (h : c) (a : A) : if decide c = true then A else B := by
  rw [decide_eq_true h]
  exact iteT a
inductive Md where
  | fin | lft | rgt
def Md.str : Md → Str
  | .fin => "end"
  | .lft => "left"
  | .rgt => "right"
/-- where a search goes on -/
def wayOf (tw v : Int) (m : Md) : Md := if tw = 2 * v then m else if tw < 2 * v then .lft else .rgt
/-! ### the search, as a function of the tree -/
/-- how it ends: is it found, and the node or the gap -/
def sEnd (g : Nat → Int) (tw : Int) (m : Md) : Tr → Nat → Bool × Nat
  | .nil, f => (false, f)
  | .nod l r, f => match wayOf tw (g (f + l.size)) m with
    | .fin => (true, f + l.size)
    | .lft => sEnd g tw m l f
    | .rgt => sEnd g tw m r (f + l.size + 1)
theorem sEnd_nod (g : Nat → Int) (tw : Int) (m : Md) (l r : Tr) (f : Nat) : sEnd g tw m (.nod l r) f = match wayOf tw (g (f + l.size)) m with | .fin => (true, f + l.size) | .lft => sEnd g tw m l f | .rgt => sEnd g tw m r (f + l.size + 1) := rfl
/-- the nodes at which it is -/
def sPath (g : Nat → Int) (tw : Int) (m : Md) : Tr → Nat → List Nat
  | .nil, _ => []
  | .nod l r, f => (f + l.size) :: match wayOf tw (g (f + l.size)) m with
    | .fin => []
    | .lft => sPath g tw m l f
    | .rgt => sPath g tw m r (f + l.size + 1)
theorem sPath_in (g : Nat → Int) (tw : Int) (m : Md) : ∀ (t : Tr) (f i : Nat), i ∈ sPath g tw m t f → f ≤ i ∧ i < f + t.size
  | .nil, _, _, h => by cases h
  | .nod l r, f, i, h => by
    have e : sPath g tw m (.nod l r) f = (f + l.size) :: match wayOf tw (g (f + l.size)) m with | .fin => [] | .lft => sPath g tw m l f | .rgt => sPath g tw m r (f + l.size + 1) := rfl
    have z : (Tr.nod l r).size = l.size + 1 + r.size := rfl
    rw [e] at h
    rw [z]
    rcases List.mem_cons.mp h with q | q
    · omega
    · cases w : wayOf tw (g (f + l.size)) m with
      | fin => rw [w] at q; cases q
      | lft =>
        rw [w] at q
        have := sPath_in g tw m l f i q
        omega
      | rgt =>
        rw [w] at q
        have := sPath_in g tw m r (f + l.size + 1) i q
        omega
theorem sPath_len (g : Nat → Int) (tw : Int) (m : Md) : ∀ (t : Tr) (f : Nat), (sPath g tw m t f).length ≤ t.size
  | .nil, _ => Nat.le_refl _
  | .nod l r, f => by
    have e : sPath g tw m (.nod l r) f = (f + l.size) :: match wayOf tw (g (f + l.size)) m with | .fin => [] | .lft => sPath g tw m l f | .rgt => sPath g tw m r (f + l.size + 1) := rfl
    have z : (Tr.nod l r).size = l.size + 1 + r.size := rfl
    rw [e, z, List.length_cons]
    cases wayOf tw (g (f + l.size)) m with
    | fin => show 0 + 1 ≤ _; omega
    | lft => have := sPath_len g tw m l f; show (sPath g tw m l f).length + 1 ≤ _; omega
    | rgt => have := sPath_len g tw m r (f + l.size + 1); show (sPath g tw m r (f + l.size + 1)).length + 1 ≤ _; omega
def optNV : Option Nat → V
  | none => .non
  | some n => natV n
def kindV (b : Bool) : V := if b = true then .str "found" else .str "gap"
end HSP
namespace HSP
open PySem PySem.Spec PyProof.Rows L2
/-! ## heaps: all but some places stay -/
def Stay (X : List Addr) (H H' : Hp) : Prop := ∀ b o, b ∉ X → H b = some o → H' b = some o
theorem Stay.refl (X : List Addr) (H : Hp) : Stay X H H := fun _ _ _ e => e
theorem Stay.trans {X : List Addr} {H H1 H2 : Hp} (a : Stay X H H1) (b : Stay X H1 H2) : Stay X H H2 := fun c o n e => b c o n (a c o n e)
theorem Stay.of {X : List Addr} {H H' : Hp} (s : Same H H') : Stay X H H' := fun b o _ e => s b o e
theorem Stay.new {X : List Addr} {H : Hp} {p : Addr} {o : HO} (h : H p = none) : Stay X H (upd H p o) := fun b u _ e => by
  rw [upd_ne (ne_of_none e h)]; exact e
theorem Stay.at {X : List Addr} {H : Hp} {p : Addr} {o : HO} (h : p ∈ X) : Stay X H (upd H p o) := fun b u n e => by
  rw [upd_ne (fun z : b = p => n (by rw [z]; exact h))]; exact e
theorem Stay.mono {X Y : List Addr} {H H' : Hp} (a : Stay X H H') (h : ∀ x, x ∈ X → x ∈ Y) : Stay Y H H' := fun b o n e => a b o (fun z => n (h b z)) e
theorem Stay.then {X : List Addr} {H H1 H2 : Hp} (a : Stay X H H1) (b : Same H1 H2) : Stay X H H2 := a.trans (.of b)
theorem Stay.anew {X : List Addr} {H H1 : Hp} {p : Addr} {o : HO} (a : Stay X H H1) (h : H1 p = none) : Stay X H (upd H1 p o) := a.trans (.new h)
theorem Stay.put {X : List Addr} {H H1 : Hp} {p : Addr} {o : HO} (a : Stay X H H1) (h : p ∈ X) : Stay X H (upd H1 p o) := a.trans (.at h)
theorem Stay.free {X : List Addr} {H H' : Hp} {b : Addr} (a : Stay X H H') (n : b ∉ X) (h : H' b = none) : H b = none := by
  cases e : H b with
  | none => rfl
  | some o => cases h.symm.trans (a b o n e)
/-- what was not tracked at first may be written -/
theorem Stay.same {X : List Addr} {H H1 H' : Hp} (s : Same H H1) (n : ∀ x, x ∈ X → H x = none) (k : Stay X H1 H') : Same H H' := fun b o e => k b o (fun z => by rw [n b z] at e; cases e) (s b o e)
theorem no2 {a b c : Addr} (h1 : a ≠ b) (h2 : a ≠ c) : a ∉ [b, c] := fun z => by
  rcases List.mem_cons.mp z with q | q
  · exact h1 q
  · exact h2 (List.mem_singleton.mp q)
theorem no1 {a b : Addr} (h1 : a ≠ b) : a ∉ [b] := fun z => h1 (List.mem_singleton.mp z)
theorem in2l {a b : Addr} : a ∈ [a, b] := List.mem_cons_self
theorem in2r {a b : Addr} : b ∈ [a, b] := List.mem_cons_of_mem _ List.mem_cons_self
theorem in1 {a : Addr} : a ∈ [a] := List.mem_cons_self
theorem tup_ne {H : Hp} {a b : Addr} {xs ys : List V} (h : H a = some (.tup xs)) (h2 : H b = some (.lst ys)) : a ≠ b := fun z => by
  rw [z, h2] at h; cases h
theorem TrAt.stay {X : List Addr} {H H' : Hp} {v : V} {t : Tr} (h : TrAt H v t) (k : Stay X H H') (n : ∀ x, x ∈ X → ∃ ys, H x = some (.lst ys)) : TrAt H' v t :=
  h.keep fun a x y e => k a _ (fun z => by
    obtain ⟨ys, q⟩ := n a z
    rw [q] at e
    cases e) e
theorem valAt_mem {ns : List Int} {i : Nat} (h : i < ns.length) : valAt ns i ∈ ns := by
  have e : valAt ns i = ns[i] := by
    unfold valAt
    rw [List.getD_eq_getElem?_getD, List.getElem?_eq_getElem h]
    rfl
  rw [e]
  exact List.getElem_mem h
theorem TrAt.put {H : Hp} {v : V} {t : Tr} {a : Addr} {xs : List V} {o : HO} (h : TrAt H v t) (e : H a = some (.lst xs)) : TrAt (upd H a o) v t := by
  refine h.keep fun b x y eb => ?_
  rw [upd_ne]
  · exact eb
  · intro z
    rw [z, e] at eb
    cases eb
theorem Keep.free {p q : Addr} {H H' : Hp} (k : Keep p H H') (n : q ≠ p) (h : H' q = none) : H q = none := by
  cases e : H q with
  | none => rfl
  | some o => cases h.symm.trans (k q o n e)
theorem Paired.getL {α β : Type} {R : α → β → Prop} : ∀ {l : List α} {m : List β} {i : Nat} {x : α}, Paired R l m → l[i]? = some x → ∃ y, m[i]? = some y ∧ R x y
  | _, _, i, _, .nil, e => by simp at e
  | _, _, 0, _, .cons h _, e => by
    cases Option.some.inj (show some _ = some _ from e)
    exact ⟨_, rfl, h⟩
  | _, _, i + 1, _, .cons _ t, e => Paired.getL (i := i) t e
end HSP
namespace HSP
open PySem PySem.Spec PyProof.Rows L2
/-! ### the paths of the nodes -/
/-- the ancestors of the node i, from the root down, and whether it lies right of them -/
def pOf : Tr → Nat → Nat → List (Nat × Bool)
  | .nil, _, _ => []
  | .nod l r, f, i => if i = f + l.size then [] else if i < f + l.size then (f + l.size, false) :: pOf l f i else (f + l.size, true) :: pOf r (f + l.size + 1) i
def sideV (b : Bool) : V := if b = true then .str "right" else .str "left"
/-- a path stands at r -/
def PathAt (H : Hp) (r : Addr) (p : List (Nat × Bool)) : Prop := ∃ tups : List Addr, H r = some (.lst (tups.map V.ref)) ∧ Paired (fun a (z : Nat × Bool) => H a = some (.tup [natV z.1, sideV z.2])) tups p
theorem PathAt.same {H H' : Hp} {r : Addr} {p : List (Nat × Bool)} (h : PathAt H r p) (s : Same H H') : PathAt H' r p := by
  obtain ⟨t, e, q⟩ := h
  exact ⟨t, s _ _ e, Paired.mapP q fun a z h => s _ _ h⟩
theorem PathAt.put {H : Hp} {r x : Addr} {p : List (Nat × Bool)} {xs ys : List V} (h : PathAt H r p) (n : r ≠ x) (hx : H x = some (.lst xs)) : PathAt (upd H x (.lst ys)) r p := by
  obtain ⟨t, e, q⟩ := h
  refine ⟨t, by rw [upd_ne n]; exact e, Paired.mapP q fun a z h => ?_⟩
  rw [upd_ne (fun e2 => by rw [e2, hx] at h; cases h)]
  exact h
theorem PathAt.stay {X : List Addr} {H H' : Hp} {r : Addr} {p : List (Nat × Bool)} (h : PathAt H r p) (k : Stay X H H') (n : r ∉ X) (hX : ∀ x, x ∈ X → ∃ ys, H x = some (.lst ys)) : PathAt H' r p := by
  obtain ⟨t, e, q⟩ := h
  refine ⟨t, k _ _ n e, Paired.mapP q fun a z h => k _ _ (fun m => ?_) h⟩
  obtain ⟨ys, e2⟩ := hX a m
  rw [e2] at h
  cases h
theorem PathAt.len {H : Hp} {r : Addr} {p : List (Nat × Bool)} {ts : List Addr} (h : Paired (fun a (z : Nat × Bool) => H a = some (.tup [natV z.1, sideV z.2])) ts p) : ts.length = p.length := Paired.length h
/-- all paths stand in the list at q, each one in a list of its own -/
def WaysAt (H : Hp) (q : Addr) (t : Tr) : Prop := ∃ rows : List Addr, H q = some (.lst (rows.map V.ref)) ∧ rows.length = t.size ∧ ∀ i r, rows[i]? = some r → PathAt H r (pOf t 0 i)
theorem pOf_len : ∀ (t : Tr) (f i : Nat), (pOf t f i).length ≤ t.size
  | .nil, _, _ => Nat.le_refl _
  | .nod l r, f, i => by
    have h1 := pOf_len l f i
    have h2 := pOf_len r (f + l.size + 1) i
    unfold pOf
    show _ ≤ l.size + 1 + r.size
    split
    · exact Nat.zero_le _
    · split <;> (rw [List.length_cons]; omega)
theorem pOf_in : ∀ (t : Tr) (f i : Nat) (z : Nat × Bool), z ∈ pOf t f i → f ≤ z.1 ∧ z.1 < f + t.size
  | .nil, _, _, _, h => by cases h
  | .nod l r, f, i, z, h => by
    have e : pOf (.nod l r) f i = if i = f + l.size then [] else if i < f + l.size then (f + l.size, false) :: pOf l f i else (f + l.size, true) :: pOf r (f + l.size + 1) i := rfl
    have sz : (Tr.nod l r).size = l.size + 1 + r.size := rfl
    rw [e] at h
    rw [sz]
    split at h
    · cases h
    · split at h
      · rcases List.mem_cons.mp h with q | q
        · rw [q]
          exact ⟨(by show f ≤ f + l.size; omega), (by show f + l.size < f + (l.size + 1 + r.size); omega)⟩
        · have := pOf_in l f i z q
          omega
      · rcases List.mem_cons.mp h with q | q
        · rw [q]
          exact ⟨(by show f ≤ f + l.size; omega), (by show f + l.size < f + (l.size + 1 + r.size); omega)⟩
        · have := pOf_in r (f + l.size + 1) i z q
          omega
theorem pOf_in0 (t : Tr) (i : Nat) (z : Nat × Bool) (h : z ∈ pOf t 0 i) : z.1 < t.size := by
  have := pOf_in t 0 i z h
  omega
/-- the nodes, the root first, then those of the left part, then those of the right part, each with its path -/
def pre : Tr → Nat → List (Nat × Bool) → List (Nat × List (Nat × Bool))
  | .nil, _, _ => []
  | .nod l r, f, p => (f + l.size, p) :: (pre l f (p ++ [(f + l.size, false)]) ++ pre r (f + l.size + 1) (p ++ [(f + l.size, true)]))
theorem pre_len : ∀ (t : Tr) (f : Nat) (p : List (Nat × Bool)), (pre t f p).length = t.size
  | .nil, _, _ => rfl
  | .nod l r, f, p => by
    show ((f + l.size, p) :: (pre l f (p ++ [(f + l.size, false)]) ++ pre r (f + l.size + 1) (p ++ [(f + l.size, true)]))).length = l.size + 1 + r.size
    rw [List.length_cons, List.length_append, pre_len l, pre_len r]
    omega
theorem pOf_nod (l r : Tr) (f i : Nat) : pOf (.nod l r) f i = if i = f + l.size then [] else if i < f + l.size then (f + l.size, false) :: pOf l f i else (f + l.size, true) :: pOf r (f + l.size + 1) i := rfl
theorem pre_nod (l r : Tr) (f : Nat) (p : List (Nat × Bool)) : pre (.nod l r) f p = (f + l.size, p) :: (pre l f (p ++ [(f + l.size, false)]) ++ pre r (f + l.size + 1) (p ++ [(f + l.size, true)])) := rfl
theorem size_nod (l r : Tr) : (Tr.nod l r).size = l.size + 1 + r.size := rfl
theorem pre_in : ∀ (t : Tr) (f : Nat) (p : List (Nat × Bool)) (n : Nat) (s : List (Nat × Bool)), (n, s) ∈ pre t f p → f ≤ n ∧ n < f + t.size ∧ s = p ++ pOf t f n
  | .nil, _, _, _, _, h => by cases h
  | .nod l r, f, p, n, s, h => by
    rw [pre_nod] at h
    rw [size_nod, pOf_nod]
    rcases List.mem_cons.mp h with z | z
    · obtain ⟨rfl, rfl⟩ := Prod.mk.inj z
      refine ⟨by omega, by omega, ?_⟩
      rw [if_pos rfl, List.append_nil]
    · rcases List.mem_append.mp z with z | z
      · obtain ⟨h1, h2, h3⟩ := pre_in l f _ n s z
        refine ⟨h1, by omega, ?_⟩
        rw [if_neg (by omega), if_pos (by omega), h3, List.append_assoc]
        rfl
      · obtain ⟨h1, h2, h3⟩ := pre_in r (f + l.size + 1) _ n s z
        refine ⟨by omega, by omega, ?_⟩
        rw [if_neg (by omega), if_neg (by omega), h3, List.append_assoc]
        rfl
theorem pre_mem : ∀ (t : Tr) (f : Nat) (p : List (Nat × Bool)) (n : Nat), f ≤ n → n < f + t.size → (n, p ++ pOf t f n) ∈ pre t f p
  | .nil, f, _, n, h1, h2 => by
    have : n < f + 0 := h2
    omega
  | .nod l r, f, p, n, h1, h2 => by
    rw [size_nod] at h2
    rw [pre_nod, pOf_nod]
    by_cases c : n = f + l.size
    · rw [if_pos c, List.append_nil, c]
      exact List.mem_cons_self
    · rw [if_neg c]
      refine List.mem_cons_of_mem _ ?_
      by_cases d : n < f + l.size
      · rw [if_pos d]
        have h := pre_mem l f (p ++ [(f + l.size, false)]) n h1 d
        rw [List.append_assoc] at h
        exact List.mem_append.mpr (.inl h)
      · rw [if_neg d]
        have h := pre_mem r (f + l.size + 1) (p ++ [(f + l.size, true)]) n (by omega) (by omega)
        rw [List.append_assoc] at h
        exact List.mem_append.mpr (.inr h)
/-- a row: a node with its path -/
def RowAt (H : Hp) (R : Addr) (z : Nat × List (Nat × Bool)) : Prop := ∃ b, H R = some (.tup [natV z.1, .ref b]) ∧ PathAt H b z.2
theorem RowAt.same {H H' : Hp} {R : Addr} {z : Nat × List (Nat × Bool)} (h : RowAt H R z) (s : Same H H') : RowAt H' R z := by
  obtain ⟨b, e, q⟩ := h
  exact ⟨b, s _ _ e, q.same s⟩
/-- what waits: a tree, its first node, the path to it -/
structure Wt where
  v : V
  u : Tr
  f : Nat
  b : Addr
  p : List (Nat × Bool)
def WtOk (H0 H : Hp) (X : List Addr) (T : Addr) (x : Wt) : Prop := H T = some (.tup [x.v, natV x.f, .ref x.b]) ∧ TrAt H0 x.v x.u ∧ PathAt H x.b x.p ∧ x.b ∉ X ∧ H0 x.b = none
theorem WtOk.stay {H0 H H' : Hp} {X : List Addr} {T : Addr} {x : Wt} (h : WtOk H0 H X T x) (s : Stay X H H') (hX : ∀ x, x ∈ X → ∃ ys, H x = some (.lst ys)) : WtOk H0 H' X T x := by
  obtain ⟨h1, h2, h3, h4, h5⟩ := h
  refine ⟨s _ _ (fun m => ?_) h1, h2, h3.stay s h4 hX, h4, h5⟩
  obtain ⟨ys, e⟩ := hX T m
  rw [e] at h1
  cases h1
def RowOk (H0 H : Hp) (X : List Addr) (R : Addr) (z : Nat × List (Nat × Bool)) : Prop := ∃ b, H R = some (.tup [natV z.1, .ref b]) ∧ PathAt H b z.2 ∧ b ∉ X ∧ H0 b = none
theorem RowOk.stay {H0 H H' : Hp} {X : List Addr} {R : Addr} {z : Nat × List (Nat × Bool)} (h : RowOk H0 H X R z) (s : Stay X H H') (hX : ∀ x, x ∈ X → ∃ ys, H x = some (.lst ys)) : RowOk H0 H' X R z := by
  obtain ⟨b, h1, h2, h3, h4⟩ := h
  refine ⟨b, s _ _ (fun m => ?_) h1, h2.stay s h3 hX, h3, h4⟩
  obtain ⟨ys, e⟩ := hX R m
  rw [e] at h1
  cases h1
def wtTurns : List Wt → Nat
  | [] => 0
  | x :: r => 2 * x.u.size + 1 + wtTurns r
def wtSizes : List Wt → Nat
  | [] => 0
  | x :: r => x.u.size + wtSizes r
def wtPre : List Wt → List (Nat × List (Nat × Bool))
  | [] => []
  | x :: r => pre x.u x.f x.p ++ wtPre r
/-- a path with one step more, laid anew -/
theorem path_more {H : Hp} {t1 l1 a1 : Addr} {p : List (Nat × Bool)} {z : Nat × Bool} {tups : List Addr} {x y : V} (hx : x = natV z.1) (hy : y = sideV z.2) (hp : Paired (fun a (z : Nat × Bool) => H a = some (.tup [natV z.1, sideV z.2])) tups p) (h1 : H t1 = none) (h2 : upd H t1 (.tup [x, y]) l1 = none)
    (h3 : upd (upd H t1 (.tup [x, y])) l1 (.lst [V.ref t1]) a1 = none) : PathAt (upd (upd (upd H t1 (.tup [x, y])) l1 (.lst [V.ref t1])) a1 (.lst (tups.map V.ref ++ [V.ref t1]))) a1 (p ++ [z]) := by
  subst hx hy
  have s1 := Same.new (o := .tup [natV z.1, sideV z.2]) h1
  have s2 := Same.new (o := .lst [V.ref t1]) h2
  have s3 := Same.new (o := .lst (tups.map V.ref ++ [V.ref t1])) h3
  refine ⟨tups ++ [t1], ?_, Paired.app (Paired.mapP hp fun a z h => s3 _ _ (s2 _ _ (s1 _ _ h))) (.cons (s3 _ _ (s2 _ _ upd_same)) .nil)⟩
  rw [upd_same, List.map_append]
  rfl
section
variable {P : Program} {w : World} {K : PySem.W.Frag} {mg : Str → Option Value} {base : Heap}
theorem sc_walk : FnScope n_walk ["tree"] (defScope s_walk) := ⟨rfl, rfl, rfl, by decide +kernel, rfl, by decide +kernel, by decide +kernel⟩
def spWalk : Sp := fun vs H Q _ => ∃ (v : V) (t : Tr), vs = [v] ∧ TrAt H v t ∧ t.size ≤ 300 ∧ ∀ (H' : Hp) (q : Addr) (rows : List Addr), Same H H' → H q = none → H' q = some (.lst (rows.map V.ref)) → Paired (fun R z => ∃ b, H' R = some (.tup [natV z.1, .ref b]) ∧ PathAt H' b z.2 ∧ b ≠ q ∧ H b = none) rows (pre t 0 []) → Q (.ref q) H'
theorem ok_walk (C : Df P w K mg base "count_nodes" 1 ["tree"] spCount) (a : At K mg "walk" s_walk) : Df P w K mg base "walk" 2 ["tree"] spWalk := by
  refine Df.mk' a sc_walk (fun vs H Q E h => ?_) (fun _ _ _ _ _ _ us hl => match us, hl with | [_], _ => rfl) (fun f cdv A outer s H vs Q E hr h => ?_)
  · obtain ⟨v, t, rfl, _⟩ := h
    rfl
  obtain ⟨v, t, rfl, ht, hz, q⟩ := h
  refine ⟨_, (pss_cons (ps_set (i := 1) sc_walk.nd rfl (.inl rfl) (pe_lst pa_nil))
 (pss_cons (ps_set (i := 2) sc_walk.nd rfl (.inl rfl) (pe_lst (pa_cons (pe_tup (pa_cons (pv 0) (pa_cons pe_int (pa_cons (pe_lst pa_nil) pa_nil)))) pa_nil)))
 (pss_cons (ps_while PassesOwn.never (pt_truth (pv 2) (by intro _; rfl)) (pss_cons (ps_asg (pe_bm0 PySem.F.plainAttrs_list PySem.F.slot_list_pop PySem.F.type_list_pop mt_pop (pv 2)) (pg_tup rfl (pgs_cons (pg_name (i := 3) sc_walk.nd rfl (.inl rfl)) (pgs_cons (pg_name (i := 4) sc_walk.nd rfl (.inl rfl)) (pgs_cons (pg_name (i := 5) sc_walk.nd rfl (.inl rfl)) pgs_nil)))))
 (pss_one (ps_if (pt_cmpR op_notN (pv 3) pe_non (nomark _)) (pss_cons (ps_asg (pv 3) (pg_tup rfl (pgs_cons (pg_name (i := 6) sc_walk.nd rfl (.inl rfl)) (pgs_cons (pg_name (i := 7) sc_walk.nd rfl (.inl rfl)) pgs_nil))))
 (pss_cons (ps_set (i := 8) sc_walk.nd rfl (.inl rfl) (pe_op op_add (pv 4) (pe_df C hr (pa_cons (pv 6) pa_nil))))
 (pss_cons (ps_expr (pe_bm PySem.F.plainAttrs_list PySem.F.slot_list_append PySem.F.type_list_append mt_append (pv 1) (pa_cons (pe_tup (pa_cons (pv 8) (pa_cons (pv 5) pa_nil))) pa_nil)))
 (pss_cons (ps_expr (pe_bm PySem.F.plainAttrs_list PySem.F.slot_list_append PySem.F.type_list_append mt_append (pv 2) (pa_cons (pe_tup (pa_cons (pv 7) (pa_cons (pe_op op_add (pv 8) pe_int) (pa_cons (pe_op op_cat (pv 5) (pe_lst (pa_cons (pe_tup (pa_cons (pv 8) (pa_cons pe_str pa_nil))) pa_nil))) pa_nil)))) pa_nil)))
 (pss_one (ps_expr (pe_bm PySem.F.plainAttrs_list PySem.F.slot_list_append PySem.F.type_list_append mt_append (pv 2) (pa_cons (pe_tup (pa_cons (pv 6) (pa_cons (pv 4) (pa_cons (pe_op op_cat (pv 5) (pe_lst (pa_cons (pe_tup (pa_cons (pv 8) (pa_cons pe_str pa_nil))) pa_nil))) pa_nil)))) pa_nil)))))))) pss_nil))))
 (pss_one (ps_ret (pv 1)))))), ?_⟩
  refine ⟨Nat.zero_le _, fun q0 hq => ?_⟩
  refine ⟨v, rfl, Nat.zero_le _, fun ab hab => ⟨(by show 3 ≤ sizeLine; decide), fun T0 hT0 => ⟨(by show 1 ≤ sizeLine; decide), fun wl hwl => ?_⟩⟩⟩
  have t0 : Same H (upd H q0 (.lst [])) := Same.new hq
  have t1 := Same.new (o := .lst []) hab
  have t2 := Same.new (o := .tup [v, V.int 0, .ref ab]) hT0
  have t3 := Same.new (o := .lst [V.ref T0]) hwl
  have s3 := t0.trans (t1.trans (t2.trans t3))
  have hw : H wl = none := t0.free (t1.free (t2.free hwl))
  have eq3 := t3 _ _ (t2 _ _ (t1 _ _ (upd_same (H := H) (a := q0) (o := .lst []))))
  have nqw : q0 ≠ wl := ne_of_none (t2 _ _ (t1 _ _ upd_same)) hwl
  have nabw : ab ≠ wl := ne_of_none (t2 _ _ upd_same) hwl
  have nabq : ab ≠ q0 := (ne_of_none upd_same hab).symm
  have w0 : WtOk H (upd (upd (upd (upd H q0 (.lst [])) ab (.lst [])) T0 (.tup [v, V.int 0, .ref ab])) wl (.lst [V.ref T0])) [wl, q0] T0 ⟨v, t, 0, ab, []⟩ := ⟨t3 _ _ upd_same, ht, ⟨[], t3 _ _ (t2 _ _ upd_same), .nil⟩, no2 nabw nabq, t0.free hab⟩
  refine ⟨fun m σ H' => ∃ (ts : List Addr) (ws : List Wt) (rows : List Addr) (dn : List (Nat × List (Nat × Bool))) (y3 y4 y5 y6 y7 y8 : Option V), σ = [some v, some (.ref q0), some (.ref wl), y3, y4, y5, y6, y7, y8] ∧ Same H H' ∧ H' wl = some (.lst (ts.map V.ref).reverse) ∧ Paired (WtOk H H' [wl, q0]) ts ws ∧ H' q0 = some (.lst (rows.map V.ref)) ∧ Paired (RowOk H H' [wl, q0]) rows dn ∧
      pre t 0 [] = dn ++ wtPre ws ∧ (∀ x, x ∈ ws → x.p.length + x.u.size ≤ t.size) ∧ dn.length + wtSizes ws ≤ t.size ∧ ts.length + wtSizes ws ≤ t.size + 1 ∧ m = wtTurns ws,
    ⟨_, [T0], [⟨v, t, 0, ab, []⟩], [], [], _, _, _, _, _, _, rfl, s3, upd_same, .cons w0 .nil, eq3, .nil, ?_, fun x hx => ?_, ?_, ?_, rfl⟩, fun m σ H3 hW => ?_⟩
  · show pre t 0 [] = [] ++ (pre t 0 [] ++ [])
    rw [List.nil_append, List.append_nil]
  · rw [List.mem_singleton.mp hx]
    show 0 + t.size ≤ t.size
    omega
  · show 0 + (t.size + 0) ≤ t.size; omega
  · show 1 + (t.size + 0) ≤ t.size + 1; omega
  obtain ⟨ts, ws, rows, dn, y3, y4, y5, y6, y7, y8, rfl, s4, ew, pw, eq, pd, hpre, hin, hsz, hcnt, rfl⟩ := hW
  have hX : ∀ x, x ∈ [wl, q0] → ∃ ys, H3 x = some (.lst ys) := fun x hx => by
    rcases List.mem_cons.mp hx with z | z
    · exact ⟨_, z ▸ ew⟩
    · exact ⟨_, (List.mem_singleton.mp z) ▸ eq⟩
  refine ⟨.ref wl, rfl, !(ts.map V.ref).reverse.isEmpty, .inl ⟨_, .of ew, rfl⟩, ?_⟩
  rw [rev_empty]
  cases pw with
  | nil =>
    refine iteF ?_
    refine ⟨_, rfl, q H3 q0 rows s4 hq eq ?_⟩
    rw [hpre]
    show Paired _ rows (dn ++ [])
    rw [List.append_nil]
    exact Paired.mapP pd fun R z ⟨b, h1, h2, h3, h4⟩ => ⟨b, h1, h2, fun e => h3 (e ▸ in2r), h4⟩
  | @cons T x ts2 ws2 hx hxs =>
    obtain ⟨xv, xu, xf, xb, xp⟩ := x
    refine iteT ⟨fun σ' H' => ∃ m', m' < wtTurns (⟨xv, xu, xf, xb, xp⟩ :: ws2) ∧ ∃ (ts : List Addr) (ws : List Wt) (rows : List Addr) (dn : List (Nat × List (Nat × Bool))) (y3 y4 y5 y6 y7 y8 : Option V), σ' = [some v, some (.ref q0), some (.ref wl), y3, y4, y5, y6, y7, y8] ∧ Same H H' ∧ H' wl = some (.lst (ts.map V.ref).reverse) ∧ Paired (WtOk H H' [wl, q0]) ts ws ∧ H' q0 = some (.lst (rows.map V.ref)) ∧ Paired (RowOk H H' [wl, q0]) rows dn ∧
      pre t 0 [] = dn ++ wtPre ws ∧ (∀ x, x ∈ ws → x.p.length + x.u.size ≤ t.size) ∧ dn.length + wtSizes ws ≤ t.size ∧ ts.length + wtSizes ws ≤ t.size + 1 ∧ m' = wtTurns ws, fun σ' H' hN => hN, ?_⟩
    obtain ⟨eT, hxt, hpa', nb', fb'⟩ := hx
    have hpa : PathAt H3 xb xp := hpa'
    have nb : xb ∉ [wl, q0] := nb'
    have fb : H xb = none := fb'
    clear hpa' nb' fb'
    have nTw : T ≠ wl := tup_ne eT ew
    refine ⟨.ref wl, rfl, .inl ⟨rfl, _, .of ew⟩, wl, _, .ref T, rfl, rfl, ew, last_rev, ?_⟩
    rw [List.map_cons, drop_rev]
    have k5 : Stay [wl, q0] H3 (upd H3 wl (.lst (ts2.map V.ref).reverse)) := .at in2l
    have eT4 : (upd H3 wl (.lst (ts2.map V.ref).reverse)) T = some (.tup [xv, natV xf, .ref xb]) := by rw [upd_ne nTw]; exact eT
    refine ⟨T, _, rfl, .of eT4, rfl, _, _, rfl, _, _, rfl, _, [], rfl, rfl, ?_⟩
    have ew5 : (upd H3 wl (.lst (ts2.map V.ref).reverse)) wl = some (.lst (ts2.map V.ref).reverse) := upd_same
    have eq5 : (upd H3 wl (.lst (ts2.map V.ref).reverse)) q0 = some (.lst (rows.map V.ref)) := by rw [upd_ne nqw]; exact eq
    generalize upd H3 wl (.lst (ts2.map V.ref).reverse) = H5 at eT4 k5 ew5 eq5 ⊢
    have fr : ∀ x, x ∈ [wl, q0] → H x = none := fun x hx => by
      rcases List.mem_cons.mp hx with z | z
      · exact z ▸ hw
      · exact (List.mem_singleton.mp z) ▸ hq
    refine ⟨_, rfl, rfl, _, rfl, ?_⟩
    rw [List.length_cons] at hcnt
    have hin2 := fun x hx => hin x (List.mem_cons_of_mem _ hx)
    have hin1 : xp.length + xu.size ≤ t.size := hin ⟨xv, xu, xf, xb, xp⟩ List.mem_cons_self
    cases hxt with
    | nil =>
      refine iteF ?_
      have z1 : wtSizes (⟨.non, .nil, xf, xb, xp⟩ :: ws2) = 0 + wtSizes ws2 := rfl
      refine ⟨wtTurns ws2, by show wtTurns ws2 < 2 * 0 + 1 + wtTurns ws2; omega, ts2, ws2, rows, dn, _, _, _, _, _, _, rfl, k5.same s4 fr, ew5, Paired.mapP hxs fun a z h => h.stay k5 hX, eq5, Paired.mapP pd fun a z h => h.stay k5 hX, hpre, hin2, by omega, by omega, rfl⟩
    | @nod b x1 x2 l r eb hl hr2 =>
      refine iteT ?_
      have s5 := k5.same s4 fr
      rw [size_nod] at hin1
      have zz : wtSizes (⟨.ref b, .nod l r, xf, xb, xp⟩ :: ws2) = (l.size + 1 + r.size) + wtSizes ws2 := rfl
      rw [zz] at hsz hcnt
      have lrows : rows.length = dn.length := Paired.length pd
      refine ⟨_, rfl, b, [x1, x2], rfl, .of (s5 _ _ eb), rfl, x1, _, rfl, x2, [], rfl, rfl, ?_⟩
      refine ⟨_, rfl, x1, rfl, x1, l, rfl, hl.same s5, by omega, fun H6 s6 => ⟨_, _, rfl, rfl, ?_⟩⟩
      have en : V.int ((xf : Int) + (l.size : Int)) = natV (xf + l.size) := congrArg V.int (by omega)
      have k6 := k5.trans (.of s6)
      -- the row
      refine ⟨_, rfl, .inl ⟨rfl, _, .of (s6 _ _ eq5)⟩, _, rfl, _, rfl, (by show 2 ≤ sizeLine; decide), fun R hR => ?_⟩
      have a0 := Same.new (o := .tup [V.int ((xf : Int) + (l.size : Int)), .ref xb]) hR
      refine ⟨q0, _, _, rfl, rfl, a0 _ _ (s6 _ _ eq5), ?_, ?_⟩
      · rw [List.length_map]
        exact small1000 (by omega)
      have k7 := (k6.anew (p := R) (o := .tup [V.int ((xf : Int) + (l.size : Int)), .ref xb]) hR).put (p := q0) (o := .lst (rows.map V.ref ++ [V.ref R])) in2r
      have nRq : R ≠ q0 := (ne_of_none (s6 _ _ eq5) hR).symm
      have nRw : R ≠ wl := (ne_of_none (s6 _ _ ew5) hR).symm
      have eR7 : (upd (upd H6 R (.tup [V.int ((xf : Int) + (l.size : Int)), .ref xb])) q0 (.lst (rows.map V.ref ++ [V.ref R]))) R = some (.tup [natV (xf + l.size), .ref xb]) := by
        rw [upd_ne nRq, upd_same, en]
      have ew7 : (upd (upd H6 R (.tup [V.int ((xf : Int) + (l.size : Int)), .ref xb])) q0 (.lst (rows.map V.ref ++ [V.ref R]))) wl = some (.lst (ts2.map V.ref).reverse) := by
        rw [upd_ne nqw.symm]
        exact a0 _ _ (s6 _ _ ew5)
      have eq7 : (upd (upd H6 R (.tup [V.int ((xf : Int) + (l.size : Int)), .ref xb])) q0 (.lst (rows.map V.ref ++ [V.ref R]))) q0 = some (.lst ((rows ++ [R]).map V.ref)) := by
        rw [upd_same, List.map_append]
        rfl
      generalize upd (upd H6 R (.tup [V.int ((xf : Int) + (l.size : Int)), .ref xb])) q0 (.lst (rows.map V.ref ++ [V.ref R])) = H7 at k7 eR7 ew7 eq7 ⊢
      have en2 : V.int ((xf : Int) + (l.size : Int) + 1) = natV (xf + l.size + 1) := congrArg V.int (by omega)
      -- the right part waits
      obtain ⟨tups, exb, pt⟩ := hpa.stay k7 nb hX
      have ltp := Paired.length pt
      refine ⟨_, rfl, .inl ⟨rfl, _, .of ew7⟩, x2, rfl, _, rfl, _, _, rfl, rfl, _, rfl, _, rfl, (by show 2 ≤ sizeLine; decide), fun t2 ht2 => ⟨(by show 1 ≤ sizeLine; decide), fun l2 hl2 => ?_⟩⟩
      have a1 := Same.new (o := .tup [V.int ((xf : Int) + (l.size : Int)), .str "right"]) ht2
      have a2 := Same.new (o := .lst [V.ref t2]) hl2
      refine ⟨xb, l2, _, _, rfl, rfl, a2 _ _ (a1 _ _ exb), upd_same, ?_, fun c2 hc2 => ⟨(by show 3 ≤ sizeLine; decide), fun T2 hT2 => ?_⟩⟩
      · rw [List.length_map]
        show tups.length + 1 ≤ sizeLine
        exact Nat.le_of_lt (small1000 (by omega))
      have a3 := Same.new (o := .lst (tups.map V.ref ++ [V.ref t2])) hc2
      have a4 := Same.new (o := .tup [x2, V.int ((xf : Int) + (l.size : Int) + 1), .ref c2]) hT2
      have aS := a1.trans (a2.trans (a3.trans a4))
      have pm2 := (path_more (z := (xf + l.size, true)) en rfl pt ht2 hl2 hc2).same a4
      have nc2w : c2 ≠ wl := (ne_of_none (a2 _ _ (a1 _ _ ew7)) hc2).symm
      have nc2q : c2 ≠ q0 := (ne_of_none (a2 _ _ (a1 _ _ eq7)) hc2).symm
      refine ⟨wl, _, _, rfl, rfl, aS _ _ ew7, ?_, ?_⟩
      · rw [List.length_reverse, List.length_map]
        exact small1000 (by omega)
      have k8 := (k7.then aS).put (p := wl) (o := .lst ((ts2.map V.ref).reverse ++ [V.ref T2])) in2l
      have eq8 : (upd (upd (upd (upd (upd H7 t2 (.tup [V.int ((xf : Int) + (l.size : Int)), .str "right"])) l2 (.lst [V.ref t2])) c2 (.lst (tups.map V.ref ++ [V.ref t2]))) T2 (.tup [x2, V.int ((xf : Int) + (l.size : Int) + 1), .ref c2])) wl (.lst ((ts2.map V.ref).reverse ++ [V.ref T2]))) q0 = some (.lst ((rows ++ [R]).map V.ref)) := by
        rw [upd_ne nqw]
        exact aS _ _ eq7
      have kB : Stay [wl, q0] H7 (upd (upd (upd (upd (upd H7 t2 (.tup [V.int ((xf : Int) + (l.size : Int)), .str "right"])) l2 (.lst [V.ref t2])) c2 (.lst (tups.map V.ref ++ [V.ref t2]))) T2 (.tup [x2, V.int ((xf : Int) + (l.size : Int) + 1), .ref c2])) wl (.lst ((ts2.map V.ref).reverse ++ [V.ref T2]))) := ((Stay.of aS).put in2l)
      have w2 : WtOk H (upd (upd (upd (upd H7 t2 (.tup [V.int ((xf : Int) + (l.size : Int)), .str "right"])) l2 (.lst [V.ref t2])) c2 (.lst (tups.map V.ref ++ [V.ref t2]))) T2 (.tup [x2, V.int ((xf : Int) + (l.size : Int) + 1), .ref c2])) [wl, q0] T2 ⟨x2, r, xf + l.size + 1, c2, xp ++ [(xf + l.size, true)]⟩ := ⟨by rw [upd_same, en2], hr2, pm2, no2 nc2w nc2q, ((k7.same s4 fr).trans (a1.trans a2)).free hc2⟩
      have hX8 : ∀ x, x ∈ [wl, q0] → ∃ ys, (upd (upd (upd (upd H7 t2 (.tup [V.int ((xf : Int) + (l.size : Int)), .str "right"])) l2 (.lst [V.ref t2])) c2 (.lst (tups.map V.ref ++ [V.ref t2]))) T2 (.tup [x2, V.int ((xf : Int) + (l.size : Int) + 1), .ref c2])) x = some (.lst ys) := fun x hx => by
        rcases List.mem_cons.mp hx with z | z
        · exact ⟨_, z ▸ aS _ _ ew7⟩
        · exact ⟨_, (List.mem_singleton.mp z) ▸ aS _ _ eq7⟩
      have w28 := w2.stay (.at (p := wl) (o := .lst ((ts2.map V.ref).reverse ++ [V.ref T2])) in2l) hX8
      have ew8 : (upd (upd (upd (upd (upd H7 t2 (.tup [V.int ((xf : Int) + (l.size : Int)), .str "right"])) l2 (.lst [V.ref t2])) c2 (.lst (tups.map V.ref ++ [V.ref t2]))) T2 (.tup [x2, V.int ((xf : Int) + (l.size : Int) + 1), .ref c2])) wl (.lst ((ts2.map V.ref).reverse ++ [V.ref T2]))) wl = some (.lst ((ts2.map V.ref).reverse ++ [V.ref T2])) := upd_same
      clear w2 hX8 pm2 a1 a2 a3 a4 aS exb pt ew7
      generalize upd (upd (upd (upd (upd H7 t2 (.tup [V.int ((xf : Int) + (l.size : Int)), .str "right"])) l2 (.lst [V.ref t2])) c2 (.lst (tups.map V.ref ++ [V.ref t2]))) T2 (.tup [x2, V.int ((xf : Int) + (l.size : Int) + 1), .ref c2])) wl (.lst ((ts2.map V.ref).reverse ++ [V.ref T2])) = H8 at k8 eq8 kB w28 ew8 ⊢
      have hX9 : ∀ x, x ∈ [wl, q0] → ∃ ys, H8 x = some (.lst ys) := fun x hx => by
        rcases List.mem_cons.mp hx with z | z
        · exact ⟨_, z ▸ ew8⟩
        · exact ⟨_, (List.mem_singleton.mp z) ▸ eq8⟩
      -- the left part waits
      obtain ⟨tups, exb, pt⟩ := hpa.stay k8 nb hX
      have ltp := Paired.length pt
      refine ⟨_, rfl, .inl ⟨rfl, _, .of ew8⟩, x1, rfl, _, rfl, _, rfl, _, rfl, (by show 2 ≤ sizeLine; decide), fun t1 ht1 => ⟨(by show 1 ≤ sizeLine; decide), fun l1 hl1 => ?_⟩⟩
      have a1 := Same.new (o := .tup [V.int ((xf : Int) + (l.size : Int)), .str "left"]) ht1
      have a2 := Same.new (o := .lst [V.ref t1]) hl1
      refine ⟨xb, l1, _, _, rfl, rfl, a2 _ _ (a1 _ _ exb), upd_same, ?_, fun c1 hc1 => ⟨(by show 3 ≤ sizeLine; decide), fun T1 hT1 => ?_⟩⟩
      · rw [List.length_map]
        show tups.length + 1 ≤ sizeLine
        exact Nat.le_of_lt (small1000 (by omega))
      have a3 := Same.new (o := .lst (tups.map V.ref ++ [V.ref t1])) hc1
      have a4 := Same.new (o := .tup [x1, natV xf, .ref c1]) hT1
      have aS := a1.trans (a2.trans (a3.trans a4))
      have pm1 := (path_more (z := (xf + l.size, false)) en rfl pt ht1 hl1 hc1).same a4
      have nc1w : c1 ≠ wl := (ne_of_none (a2 _ _ (a1 _ _ ew8)) hc1).symm
      have nc1q : c1 ≠ q0 := (ne_of_none (a2 _ _ (a1 _ _ eq8)) hc1).symm
      refine ⟨wl, _, _, rfl, rfl, aS _ _ ew8, ?_, ?_⟩
      · rw [List.length_append, List.length_reverse, List.length_map, List.length_singleton]
        exact small1000 (by omega)
      have kC : Stay [wl, q0] H8 (upd (upd (upd (upd (upd H8 t1 (.tup [V.int ((xf : Int) + (l.size : Int)), .str "left"])) l1 (.lst [V.ref t1])) c1 (.lst (tups.map V.ref ++ [V.ref t1]))) T1 (.tup [x1, natV xf, .ref c1])) wl (.lst ((ts2.map V.ref).reverse ++ [V.ref T2] ++ [V.ref T1]))) := ((Stay.of aS).put in2l)
      have k9 := k8.trans kC
      have kD := kB.trans kC
      have w29 := w28.stay kC hX9
      have hXA : ∀ x, x ∈ [wl, q0] → ∃ ys, (upd (upd (upd (upd H8 t1 (.tup [V.int ((xf : Int) + (l.size : Int)), .str "left"])) l1 (.lst [V.ref t1])) c1 (.lst (tups.map V.ref ++ [V.ref t1]))) T1 (.tup [x1, natV xf, .ref c1])) x = some (.lst ys) := fun x hx => by
        rcases List.mem_cons.mp hx with z | z
        · exact ⟨_, z ▸ aS _ _ ew8⟩
        · exact ⟨_, (List.mem_singleton.mp z) ▸ aS _ _ eq8⟩
      have w1 : WtOk H (upd (upd (upd (upd H8 t1 (.tup [V.int ((xf : Int) + (l.size : Int)), .str "left"])) l1 (.lst [V.ref t1])) c1 (.lst (tups.map V.ref ++ [V.ref t1]))) T1 (.tup [x1, natV xf, .ref c1])) [wl, q0] T1 ⟨x1, l, xf, c1, xp ++ [(xf + l.size, false)]⟩ := ⟨upd_same, hl, pm1, no2 nc1w nc1q, ((k8.same s4 fr).trans (a1.trans a2)).free hc1⟩
      have w19 := w1.stay (.at (p := wl) (o := .lst ((ts2.map V.ref).reverse ++ [V.ref T2] ++ [V.ref T1])) in2l) hXA
      have eq9 : (upd (upd (upd (upd (upd H8 t1 (.tup [V.int ((xf : Int) + (l.size : Int)), .str "left"])) l1 (.lst [V.ref t1])) c1 (.lst (tups.map V.ref ++ [V.ref t1]))) T1 (.tup [x1, natV xf, .ref c1])) wl (.lst ((ts2.map V.ref).reverse ++ [V.ref T2] ++ [V.ref T1]))) q0 = some (.lst ((rows ++ [R]).map V.ref)) := by
        rw [upd_ne nqw]
        exact aS _ _ eq8
      have ew9 : (upd (upd (upd (upd (upd H8 t1 (.tup [V.int ((xf : Int) + (l.size : Int)), .str "left"])) l1 (.lst [V.ref t1])) c1 (.lst (tups.map V.ref ++ [V.ref t1]))) T1 (.tup [x1, natV xf, .ref c1])) wl (.lst ((ts2.map V.ref).reverse ++ [V.ref T2] ++ [V.ref T1]))) wl = some (.lst ((T1 :: T2 :: ts2).map V.ref).reverse) := by
        rw [upd_same, List.map_cons, List.map_cons, List.reverse_cons, List.reverse_cons]
      generalize upd (upd (upd (upd (upd H8 t1 (.tup [V.int ((xf : Int) + (l.size : Int)), .str "left"])) l1 (.lst [V.ref t1])) c1 (.lst (tups.map V.ref ++ [V.ref t1]))) T1 (.tup [x1, natV xf, .ref c1])) wl (.lst ((ts2.map V.ref).reverse ++ [V.ref T2] ++ [V.ref T1])) = H9 at kC k9 kD w29 w19 eq9 ew9 ⊢
      have eR9 := kD _ _ (no2 nRw nRq) eR7
      refine ⟨wtTurns (⟨x1, l, xf, c1, xp ++ [(xf + l.size, false)]⟩ :: ⟨x2, r, xf + l.size + 1, c2, xp ++ [(xf + l.size, true)]⟩ :: ws2), ?_, T1 :: T2 :: ts2, ⟨x1, l, xf, c1, xp ++ [(xf + l.size, false)]⟩ :: ⟨x2, r, xf + l.size + 1, c2, xp ++ [(xf + l.size, true)]⟩ :: ws2, rows ++ [R], dn ++ [(xf + l.size, xp)], _, _, _, _, _, _, rfl, k9.same s4 fr, ew9, .cons w19 (.cons w29 (Paired.mapP hxs fun a z h => h.stay k9 hX)), eq9, Paired.app (Paired.mapP pd fun a z h => h.stay k9 hX) (.cons ⟨xb, eR9, hpa.stay k9 nb hX, nb, fb⟩ .nil), ?_, fun x hx => ?_, ?_, ?_, rfl⟩
      · show 2 * l.size + 1 + (2 * r.size + 1 + wtTurns ws2) < 2 * (l.size + 1 + r.size) + 1 + wtTurns ws2
        omega
      · rw [hpre]
        show dn ++ (((xf + l.size, xp) :: (pre l xf (xp ++ [(xf + l.size, false)]) ++ pre r (xf + l.size + 1) (xp ++ [(xf + l.size, true)]))) ++ wtPre ws2) = dn ++ [(xf + l.size, xp)] ++ (pre l xf (xp ++ [(xf + l.size, false)]) ++ (pre r (xf + l.size + 1) (xp ++ [(xf + l.size, true)]) ++ wtPre ws2))
        simp only [List.append_assoc, List.cons_append, List.nil_append]
      · rcases List.mem_cons.mp hx with z | z
        · rw [z]
          show (xp ++ [(xf + l.size, false)]).length + l.size ≤ t.size
          rw [List.length_append, List.length_singleton]
          omega
        · rcases List.mem_cons.mp z with z | z
          · rw [z]
            show (xp ++ [(xf + l.size, true)]).length + r.size ≤ t.size
            rw [List.length_append, List.length_singleton]
            omega
          · exact hin2 x z
      · rw [List.length_append, List.length_singleton]
        show dn.length + 1 + (l.size + (r.size + wtSizes ws2)) ≤ t.size
        omega
      · show ts2.length + 1 + 1 + (l.size + (r.size + wtSizes ws2)) ≤ t.size + 1
        omega
/-! ### paths_of -/
theorem sc_paths : FnScope n_paths_of ["tree"] (defScope s_paths_of) := ⟨rfl, rfl, rfl, by decide +kernel, rfl, by decide +kernel, by decide +kernel⟩
def spPaths : Sp := fun vs H Q _ => ∃ (v : V) (t : Tr), vs = [v] ∧ TrAt H v t ∧ t.size ≤ 300 ∧ ∀ (H' : Hp) (q : Addr), Same H H' → H q = none → WaysAt H' q t → Q (.ref q) H'
theorem ok_paths (B : Bl mg) (C : Df P w K mg base "count_nodes" 1 ["tree"] spCount) (W : Df P w K mg base "walk" 2 ["tree"] spWalk) (a : At K mg "paths_of" s_paths_of) : Df P w K mg base "paths_of" 3 ["tree"] spPaths := by
  refine Df.mk' a sc_paths (fun vs H Q E h => ?_) (fun _ _ _ _ _ _ us hl => match us, hl with | [_], _ => rfl) (fun f cdv A outer s H vs Q E hr h => ?_)
  · obtain ⟨v, t, rfl, _⟩ := h
    rfl
  obtain ⟨v, t, rfl, ht, hz, q⟩ := h
  refine ⟨_, (pss_cons (ps_setLc (i := 1) (own := [("_", 4)]) (g := (gName 4)) (tt := tYes) (by rfl) sc_paths.nd rfl rfl (sw_true rfl rfl rfl (by decide +kernel)) (pi_range1 (by rfl) B.range (pa_cons (pe_df C (hr.mono (by decide)) (pa_cons (pv 0) pa_nil)) pa_nil)) (blkOk_by (N := n_paths_of) (sc := defScope s_paths_of) (by decide +kernel)) (fun _ _ _ _ _ => (pg_name (i := 4) sc_paths.nd rfl (.inl rfl))) (fun _ _ _ _ _ => pts_nil) (fun _ _ _ _ _ => (pe_lst pa_nil)))
 (pss_cons (ps_for PassesOwn.never rfl (pi_list (pe_df W hr (pa_cons (pv 0) pa_nil))) (pg_tup rfl (pgs_cons (pg_name (i := 2) sc_paths.nd rfl (.inl rfl)) (pgs_cons (pg_name (i := 3) sc_paths.nd rfl (.inl rfl)) pgs_nil))) (pss_one (ps_asg (pv 3) (pg_sub (pv 1) (pv 2) set_list))))
 (pss_one (ps_ret (pv 1))))), ?_⟩
  -- an empty list for each node
  refine ⟨v, rfl, v, t, rfl, ht, by omega, fun H1 s1 => ⟨_, rfl, by omega, by omega, fun q0 hq0 => ?_⟩⟩
  refine lc_range (lo := 0) (n := t.size) (fun i H' => ∃ rows : List Addr, Same H H' ∧ H' q0 = some (.lst (rows.map V.ref)) ∧ rows.length = i ∧ (∀ r, r ∈ rows → r ≠ q0)) ⟨[], s1.trans (Same.new hq0), upd_same, rfl, fun r hr => by cases hr⟩ (fun i H2 hi h2 => ?_) (fun H2 h2 => ?_)
  · obtain ⟨rows, s2, e2, l2, n2⟩ := h2
    refine ⟨rfl, ?_⟩
    refine ⟨Nat.zero_le _, fun r hr2 => ⟨_, (Same.new hr2) _ _ e2, ?_, ?_⟩⟩
    · rw [List.length_map]
      exact small1000 (by omega)
    · have nr : q0 ≠ r := ne_of_none e2 hr2
      have hq : H q0 = none := s1.free hq0
      refine ⟨rows ++ [r], fun b o e => ?_, ?_, ?_, fun x hx => ?_⟩
      · rw [upd_ne (ne_of_none e hq)]
        exact (Same.new hr2) _ _ (s2 _ _ e)
      · rw [upd_same, List.map_append]
        rfl
      · rw [List.length_append, List.length_singleton, l2]
      · rcases List.mem_append.mp hx with z | z
        · exact n2 x z
        · rw [List.mem_singleton.mp z]
          exact nr.symm
  · obtain ⟨rows, s2, e2, l2, n2⟩ := h2
    have hq : H q0 = none := s1.free hq0
    refine ⟨v, rfl, v, t, rfl, ht.same s2, hz, fun H3 u rs s3 nu eu pr => ?_⟩
    have nuq : u ≠ q0 := (ne_of_none e2 nu).symm
    have lrs : rs.length = t.size := by rw [Paired.length pr, pre_len]
    refine ⟨u, rfl, ⟨_, .of eu⟩, for_list (xs := rs.map V.ref) (fun k σ H' => ∃ (y2 y3 : Option V) (rows : List Addr), σ = [some v, some (.ref q0), y2, y3, none] ∧ Stay [q0] H3 H' ∧ H' q0 = some (.lst (rows.map V.ref)) ∧ rows.length = t.size ∧ ∀ n s, (n, s) ∈ (pre t 0 []).take k → ∃ r, rows[n]? = some r ∧ PathAt H' r s ∧ r ≠ q0)
      ⟨_, _, rows, rfl, .refl _ _, s3 _ _ e2, l2, fun n s h => by cases h⟩ (fun k σ H4 _ h4 => ?_) (fun k x σ H4 hx h4 => ?_) (fun σ H4 h4 => ?_)⟩
    · obtain ⟨_, _, _, _, k4, _⟩ := h4
      exact .of (k4 _ _ (no1 nuq) eu)
    · obtain ⟨y2, y3, rows, rfl, k4, e4, l4, h4⟩ := h4
      rw [List.getElem?_map] at hx
      obtain ⟨R, hR, rfl⟩ := Option.map_eq_some_iff.mp hx
      obtain ⟨⟨n, p⟩, hz2, b, eR, pb, nb, fb⟩ := Paired.getL pr hR
      have hX : ∀ x, x ∈ [q0] → ∃ ys, H3 x = some (.lst ys) := fun x hx => ⟨_, (List.mem_singleton.mp hx) ▸ s3 _ _ e2⟩
      have nRq : R ≠ q0 := tup_ne eR (s3 _ _ e2)
      have hn := pre_in t 0 [] n p (List.mem_of_getElem? hz2)
      have nbq : b ≠ q0 := (ne_of_none e2 fb).symm
      refine ⟨R, _, rfl, .of (k4 _ _ (no1 nRq) eR), rfl, _, _, rfl, _, [], rfl, rfl, ?_⟩
      refine ⟨_, rfl, _, rfl, _, rfl, q0, _, _, n, rfl, rfl, e4, ?_, ?_⟩
      · rw [List.length_map, l4]
        exact ixN_in (n := t.size) (i := (n : Int)) (by omega) (by omega)
      refine ⟨_, _, rows.set n b, rfl, k4.put in1, ?_, ?_, fun m s h => ?_⟩
      · rw [upd_same, List.map_set]
      · rw [List.length_set, l4]
      have pb4 : PathAt (upd H4 q0 (.lst ((rows.map V.ref).set n (.ref b)))) b p := pb.stay (k4.put in1) (no1 nbq) hX
      rw [List.take_add_one, hz2] at h
      have key : ∀ s, s = pOf t 0 n → ∃ r, (rows.set n b)[n]? = some r ∧ PathAt (upd H4 q0 (.lst ((rows.map V.ref).set n (.ref b)))) r s ∧ r ≠ q0 := fun s es => by
        refine ⟨b, List.getElem?_set_self (by omega), ?_, nbq⟩
        rw [es, ← hn.2.2.trans (List.nil_append _)]
        exact pb4
      rcases List.mem_append.mp h with h | h
      · have e0 := (pre_in t 0 [] m s (List.mem_of_mem_take h)).2.2.trans (List.nil_append _)
        by_cases c : m = n
        · rw [c] at e0 ⊢
          exact key s e0
        · obtain ⟨r, g1, g2, g3⟩ := h4 m s h
          exact ⟨r, by rw [List.getElem?_set_ne (Ne.symm c)]; exact g1, g2.put g3 e4, g3⟩
      · obtain ⟨rfl, rfl⟩ := Prod.mk.inj (List.mem_singleton.mp h)
        exact key _ (hn.2.2.trans (List.nil_append _))
    · obtain ⟨y2, y3, rows, rfl, k4, e4, l4, h4⟩ := h4
      refine ⟨_, rfl, q H4 q0 (Stay.same (X := [q0]) (s2.trans s3) (fun x hx => (List.mem_singleton.mp hx) ▸ hq) k4) hq ⟨rows, e4, l4, fun i r hr2 => ?_⟩⟩
      have hi : i < t.size := by rw [← l4]; exact (List.getElem?_eq_some_iff.mp hr2).1
      have hm := pre_mem t 0 [] i (Nat.zero_le _) (by omega)
      rw [List.nil_append] at hm
      obtain ⟨r', g1, g2, _⟩ := h4 i (pOf t 0 i) (by
        rw [List.length_map, lrs, ← pre_len t 0 [], List.take_length]
        exact hm)
      cases hr2.symm.trans g1
      exact g2
end
end HSP
namespace HSP
open PySem PySem.Spec PyProof.Rows L2
/-! ## defs that may show an object: nothing is being shown around them -/
structure FnG (P : Program) (w : World) (K : PySem.W.Frag) (mg : Str → Option Value) (base : Heap) (CX : CXT) (k : Nat) (f : Addr) (fd : FuncData) (ps : List Str) (sp : Sp) : Prop where
  len : ∀ vs H Q E, sp vs H Q E → vs.length = ps.length
  run : ∀ (A : Around) (outer : List Env) (s : Shared) (H : Hp) (args : Args) (us : List Value) (vs : List V) (Q : VK) (E : XK), A.guards = some [] → Room k A → Env0 P w K mg base A outer s H → BindsTo s fd args (ps.zip us) → Vals vs us → sp vs H Q E →
    codeAny (model P w) A (.call (.ref f) args) (CR CX outer P w H s Q E) s
section
variable {P : Program} {w : World} {K : PySem.W.Frag} {mg : Str → Option Value} {base : Heap}
theorem FnG.of {CX : CXT} {k : Nat} {f : Addr} {fd : FuncData} {ps : List Str} {sp : Sp} (F : FnOk P w K mg base CX k f fd ps sp) : FnG P w K mg base CX k f fd ps sp :=
  ⟨F.len, fun A outer s H args us vs Q E _ hr e hb hv hs => F.run A outer s H args us vs Q E hr e hb hv hs⟩
theorem FnG.mk' {CX : CXT} {x qual : Str} {st : Stmt} {f : Addr} {fd : FuncData} {N ps : List Str} {k : Nat} {sp : Sp} (F : Fun K x qual st f fd) (S : FnScope N ps (defScope st)) (len : ∀ vs H Q E, sp vs H Q E → vs.length = ps.length)
    (body : ∀ (cdv : Value) (A : Around) (outer : List Env) (s : Shared) (H : Hp) (vs : List V) (Q : VK) (E : XK), A.guards = some [] → Room k (A.deeper (envOfC qual (defScope st) s.heap.objs.size f cdv)) → sp vs H Q E →
      ∃ t, PSs (cxOf CX P w K mg base N qual (defScope st) f cdv A outer s H E) (defBody st) t ∧ t { nx := fun _ H' => Q .non H', rt := Q } (start N vs) H) : FnG P w K mg base CX (k + 1) f fd ps sp := by
  obtain ⟨oc, od, kV, doc, pm, an, cdv, ct, osl, e1, lk, hcd⟩ := F.ex
  subst e1
  refine ⟨len, fun A outer s H args us vs Q E hg hr e0 hb rv hs => ?_⟩
  have kin : K.In s.heap := e0.mod.kin.keeps fun b o e => (e0.bs b o e).1
  have nol : s.heap.NoLimit := e0.mod.nolimit.keeps fun b o e => (e0.bs b o e).1
  have kinds : ∀ y ∈ ps.zip us, (defScope st).names.lookup y.1 = some .local ∨ ((defScope st).names.lookup y.1 = some .cell ∧ ((cellsFrom (s.heap.objs.size + 1) (defScope st).names []).lookup y.1).isSome = true) := by
    intro y hy
    refine (S.par y.1 (List.of_mem_zip (a := y.1) (b := y.2) hy).1).imp id fun c => ⟨c, PySem.W.cellsFrom_some _ _ _ (.inl c)⟩
  refine codeAny_call_function hr.depth (kin _ _ lk) rfl S.co S.gen rfl (PySem.W.codeRec_of kin hcd) (hb _ _ _ _ (wpAny_newFunctionEnv_cells S.kind kinds fun env he s1 x => ?_))
  subst he
  obtain ⟨t, ht, hq⟩ := body cdv A outer s H vs Q E hg (hr.deeper _) hs
  have I := inv_start (CX := CX) (E := E) S hr.hd e0 (len _ _ _ _ hs) rv x
  refine ⟨nol.keeps x.toInCall.keep, codeAny_func (wpAny_mono (ht.run [] s1 (start N vs) H _ I hq) (fun fl s' q => ?_) fun _ _ q => q)⟩
  match fl, q with
  | .ret u, ⟨v, σ', H', J, r, q⟩ => exact ⟨v, H', J.os, J.bare, J.base, J.hok, r, q⟩
  | .next, ⟨σ', H', J, q⟩ => exact ⟨.non, H', J.os, J.bare, J.base, J.hok, rfl, q⟩
  | .brk, ⟨_, _, _, q⟩ => exact q.elim
  | .cont, ⟨_, _, _, q⟩ => exact q.elim
end
end HSP
namespace HSP
open PySem PySem.Spec PyProof.Rows L2
theorem deeper_guards (A : Around) (env : Env) : (A.deeper env).guards = A.guards := rfl
/-! ### calls of such defs -/
structure DfG (P : Program) (w : World) (K : PySem.W.Frag) (mg : Str → Option Value) (base : Heap) (x : Str) (n : Nat) (ps : List Str) (sp : Sp) : Prop where
  ex : ∃ (f : Addr) (fd : FuncData), mg x = some (.ref f) ∧ PySem.W.keepIn K (.ref f) = true ∧ Binds K fd ps [] ∧ FnG P w K mg base CX0 n f fd ps sp
section
variable {P : Program} {w : World} {K : PySem.W.Frag} {mg : Str → Option Value} {base : Heap}
theorem DfG.mk' {x : Str} {st : Stmt} {N ps : List Str} {k : Nat} {sp : Sp} (a : At K mg x st) (S : FnScope N ps (defScope st)) (len : ∀ vs H Q E, sp vs H Q E → vs.length = ps.length)
    (hb : ∀ (kV doc pm : Value) (an : Option Addr) (cdv ct : Value) (us : List Value), us.length = ps.length → bindArgs (PySem.W.fnOf x x (defArgs st) (defBody st) (defScope st) .none kV doc pm an cdv ct) ⟨us, []⟩ = pure (ps.zip us))
    (body : ∀ (f : Addr) (cdv : Value) (A : Around) (outer : List Env) (s : Shared) (H : Hp) (vs : List V) (Q : VK) (E : XK), A.guards = some [] → Room k (A.deeper (envOfC x (defScope st) s.heap.objs.size f cdv)) → sp vs H Q E →
      ∃ t, PSs (cxOf CX0 P w K mg base N x (defScope st) f cdv A outer s H E).nox (defBody st) t ∧ t { nx := fun _ H' => Q .non H', rt := Q } (start N vs) H) : DfG P w K mg base x (k + 1) ps sp := by
  obtain ⟨f, fd, hm, F⟩ := a
  refine ⟨f, fd, hm, F.kp, F.binds hb, FnG.mk' F S len fun cdv A outer s H vs Q E hg hr hs => ?_⟩
  obtain ⟨t, h1, h2⟩ := body f cdv A outer s H vs Q E hg hr hs
  exact ⟨t, h1.nox, h2⟩
end
section
variable {X : Cx} {k n : Nat} {ps ks : List Str} {sp : Sp} {x : Str} {p pos : Pos} {e : Expr} {es : List Expr} {kws : List Keyword} {t tk : TA} {f : Addr} {fd : FuncData} {ds : List Value} {dvs : List V} {g : List Value → List Value → List Value} {gV : List V → List V → List V}
theorem pe_dfG (D : DfG X.prog X.w X.K X.mg X.base x k ps sp) (hgd : X.A.guards = some []) (hr : Room k X.A) (ha : PA X (e :: es) t) (hg : Gl X x := by rfl) (hdb : (x == ("__debug__" : Str)) = false := by decide)
    (he : starEach (e :: es) X.env = (false, eval e X.env) :: starEach es X.env := by rfl) (hpl : (backTo pos (starEach es X.env)).any (·.1) = false := by rfl) : PE X (.Call (.Name x p) (e :: es) [] pos) (tCall sp [] E0 t) := by
  obtain ⟨f, fd, hm, hk, hb, F⟩ := D.ex
  refine ⟨fun pins s σ H Q I h => wpAny_Call_Name_kw (ld_glob I hg hm ?_ hdb)⟩
  refine PySem.W.callWith_K (h₀ := X.base) I.ok.mod.kin hk (thn (ha.run pos pins s σ H _ I h) fun us s1 z => ?_) he hpl
  obtain ⟨vs, H1, I1, r, q⟩ := z
  refine ⟨I1.kIn, ?_⟩
  have q' : sp vs H1 Q E0 := by
    have z : sp (vs ++ []) H1 Q E0 := q
    rw [List.append_nil] at z
    exact z
  have l1 : (us ++ []).length = ps.length := by rw [List.append_nil, ← r.length]; exact F.len _ _ _ _ q'
  have hb' := hb s1 us I1.kIn l1
  rw [List.append_nil] at hb'
  refine wpAny_call (codeAny_mono (F.run X.A X.stack s1 H1 ⟨us, []⟩ us vs Q E0 hgd hr I1.env0 hb' r q') fun res s' hq => ?_)
  match res, hq with
  | .error _, hq => exact (show False from hq).elim
  | .ok (.ret u), hq => exact I1.after hq
/-- f(k = v, ..): keywords alone -/
theorem pe_callK0 {CX : CXT} {E : XK} (F : FnOk X.prog X.w X.K X.mg X.base CX k f fd ps sp) (hr : Room k X.A) (hg : Gl X x) (hm : X.mg x = some (.ref f)) (hk : PySem.W.keepIn X.K (.ref f) = true) (hb : KBn X.K fd ps 0 ks g gV) (hx : Passes CX X E) (hkw : PK X kws tk)
    (hall : (backToKw pos (keywordEach kws X.env)).all (·.1.isSome) = true := by rfl) (hks : (backToKw pos (keywordEach kws X.env)).filterMap (·.1) = ks := by rfl) (hdb : (x == ("__debug__" : Str)) = false := by decide)
    (hpl : (backToKw pos (keywordEach kws X.env)).any (·.1.isNone) = false := by rfl) : PE X (.Call (.Name x p) [] kws pos) (tCallN 0 ks.length sp gV E tNil tk) := by
  refine ⟨fun pins s σ H Q I h => wpAny_Call_Name_kw (ld_glob I hg hm ?_ hdb)⟩
  refine PySem.W.callWith_KW0 (h₀ := X.base) I.ok.mod.kin hk hall (thn (hkw.run pos pins s σ H _ I h) fun ws s1 z => ?_) hpl
  obtain ⟨zs, H1, I1, rz, l1, l2, q⟩ := z
  rw [hks]
  exact ⟨I1.kIn, run_fnN (us := []) F hr hb hx I1 .nil rz l1 l2 q⟩
/-! ### repr of data -/
def rReprD (K : PySem.W.Frag) : List V → Hp → VK → Prop := fun vs H Q => ∃ (a : Addr) (d : PyData), vs = [.ref a] ∧ Dp K H (.ref a) d ∧ d.showable = true ∧ d.hasDict = false ∧ d.depth ≤ 60 ∧ d.shown.length ≤ sizeLine ∧ Q (.str d.shown) H
theorem cr_reprD (hgd : X.A.guards = some []) (hu : X.A.units + 64 < cLine) : CallR X (.builtin "repr") (rReprD X.K) := by
  intro pins s σ H vs us Q I r h
  obtain ⟨a, d, rfl, hd, hs, hn, h60, hz, q⟩ := h
  rw [Vals.ref1 r]
  obtain ⟨as, rd⟩ := Dp.reads I d (.ref a) (.ref a) hd rfl
  exact repr_of_reads' rd hs (fun z => by rw [hn] at z; cases z) hgd (by omega) (fun _ _ e => e) (fun h' u tk kp => ⟨.str _, H, I.kept kp, ⟨u, rfl⟩, q⟩) hz
end
end HSP
namespace HSP
open PySem PySem.Spec PyProof.Rows L2
/-! ## the law's call, where nothing is being shown -/
section
variable {P : Program} {w : World} {K : PySem.W.Frag} {mg mb : Str → Option Value} {k : Nat} {fa a : Addr} {fd : FuncData} {x : Str} {sp : Sp} {s1 : Shared} {vs : List Value} {ns : List Int}
/-- from an abstract heap that tracks nothing but, perhaps, the script -/
theorem callG_core (kin : K.In s1.heap) (hns : s1.heap.Ns mainGlobals mg) (hb : s1.heap.Ns builtinsNs mb) (hbb : ∀ x : Str, x ≠ "__name__" → mb x = bootBuiltins x) (hlim : s1.heap.NoLimit) (hg : s1.gens = #[])
    (ha : s1.heap.get? a = some { cls := .type "list", data := .seq vs.toArray }) (hr : Room k callerA) (F : ∀ base : Heap, K.In base → base.Ns mainGlobals mg → FnG P w K mg base CX0 k fa fd [x] sp)
    (hbind : ∀ (s : Shared) (u : Value), BindsTo s fd ⟨[u], []⟩ [(x, u)]) (H : Hp) (hO : Only H) (hsp : sp [.ref a] H (fun v _ => v = .bl true) fun _ _ _ => False) (hok : HOk P w H s1.heap) (hA : ∀ b o, H b = some o → b = a) (hK : ∀ o, H a = some o → K.lookup a = none) :
    codeAny (model P w) callerA (.call (.ref fa) ⟨[.ref a], []⟩) (fun r s' => r = .ok (.ret (.bool true)) ∧ OldK s1.heap s'.heap ∧ s'.os = s1.os ∧ AllBare s'.gens) s1 := by
  -- no dict is tracked
  have free : ∀ {b : Addr} {o : Obj} {es : Array DictEntry} {ep : Nat}, s1.heap.get? b = some o → o.data = .dict es ep → H b = none := by
    intro b o es ep e d
    match q : H b with
    | none => rfl
    | some u =>
      rw [hA b u q, ha] at e
      cases e
      cases d
  have nsB : ∀ {b : Addr} {m : Str → Option Value}, s1.heap.Ns b m → (hidT s1.heap H).Ns b m := by
    intro b m h
    obtain ⟨o, es, ep, e, d, r⟩ := h
    exact ⟨o, es, ep, hidT_get e (free e d), d, r⟩
  have kinB : K.In (hidT s1.heap H) := by
    intro b o e
    refine hidT_get (kin b o e) ?_
    match q : H b with
    | none => rfl
    | some u =>
      have eb := hA b u q
      rw [eb] at e q
      rw [hK u q] at e
      cases e
  have md : Mod K mg (hidT s1.heap H) := by
    obtain ⟨mc, c1, c2⟩ := hlim
    exact ⟨kinB, nsB hns, ⟨mb, nsB hb, hbb⟩, mc, nsB c1, c2⟩
  have env : Env0 P w K mg (hidT s1.heap H) callerA [] s1 H := ⟨rfl, md, fun b o e => of_hidT e, Nat.le_of_eq (hidT_size _ _), trivial, (fun b z => by cases z), hok, .of_eq hg⟩
  refine codeAny_mono ((F _ kinB (nsB hns)).run callerA [] s1 H ⟨[.ref a], []⟩ [.ref a] [.ref a] _ _ rfl hr env (hbind s1 (.ref a)) (.cons rfl .nil) hsp) fun r s' h => ?_
  match r, h with
  | .error _, h => exact (show False from h).elim
  | .ok (.ret u), h =>
    obtain ⟨v, H', os, bare, un, hok', rv, q⟩ := h
    have q' : v = .bl true := q
    rw [q'] at rv
    have eu : u = Value.bool true := rv
    rw [eu]
    refine ⟨rfl, OldK.of_keep fun b o e => ?_, os, bare⟩
    match q : H b with
    | none => exact un.keep b o e q (fun z => by cases z) (fun z => by cases z)
    | some u =>
      rcases hO b with z | ⟨ob, xs, z⟩
      · rw [q] at z
        cases z
      · have b1 := (hok b _ z).1
        have b2 := (hok' b _ (un.frzs b ob _ z)).1
        rw [e] at b1
        cases b1
        exact b2
theorem law_callG (kin : K.In s1.heap) (hns : s1.heap.Ns mainGlobals mg) (hb : s1.heap.Ns builtinsNs mb) (hbb : ∀ x : Str, x ≠ "__name__" → mb x = bootBuiltins x) (hlim : s1.heap.NoLimit) (hg : s1.gens = #[])
    (ha : s1.heap.get? a = some { cls := .type "list", data := .seq vs.toArray }) (hi : IntsAre vs ns) (hl : ns.length ≤ sizeLine) (hr : Room k callerA) (F : ∀ base : Heap, K.In base → base.Ns mainGlobals mg → FnG P w K mg base CX0 k fa fd [x] sp)
    (hbind : ∀ (s : Shared) (u : Value), BindsTo s fd ⟨[u], []⟩ [(x, u)]) (hsp : ∀ H : Hp, Only H → SqL K H a (ns.map V.int) → sp [.ref a] H (fun v _ => v = .bl true) fun _ _ _ => False) :
    codeAny (model P w) callerA (.call (.ref fa) ⟨[.ref a], []⟩) (fun r s' => r = .ok (.ret (.bool true)) ∧ OldK s1.heap s'.heap ∧ s'.os = s1.os ∧ AllBare s'.gens) s1 := by
  have rv := vals_ints hi
  have le : vs.length = ns.length := hi.length
  match hk : K.lookup a with
  | some o =>
    have e := kin a o hk
    rw [ha] at e
    cases e
    refine callG_core kin hns hb hbb hlim hg ha hr F hbind (fun _ => none) (fun _ => .inl rfl) (hsp _ (fun _ => .inl rfl) ?_) (fun b u z => by cases z) (fun b o z => by cases z) (fun o z => by cases z)
    exact .inr ⟨_, vs.toArray, _, hk, rfl, rfl, rfl, by rw [List.size_toArray, le]; exact hl, by rw [List.toList_toArray]; exact rv⟩
  | none =>
    let H : Hp := fun b => if b = a then some (.frz { cls := .type "list", data := .seq vs.toArray } (.lst (ns.map V.int))) else none
    have at_a : H a = some (.frz { cls := .type "list", data := .seq vs.toArray } (.lst (ns.map V.int))) := if_pos rfl
    have off : ∀ b, b ≠ a → H b = none := fun b n => if_neg n
    have only : Only H := fun b => by
      by_cases c : b = a
      · rw [c]; exact .inr ⟨_, _, at_a⟩
      · exact .inl (off b c)
    refine callG_core kin hns hb hbb hlim hg ha hr F hbind H only (hsp H only (.inl (.inr ⟨_, at_a⟩))) (fun b u z => ?_) (fun b o z => ?_) (fun _ _ => hk)
    · by_cases c : b = a
      · rw [c] at z ⊢
        rw [at_a] at z
        cases z
        exact ⟨ha, by rw [List.length_map]; exact hl, vs, _, rv, ha⟩
      · rw [off b c] at z
        cases z
    · by_cases c : b = a
      · exact c
      · rw [off b c] at z
        cases z
end
/-- what the head leaves, from the law's promise -/
theorem walk_ofG {l : PySem.W.OpenLaw} {n k : Nat} {q : Program} {loose : List Str} {XP : (Str → Option Value) → Heap → Prop} {YP : World → Heap → Prop} {d : DefRec} {K : Params → PySem.W.Frag} {sp : World → Sp} {x : Str} (hn : l.most = some n) (hn2 : n ≤ sizeLine) (hdf : d.params.defaults = []) (hr : Room k callerA)
    (hY : ∀ (w : World) (h : Heap), YP w h → (K w.params).In h)
    (F : ∀ (w : World) (mg : Str → Option Value) (fa : Addr) (h : Heap), (K w.params).In h → h.Ns mainGlobals mg → mg d.name = some (.ref fa) → ∃ fd : FuncData, (∀ (s : Shared) (u : Value), BindsTo s fd ⟨[u], []⟩ [(x, u)]) ∧
        ∀ base : Heap, (K w.params).In base → base.Ns mainGlobals mg → FnG l.prog w (K w.params) mg base CX0 k fa fd [x] (sp w))
    (hsp : ∀ (w : World) (H : Hp) (a : Addr) (ns : List Int), ns.length ≤ n → Only H → SqL (K w.params) H a (ns.map V.int) → sp w [.ref a] H (fun v _ => v = .bl true) fun _ _ _ => False) : PySem.W.WalkO q loose XP YP l.row.toRowW d [] (fun f vs => PySem.call f vs) := by
  refine Att.attach_call hn hdf fun w s0 s1 mg mb fa o pm cd doc a vs ns G Y ho hd hcd hmg hobj hints hlen hg => ?_
  obtain ⟨fd, hbd, hF⟩ := F w mg fa _ (hY w _ Y) G.T.g hmg
  exact law_callG (hY w _ Y) G.T.g G.T.b G.T.builtins G.T.nolimit hg hobj hints (Nat.le_trans hlen hn2) hr hF hbd fun H hO hS => hsp w H a ns hlen hO hS
end HSP
namespace HSP
open PySem PySem.Spec PyProof.Rows L2
theorem cut_last (xs : List V) (y : V) : cutV (xs ++ [y]) none (some (-1)) = xs := by
  unfold cutV
  have e : HT.sIx (xs ++ [y]).length (xs ++ [y]).length (some (-1)) = xs.length := by
    show (if (-1 : Int) < 0 then ((-1 : Int) + ((xs ++ [y]).length : Int)).toNat else min (-1 : Int).toNat (xs ++ [y]).length) = xs.length
    rw [if_pos (by decide), List.length_append, List.length_singleton]
    omega
  rw [e, HT.sIx_none, List.drop_zero, Nat.sub_zero, List.take_left]
theorem inV_nat (i : Nat) : ∀ xs : List Nat, inV (natV i) (xs.map natV) = decide (i ∈ xs)
  | [] => rfl
  | x :: r => by
    have ih := inV_nat i r
    have e : inV (natV i) ((x :: r).map natV) = (eqV (natV x) (natV i) || inV (natV i) (r.map natV)) := rfl
    rw [e, ih]
    have e2 : eqV (natV x) (natV i) = decide ((x : Int) = (i : Int)) := rfl
    rw [e2]
    by_cases c : i = x
    · rw [decide_eq_true (show (x : Int) = (i : Int) by omega), Bool.true_or, decide_eq_true (List.mem_cons.mpr (.inl c))]
    · rw [decide_eq_false (show ¬ (x : Int) = (i : Int) by omega), Bool.false_or]
      by_cases d : i ∈ r
      · rw [decide_eq_true d, decide_eq_true (List.mem_cons_of_mem _ d)]
      · rw [decide_eq_false d, decide_eq_false (fun z => (List.mem_cons.mp z).elim c d)]
theorem inV_int (i : Int) : ∀ xs : List Int, inV (.int i) (xs.map V.int) = decide (i ∈ xs)
  | [] => rfl
  | x :: r => by
    have ih := inV_int i r
    have e : inV (.int i) ((x :: r).map V.int) = (eqV (.int x) (.int i) || inV (.int i) (r.map V.int)) := rfl
    rw [e, ih]
    have e2 : eqV (.int x) (.int i) = decide (x = i) := rfl
    rw [e2]
    by_cases c : i = x
    · rw [decide_eq_true c.symm, Bool.true_or, decide_eq_true (List.mem_cons.mpr (.inl c))]
    · rw [decide_eq_false (show ¬ x = i by omega), Bool.false_or]
      by_cases d : i ∈ r
      · rw [decide_eq_true d, decide_eq_true (List.mem_cons_of_mem _ d)]
      · rw [decide_eq_false d, decide_eq_false (fun z => (List.mem_cons.mp z).elim c d)]
theorem flat_nats : ∀ xs : List Nat, (xs.map natV).all flatV = true
  | [] => rfl
  | x :: r => by
    rw [List.map_cons, List.all_cons, flat_nats r]
    rfl
theorem flat_ints : ∀ xs : List Int, (xs.map V.int).all flatV = true
  | [] => rfl
  | x :: r => by
    rw [List.map_cons, List.all_cons, flat_ints r]
    rfl
/-! ### lists of ints as data -/
def intsD (l : List Int) : PyData := .list (l.map PyData.int)
theorem ints_can : ∀ l : List Int, PyData.canLayAll0 (l.map PyData.int) = true
  | [] => by simp [PyData.canLayAll0]
  | z :: r => by
    have ih := ints_can r
    simp only [List.map_cons, PyData.canLayAll0, PyData.canLay0, ih, Bool.and_self]
theorem ints_deep : ∀ l : List Int, PyData.depthAll (l.map PyData.int) ≤ 1
  | [] => by simp [PyData.depthAll]
  | z :: r => by
    have ih := ints_deep r
    simp only [List.map_cons, PyData.depthAll, PyData.depth]
    omega
theorem ints_shaped (l : List Int) : SeqAt.shaped (intsD l) = true := by
  unfold SeqAt.shaped intsD
  have h1 := ints_can l
  have h2 := ints_deep l
  rw [Bool.and_eq_true]
  refine ⟨by simp only [PyData.canLay0]; exact h1, decide_eq_true ?_⟩
  simp only [PyData.depth]
  omega
theorem ints_dpAll {K : PySem.W.Frag} {H : Hp} : ∀ l : List Int, DpAll K H (l.map V.int) (l.map PyData.int)
  | [] => .nil
  | z :: r => .cons (.int z) (ints_dpAll r)
theorem ints_none (l : List Int) : PyData.eqv (intsD l) (intsD []) = decide (l = []) := by
  cases l with
  | nil => rw [decide_eq_true rfl]; exact SeqAt.eqv_refl _ (by unfold intsD; simp only [PyData.canLay0]; exact ints_can [])
  | cons x r =>
    rw [decide_eq_false (List.cons_ne_nil _ _)]
    unfold intsD
    simp [PyData.eqv, PyData.eqvAll]
end HSP
namespace HSP
open PySem PySem.Spec PyProof.Rows L2
/-! ## how data are shown: lengths -/
theorem piled_le (c : Nat) : ∀ ds : List PyData, (∀ d, d ∈ ds → d.shown.length ≤ c) → piled (PyData.shownAll ds) ≤ ds.length * (c + 2)
  | [], _ => by simp [PyData.shownAll, piled_nil]
  | d :: ds, h => by
    have ih := piled_le c ds fun e he => h e (List.mem_cons_of_mem _ he)
    have h1 := h d List.mem_cons_self
    have e : PyData.shownAll (d :: ds) = d.shown :: PyData.shownAll ds := by simp [PyData.shownAll]
    rw [e, piled_cons, List.length_cons, Nat.add_mul]
    omega
theorem listText_le : ∀ ts : List Str, (listText ts).length ≤ piled ts + 2
  | [] => by decide +kernel
  | t :: r => by
    have e : listText (t :: r) = textFrom 1 (("[" : Str) ++ (if 0 > 0 then ", " else "" : String) ++ t) r ++ "]" := rfl
    rw [e, strLen_append, textFrom_length_pos _ _ _ (by decide), strLen_append, strLen_append, piled_cons]
    have e1 : (("[" : String) : Str).length = 1 := rfl
    have e2 : (("]" : String) : Str).length = 1 := rfl
    have e3 : ((if 0 > 0 then ", " else "" : String) : Str).length = 0 := rfl
    omega
theorem tupleText_le (ts : List Str) : (tupleText ts).length ≤ piled ts + 3 := by
  unfold tupleText
  rw [strLen_append, strLen_append]
  have e1 : (("(" : String) : Str).length = 1 := rfl
  have e2 : ((if ts.length == 1 then ",)" else ")" : String) : Str).length ≤ 2 := by
    split <;> decide +kernel
  have e3 : (Str.join ", " ts).length ≤ piled ts := by
    by_cases c : ts = []
    · rw [c]
      decide +kernel
    · have := join_length_add ts c
      omega
  omega
theorem shown_list_le (c : Nat) (ds : List PyData) (h : ∀ d, d ∈ ds → d.shown.length ≤ c) : (PyData.list ds).shown.length ≤ ds.length * (c + 2) + 2 := by
  have e : (PyData.list ds).shown = listText (PyData.shownAll ds) := by simp only [PyData.shown]
  rw [e]
  have h1 := listText_le (PyData.shownAll ds)
  have h2 := piled_le c ds h
  omega
/-! ### trees as data -/
def treeD : Tr → PyData
  | .nil => .none
  | .nod l r => .tuple [treeD l, treeD r]
theorem treeD_len : ∀ t : Tr, (treeD t).shown.length ≤ 11 * t.size + 4
  | .nil => by
    show (PyData.none).shown.length ≤ _
    simp only [PyData.shown]
    decide +kernel
  | .nod l r => by
    have h1 := treeD_len l
    have h2 := treeD_len r
    have e : (treeD (.nod l r)).shown = tupleText [(treeD l).shown, (treeD r).shown] := by
      show (PyData.tuple [treeD l, treeD r]).shown = _
      simp only [PyData.shown, PyData.shownAll]
    have z : (Tr.nod l r).size = l.size + 1 + r.size := rfl
    have h3 := tupleText_le [(treeD l).shown, (treeD r).shown]
    rw [piled_cons, piled_cons, piled_nil] at h3
    rw [e, z]
    omega
theorem treeD_show : ∀ t : Tr, (treeD t).showable = true
  | .nil => by simp only [treeD, PyData.showable]
  | .nod l r => by simp only [treeD, PyData.showable, PyData.showableAll, treeD_show l, treeD_show r, Bool.and_self]
theorem treeD_dict : ∀ t : Tr, (treeD t).hasDict = false
  | .nil => by simp only [treeD, PyData.hasDict]
  | .nod l r => by simp only [treeD, PyData.hasDict, PyData.hasDictAll, treeD_dict l, treeD_dict r, Bool.or_self]
theorem treeD_deep : ∀ t : Tr, (treeD t).depth ≤ t.ht
  | .nil => by simp only [treeD, PyData.depth]; exact Nat.zero_le _
  | .nod l r => by
    have h1 := treeD_deep l
    have h2 := treeD_deep r
    have e : (Tr.nod l r).ht = max l.ht r.ht + 1 := rfl
    simp only [treeD, PyData.depth, PyData.depthAll]
    omega
theorem TrAt.dp {K : PySem.W.Frag} {H : Hp} {v : V} {t : Tr} (h : TrAt H v t) : Dp K H v (treeD t) := by
  induction h with
  | nil => exact .non
  | nod eb _ _ ih1 ih2 => exact .tup (.of eb) (.cons ih1 (.cons ih2 .nil))
/-! ### lists of numbers -/
theorem ints_show : ∀ l : List Int, (∀ v, v ∈ l → v.natAbs.log2 < 1920) → PyData.showableAll (l.map PyData.int) = true
  | [], _ => by simp [PyData.showableAll]
  | z :: r, h => by
    have ih := ints_show r fun v hv => h v (List.mem_cons_of_mem _ hv)
    have h1 := h z List.mem_cons_self
    simp only [List.map_cons, PyData.showableAll, PyData.showable, ih, decide_eq_true h1, Bool.and_self]
theorem ints_dict : ∀ l : List Int, PyData.hasDictAll (l.map PyData.int) = false
  | [] => by simp [PyData.hasDictAll]
  | z :: r => by simp only [List.map_cons, PyData.hasDictAll, PyData.hasDict, ints_dict r, Bool.or_self]
theorem int_len {z : Int} (h : z.natAbs < 10 ^ 30) : (PyData.int z).shown.length ≤ 31 := by
  simp only [PyData.shown]
  rw [show (Str.ofString (toString z)).length = (toString z).length from PySem.ofString_length _]
  exact int_text_length_le10 (k := 30) (by decide) h
theorem int_log {z : Int} (h : z.natAbs < 10 ^ 30) : z.natAbs.log2 < 1920 := by
  by_cases c : z.natAbs = 0
  · rw [c]
    decide
  · exact (Nat.log2_lt c).mpr (Nat.lt_of_lt_of_le h (by decide +kernel))
/-- what repr and == ask of data -/
structure Fine (d : PyData) : Prop where
  show_ : d.showable = true
  dict : d.hasDict = false
  deep : d.depth ≤ 60
  len : d.shown.length ≤ sizeLine
/-- numbers that are not too great -/
def Tame (l : List Int) : Prop := ∀ v, v ∈ l → v.natAbs < 10 ^ 30
theorem intsD_len {l : List Int} (h : Tame l) : (intsD l).shown.length ≤ l.length * 33 + 2 := by
  have := shown_list_le 31 (l.map PyData.int) fun d hd => by
    obtain ⟨v, hv, rfl⟩ := List.mem_map.mp hd
    exact int_len (h v hv)
  rw [List.length_map] at this
  exact this
theorem ints_fine {l : List Int} (h : Tame l) (n : l.length ≤ 1000) : Fine (intsD l) := by
  have h1 := intsD_len h
  have h2 := ints_deep l
  refine ⟨?_, ?_, ?_, ?_⟩
  · unfold intsD
    simp only [PyData.showable]
    exact ints_show l fun v hv => int_log (h v hv)
  · unfold intsD
    simp only [PyData.hasDict]
    exact ints_dict l
  · unfold intsD
    simp only [PyData.depth]
    omega
  · have : sizeLine = 16777216 := rfl
    omega
/-- [d, e] -/
theorem pair_fine {d e : PyData} (hd : Fine d) (he : Fine e) (h1 : d.depth ≤ 59) (h2 : e.depth ≤ 59) (c : Nat) (l1 : d.shown.length ≤ c) (l2 : e.shown.length ≤ c) (hc : c ≤ 100000) : Fine (.list [d, e]) := by
  refine ⟨?_, ?_, ?_, ?_⟩
  · simp only [PyData.showable, PyData.showableAll, hd.show_, he.show_, Bool.and_self]
  · simp only [PyData.hasDict, PyData.hasDictAll, hd.dict, he.dict, Bool.or_self]
  · simp only [PyData.depth, PyData.depthAll]
    omega
  · have := shown_list_le c [d, e] fun x hx => by
      rcases List.mem_cons.mp hx with z | z
      · rw [z]; exact l1
      · rw [List.mem_singleton.mp z]; exact l2
    have e1 : [d, e].length = 2 := rfl
    rw [e1] at this
    have : sizeLine = 16777216 := rfl
    omega
theorem tree_fine {t : Tr} (h : t.size ≤ 100) (d : t.ht ≤ 40) : Fine (treeD t) := by
  have h1 := treeD_len t
  have h2 := treeD_deep t
  have : sizeLine = 16777216 := rfl
  exact ⟨treeD_show t, treeD_dict t, by omega, by omega⟩
/-- [tree, values] -/
def argsD (t : Tr) (ns : List Int) : PyData := .list [treeD t, intsD ns]
theorem args_fine {t : Tr} {ns : List Int} (h : t.size ≤ 20) (n : ns.length ≤ 20) (hn : Tame ns) : Fine (argsD t ns) := by
  have h1 := treeD_len t
  have h2 := treeD_deep t
  have h3 := t.ht_le
  have h4 := intsD_len hn
  have h5 : (intsD ns).depth ≤ 2 := by
    have := ints_deep ns
    unfold intsD
    simp only [PyData.depth]
    omega
  exact pair_fine (tree_fine (by omega) (by omega)) (ints_fine hn (by omega)) (by omega) (by omega) 1000 (by omega) (by omega) (by decide)
/-- numbers that the law may make of those drawn -/
def Mid (ns : List Int) : Prop := ∀ v, v ∈ ns → -10000000000000000000000 < v ∧ v < 10000000000000000000000
theorem Mid.tame {ns : List Int} (h : Mid ns) : Tame ns := fun v hv => by
  have := h v hv
  have e : (10 : Nat) ^ 30 = 1000000000000000000000000000000 := by decide +kernel
  rw [e]
  omega
theorem Mid.nil : Mid [] := fun _ h => by cases h
theorem Mid.snoc {ns : List Int} {v : Int} (h : Mid ns) (h1 : -10000000000000000000000 < v ∧ v < 10000000000000000000000) : Mid (ns ++ [v]) := fun x hx => by
  rcases List.mem_append.mp hx with z | z
  · exact h x z
  · rw [List.mem_singleton.mp z]
    exact h1
theorem Mid.set {ns : List Int} {v : Int} {i : Nat} (h : Mid ns) (h1 : -10000000000000000000000 < v ∧ v < 10000000000000000000000) : Mid (ns.set i v) := fun x hx => by
  rcases List.mem_or_eq_of_mem_set hx with z | z
  · exact h x z
  · rw [z]
    exact h1
theorem ints_can0 (l : List Int) : PyData.canLay0 (intsD l) = true := by
  unfold intsD
  simp only [PyData.canLay0]
  exact ints_can l
theorem args_dp {K : PySem.W.Frag} {H : Hp} {a b : Addr} {v : V} {t : Tr} {ns : List Int} (ha : H a = some (.lst [v, .ref b])) (hv : TrAt H v t) (hb : H b = some (.lst (ns.map V.int))) : Dp K H (.ref a) (argsD t ns) :=
  .lst (.of ha) (.cons hv.dp (.cons (.lst (.of hb) (ints_dpAll ns)) .nil))
end HSP
namespace HSP
open PySem PySem.Spec PyProof.Rows L2
/-! ### tuples of None, numbers and short texts as data -/
def vD : V → PyData
  | .bl b => .bool b
  | .int i => .int i
  | .str x => .str x
  | _ => .none
/-- what may stand in such a tuple -/
def Plain : V → Prop
  | .non => True
  | .int i => i.natAbs < 10 ^ 30
  | .str x => PyData.strOk x = true ∧ (reprText x).length ≤ 31
  | _ => False
theorem Plain.dp {K : PySem.W.Frag} {H : Hp} {v : V} (h : Plain v) : Dp K H v (vD v) := by
  cases v with
  | non => exact .non
  | int i => exact .int i
  | str x => exact .str x
  | _ => exact h.elim
theorem Plain.len {v : V} (h : Plain v) : (vD v).shown.length ≤ 31 := by
  cases v with
  | non => simp only [vD, PyData.shown]; decide +kernel
  | int i => exact int_len h
  | str x => simp only [vD, PyData.shown]; exact h.2
  | _ => exact h.elim
theorem Plain.can {v : V} (h : Plain v) : PyData.canLay0 (vD v) = true := by
  cases v with
  | non => simp only [vD, PyData.canLay0]
  | int i => simp only [vD, PyData.canLay0]
  | str x => simp only [vD, PyData.canLay0]; exact h.1
  | _ => exact h.elim
theorem Plain.show_ {v : V} (h : Plain v) : (vD v).showable = true := by
  cases v with
  | non => simp only [vD, PyData.showable]
  | int i => simp only [vD, PyData.showable]; exact decide_eq_true (int_log h)
  | str x => simp only [vD, PyData.showable]
  | _ => exact h.elim
theorem vD_dict (v : V) : (vD v).hasDict = false := by
  cases v <;> simp only [vD, PyData.hasDict]
theorem vD_deep (v : V) : (vD v).depth = 0 := by
  cases v <;> simp only [vD, PyData.depth]
def Plains (xs : List V) : Prop := ∀ v, v ∈ xs → Plain v
theorem plains_dp {K : PySem.W.Frag} {H : Hp} : ∀ xs : List V, Plains xs → DpAll K H xs (xs.map vD)
  | [], _ => .nil
  | x :: r, h => .cons (h x List.mem_cons_self).dp (plains_dp r fun v hv => h v (List.mem_cons_of_mem _ hv))
theorem plains_can : ∀ xs : List V, Plains xs → PyData.canLayAll0 (xs.map vD) = true
  | [], _ => by simp [PyData.canLayAll0]
  | x :: r, h => by
    have ih := plains_can r fun v hv => h v (List.mem_cons_of_mem _ hv)
    have h1 := (h x List.mem_cons_self).can
    simp only [List.map_cons, PyData.canLayAll0, h1, ih, Bool.and_self]
theorem plains_show : ∀ xs : List V, Plains xs → PyData.showableAll (xs.map vD) = true
  | [], _ => by simp [PyData.showableAll]
  | x :: r, h => by
    have ih := plains_show r fun v hv => h v (List.mem_cons_of_mem _ hv)
    have h1 := (h x List.mem_cons_self).show_
    simp only [List.map_cons, PyData.showableAll, h1, ih, Bool.and_self]
theorem plains_dict : ∀ xs : List V, PyData.hasDictAll (xs.map vD) = false
  | [] => by simp [PyData.hasDictAll]
  | x :: r => by simp only [List.map_cons, PyData.hasDictAll, vD_dict, plains_dict r, Bool.or_self]
theorem plains_deep : ∀ xs : List V, PyData.depthAll (xs.map vD) ≤ 1
  | [] => by simp [PyData.depthAll]
  | x :: r => by
    have ih := plains_deep r
    have h1 := vD_deep x
    simp only [List.map_cons, PyData.depthAll]
    omega
/-- a tuple of such -/
def rowD (xs : List V) : PyData := .tuple (xs.map vD)
theorem shown_tuple_le (c : Nat) (ds : List PyData) (h : ∀ d, d ∈ ds → d.shown.length ≤ c) : (PyData.tuple ds).shown.length ≤ ds.length * (c + 2) + 3 := by
  have e : (PyData.tuple ds).shown = tupleText (PyData.shownAll ds) := by simp only [PyData.shown]
  rw [e]
  have h1 := tupleText_le (PyData.shownAll ds)
  have h2 := piled_le c ds h
  omega
theorem row_len {xs : List V} (h : Plains xs) (n : xs.length ≤ 5) : (rowD xs).shown.length ≤ 168 := by
  have := shown_tuple_le 31 (xs.map vD) fun d hd => by
    obtain ⟨v, hv, rfl⟩ := List.mem_map.mp hd
    exact (h v hv).len
  rw [List.length_map] at this
  show (PyData.tuple (xs.map vD)).shown.length ≤ 168
  omega
theorem row_can {xs : List V} (h : Plains xs) : PyData.canLay0 (rowD xs) = true := by
  unfold rowD
  simp only [PyData.canLay0]
  exact plains_can xs h
theorem row_show {xs : List V} (h : Plains xs) : (rowD xs).showable = true := by
  unfold rowD
  simp only [PyData.showable]
  exact plains_show xs h
theorem row_dict (xs : List V) : (rowD xs).hasDict = false := by
  unfold rowD
  simp only [PyData.hasDict]
  exact plains_dict xs
theorem row_deep (xs : List V) : (rowD xs).depth ≤ 2 := by
  have := plains_deep xs
  unfold rowD
  simp only [PyData.depth]
  omega
theorem row_dp {K : PySem.W.Frag} {H : Hp} {a : Addr} {xs : List V} (e : H a = some (.tup xs)) (h : Plains xs) : Dp K H (.ref a) (rowD xs) := .tup (.of e) (plains_dp xs h)
theorem row_fine {xs : List V} (h : Plains xs) (n : xs.length ≤ 5) : Fine (rowD xs) := by
  have h1 := row_len h n
  have h2 := row_deep xs
  have : sizeLine = 16777216 := rfl
  exact ⟨row_show h, row_dict xs, by omega, by omega⟩
theorem row_shaped {xs : List V} (h : Plains xs) : SeqAt.shaped (rowD xs) = true := by
  unfold SeqAt.shaped
  rw [Bool.and_eq_true]
  have := row_deep xs
  exact ⟨row_can h, decide_eq_true (by omega)⟩
theorem row_same {xs : List V} (h : Plains xs) : PyData.eqv (rowD xs) (rowD xs) = true := SeqAt.eqv_refl _ (row_can h)
/-- a list of such tuples -/
def rowsD (l : List (List V)) : PyData := .list (l.map rowD)
theorem rows_can : ∀ l : List (List V), (∀ xs, xs ∈ l → Plains xs) → PyData.canLayAll0 (l.map rowD) = true
  | [], _ => by simp [PyData.canLayAll0]
  | x :: r, h => by
    have ih := rows_can r fun v hv => h v (List.mem_cons_of_mem _ hv)
    have h1 := row_can (h x List.mem_cons_self)
    simp only [List.map_cons, PyData.canLayAll0, h1, ih, Bool.and_self]
theorem rows_show : ∀ l : List (List V), (∀ xs, xs ∈ l → Plains xs) → PyData.showableAll (l.map rowD) = true
  | [], _ => by simp [PyData.showableAll]
  | x :: r, h => by
    have ih := rows_show r fun v hv => h v (List.mem_cons_of_mem _ hv)
    have h1 := row_show (h x List.mem_cons_self)
    simp only [List.map_cons, PyData.showableAll, h1, ih, Bool.and_self]
theorem rows_dict : ∀ l : List (List V), PyData.hasDictAll (l.map rowD) = false
  | [] => by simp [PyData.hasDictAll]
  | x :: r => by simp only [List.map_cons, PyData.hasDictAll, row_dict, rows_dict r, Bool.or_self]
theorem rows_deep : ∀ l : List (List V), PyData.depthAll (l.map rowD) ≤ 3
  | [] => by simp [PyData.depthAll]
  | x :: r => by
    have ih := rows_deep r
    have h1 := row_deep x
    simp only [List.map_cons, PyData.depthAll]
    omega
theorem rows_dp {K : PySem.W.Frag} {H : Hp} {rs : List Addr} {l : List (List V)} (p : Paired (fun r xs => H r = some (.tup xs)) rs l) (h : ∀ xs, xs ∈ l → Plains xs) : DpAll K H (rs.map V.ref) (l.map rowD) := by
  induction p with
  | nil => exact .nil
  | cons e _ ih => exact .cons (row_dp e (h _ List.mem_cons_self)) (ih fun v hv => h v (List.mem_cons_of_mem _ hv))
theorem rowsD_dp {K : PySem.W.Frag} {H : Hp} {a : Addr} {rs : List Addr} {l : List (List V)} (e : H a = some (.lst (rs.map V.ref))) (p : Paired (fun r xs => H r = some (.tup xs)) rs l) (h : ∀ xs, xs ∈ l → Plains xs) : Dp K H (.ref a) (rowsD l) := .lst (.of e) (rows_dp p h)
theorem rows_fine {l : List (List V)} (h : ∀ xs, xs ∈ l → Plains xs) (n : ∀ xs, xs ∈ l → xs.length ≤ 5) (m : l.length ≤ 1000) : Fine (rowsD l) := by
  have h1 := shown_list_le 168 (l.map rowD) fun d hd => by
    obtain ⟨x, hx, rfl⟩ := List.mem_map.mp hd
    exact row_len (h x hx) (n x hx)
  rw [List.length_map] at h1
  have h2 := rows_deep l
  have : sizeLine = 16777216 := rfl
  refine ⟨?_, ?_, ?_, ?_⟩
  · unfold rowsD
    simp only [PyData.showable]
    exact rows_show l h
  · unfold rowsD
    simp only [PyData.hasDict]
    exact rows_dict l
  · unfold rowsD
    simp only [PyData.depth]
    omega
  · show (PyData.list (l.map rowD)).shown.length ≤ sizeLine
    omega
theorem rowsD_can {l : List (List V)} (h : ∀ xs, xs ∈ l → Plains xs) : PyData.canLay0 (rowsD l) = true := by
  unfold rowsD
  simp only [PyData.canLay0]
  exact rows_can l h
theorem rowsD_shaped {l : List (List V)} (h : ∀ xs, xs ∈ l → Plains xs) : SeqAt.shaped (rowsD l) = true := by
  unfold SeqAt.shaped
  rw [Bool.and_eq_true]
  refine ⟨rowsD_can h, decide_eq_true ?_⟩
  have := rows_deep l
  unfold rowsD
  simp only [PyData.depth]
  omega
theorem rowsD_same {l : List (List V)} (h : ∀ xs, xs ∈ l → Plains xs) : PyData.eqv (rowsD l) (rowsD l) = true := SeqAt.eqv_refl _ (rowsD_can h)
theorem plain_nat {i : Nat} (h : i < 1000000) : Plain (natV i) := by
  show ((i : Int)).natAbs < 10 ^ 30
  have e : (10 : Nat) ^ 30 = 1000000000000000000000000000000 := by decide +kernel
  rw [e]
  omega
theorem nats_ints (l : List Nat) : l.map natV = (l.map Int.ofNat).map V.int := by
  rw [List.map_map]
  rfl
theorem nats_tame {l : List Nat} (h : ∀ i, i ∈ l → i < 1000000) : Tame (l.map Int.ofNat) := fun z hz => by
  obtain ⟨i, hi, rfl⟩ := List.mem_map.mp hz
  have := h i hi
  have e : (10 : Nat) ^ 30 = 1000000000000000000000000000000 := by decide +kernel
  rw [e]
  show i < _
  omega
end HSP
namespace HSP
open PySem PySem.Spec PyProof.Rows L2
/-! ## x in (d1, d2, ..), data of any depth -/
section
variable {X : Cx}
def rInTD (K : PySem.W.Frag) : R2 := fun x y H Q => ∃ d ds, Dp K H x d ∧ Dp K H y (.tuple ds) ∧ SeqAt.shaped d = true ∧ SeqAt.shaped (.tuple ds) = true ∧ Q (.bl (ds.any fun z => PyData.eqv z d)) H
theorem op_inTD (hu : X.A.units + 65 < cLine) : OpR X (compareOp .In) (rInTD X.K) := by
  intro pins s σ H x y v u Q I rx ry h
  obtain ⟨d, ds, hd, he, sd, se, q⟩ := h
  obtain ⟨as, r1⟩ := Dp.reads I d x v hd rx
  obtain ⟨bs, r2⟩ := Dp.reads I (.tuple ds) y u he ry
  exact SeqAt.in_tuple_reads r2 r1 (SeqAt.canLay_of_shaped se) (SeqAt.canLay_of_shaped sd) (room_in_shaped sd hu) ⟨.bl _, H, I, rfl, q⟩
end
/-- (label, side) is a pair that kills -/
def kills (l : Str) (b : Bool) : Bool := if b = true then decide (l = ("high" : Str)) else decide (l = ("low" : Str))
def sideS (b : Bool) : Str := if b = true then "right" else "left"
def pairD (l : Str) (b : Bool) : PyData := .tuple [.str l, .str (sideS b)]
def killsD : PyData := .tuple [.tuple [.str "low", .str "left"], .tuple [.str "high", .str "right"]]
theorem kill_any (l : Str) (b : Bool) : ([PyData.tuple [.str "low", .str "left"], .tuple [.str "high", .str "right"]].any fun z => PyData.eqv z (pairD l b)) = kills l b := by
  unfold pairD
  simp only [List.any_cons, List.any_nil, PyData.eqv, PyData.eqvAll, Bool.or_false, Bool.and_true]
  cases b
  · have e1 : (("left" : Str) == sideS false) = true := by decide +kernel
    have e2 : (("right" : Str) == sideS false) = false := by decide +kernel
    rw [e1, e2]
    unfold kills
    rw [if_neg Bool.false_ne_true]
    by_cases c : l = ("low" : Str)
    · rw [c]; decide +kernel
    · rw [decide_eq_false c]
      have : (("low" : Str) == l) = false := beq_eq_false_iff_ne.mpr (Ne.symm c)
      rw [this]
      simp
  · have e1 : (("left" : Str) == sideS true) = false := by decide +kernel
    have e2 : (("right" : Str) == sideS true) = true := by decide +kernel
    rw [e1, e2]
    unfold kills
    rw [if_pos rfl]
    by_cases c : l = ("high" : Str)
    · rw [c]; decide +kernel
    · rw [decide_eq_false c]
      have : (("high" : Str) == l) = false := beq_eq_false_iff_ne.mpr (Ne.symm c)
      rw [this]
      simp
theorem pair_shaped {l : Str} (b : Bool) (h : PyData.strOk l = true) : SeqAt.shaped (pairD l b) = true := by
  unfold SeqAt.shaped pairD
  rw [Bool.and_eq_true]
  have hb : PyData.strOk (sideS b) = true := by cases b <;> decide +kernel
  refine ⟨by simp only [PyData.canLay0, PyData.canLayAll0, h, hb, Bool.and_self], decide_eq_true ?_⟩
  simp only [PyData.depth, PyData.depthAll]
  omega
theorem kills_shaped : SeqAt.shaped killsD = true := by decide +kernel
end HSP
namespace HSP
open PySem PySem.Spec PyProof.Rows L2
/-! ### slices -/
theorem cut_from (xs : List V) (k : Nat) : cutV xs (some (k : Int)) none = xs.drop k := by
  unfold cutV
  rw [HT.sIx_nat, HT.sIx_none]
  by_cases h : k ≤ xs.length
  · rw [Nat.min_eq_left h]
    exact List.take_of_length_le (by rw [List.length_drop]; exact Nat.le_refl _)
  · rw [Nat.min_eq_right (by omega), Nat.sub_self, List.take_zero, List.drop_eq_nil_of_le (by omega)]
theorem cut_to (xs : List V) (k : Nat) : cutV xs none (some (k : Int)) = xs.take k := by
  unfold cutV
  rw [HT.sIx_nat, HT.sIx_none, List.drop_zero, Nat.sub_zero]
  by_cases h : k ≤ xs.length
  · rw [Nat.min_eq_left h]
  · rw [Nat.min_eq_right (by omega), List.take_of_length_le (by omega), List.take_of_length_le (by omega)]
theorem cut_init (xs : List V) (x : V) : cutV (xs ++ [x]) none (some (-1)) = xs := by
  unfold cutV
  have e1 : HT.sIx (xs ++ [x]).length (xs ++ [x]).length (some (-1)) = xs.length := by
    show (if (-1 : Int) < 0 then ((-1 : Int) + ((xs ++ [x]).length : Int)).toNat else min (-1 : Int).toNat (xs ++ [x]).length) = _
    rw [if_pos (by decide), List.length_append, List.length_singleton]
    omega
  have e2 : HT.sIx (xs ++ [x]).length 0 none = 0 := rfl
  rw [e1, e2, List.drop_zero, Nat.sub_zero]
  exact List.take_left
/-- len(..) within a comprehension -/
def rLenK (K : PySem.W.Frag) : List V → Hp → VK → Prop := fun xs H Q => ∃ p ys, xs = [V.ref p] ∧ (SqL K H p ys ∨ SqT K H p ys) ∧ Q (.int ((ys.length : Nat) : Int)) H
end HSP
namespace HSP
open PySem PySem.Spec PyProof.Rows L2
section
variable {P : Program} {w : World} {K : PySem.W.Frag} {mg : Str → Option Value} {base : Heap}
/-! ### _law_way -/
theorem sc_law_way : FnScope n_law_way p_law_way (defScope s_law_way) := ⟨rfl, rfl, rfl, by decide +kernel, rfl, by decide +kernel, by decide +kernel⟩
def spWay (n : Nat) : Sp := fun vs H Q _ => ∃ (v : V) (t : Tr) (i : Nat), vs = [v, natV i] ∧ TrAt H v t ∧ t.ht < n ∧ i < t.size ∧ t.size ≤ 300 ∧ ∀ (H' : Hp) (q : Addr), Same H H' → H q = none → PathAt H' q (pOf t 0 i) → Q (.ref q) H'
theorem ok_way {n : Nat} (B : Bl mg) (Z : Df P w K mg base "_law_size" n n_law_size (spSize n)) (a : At K mg "_law_way" s_law_way) : Df P w K mg base "_law_way" (n + 1) p_law_way (spWay n) := by
  refine Df.mk' a sc_law_way (fun vs H Q E h => ?_) (fun _ _ _ _ _ _ us hl => match us, hl with | [_, _], _ => rfl) (fun f cdv A outer s H vs Q E hr h => ?_)
  · obtain ⟨v, t, i, rfl, _⟩ := h
    rfl
  obtain ⟨v, t, i, rfl, ht, hd, hi, hz, q⟩ := h
  refine ⟨_, (pss_cons (ps_set (i := 2) sc_law_way.nd rfl (.inl rfl) (pe_lst pa_nil))
 (pss_cons (ps_set (i := 3) sc_law_way.nd rfl (.inl rfl) pe_int)
 (pss_cons (ps_while PassesOwn.never (pt_cmpR op_ne (pe_op op_add (pv 3) (pe_df Z hr (pa_cons (pe_ix ix_tup (pv 0) pe_int (fun _ _ => rfl)) pa_nil))) (pv 1) (nomark _)) (pss_cons (ps_set (i := 4) sc_law_way.nd rfl (.inl rfl) (pe_op op_add (pv 3) (pe_df Z hr (pa_cons (pe_ix ix_tup (pv 0) pe_int (fun _ _ => rfl)) pa_nil))))
 (pss_cons (ps_expr (pe_bm PySem.F.plainAttrs_list PySem.F.slot_list_append PySem.F.type_list_append mt_append (pv 2) (pa_cons (pe_tup (pa_cons (pv 4) (pa_cons (pe_ix ix_list (pe_lst (pa_cons pe_str (pa_cons pe_str pa_nil))) (pe_callTy call_int1 (by rfl) B.int (by decide +kernel) (pa_cons (pe_cmpR op_gt (pv 1) (pv 4) (nomark _)) pa_nil)) (fun _ _ => rfl)) pa_nil))) pa_nil)))
 (pss_cons (ps_set (i := 3) sc_law_way.nd rfl (.inl rfl) (pe_ix ix_list (pe_lst (pa_cons (pv 3) (pa_cons (pe_op op_add (pv 4) pe_int) pa_nil))) (pe_callTy call_int1 (by rfl) B.int (by decide +kernel) (pa_cons (pe_cmpR op_gt (pv 1) (pv 4) (nomark _)) pa_nil)) (fun _ _ => rfl)))
 (pss_one (ps_set (i := 0) sc_law_way.nd rfl (.inl rfl) (pe_ix ix_tup (pv 0) (pe_callTy call_int1 (by rfl) B.int (by decide +kernel) (pa_cons (pe_cmpR op_gt (pv 1) (pv 4) (nomark _)) pa_nil)) (fun _ _ => rfl))))))))
 (pss_one (ps_ret (pv 2)))))), ?_⟩
  have two : 2 ≤ sizeLine := by show 2 ≤ sizeLine; decide
  refine ⟨Nat.zero_le _, fun L hL => ?_⟩
  have s0 : Same H (upd H L (.lst [])) := Same.new hL
  refine ⟨fun m σ H1 => ∃ (x : V) (u : Tr) (f : Nat) (pre : List (Nat × Bool)) (y : Option V), σ = [some x, some (natV i), some (.ref L), some (.int (f : Int)), y] ∧ Same H H1 ∧ PathAt H1 L pre ∧ TrAt H x u ∧ u.ht < n ∧ f ≤ i ∧ i < f + u.size ∧ pre.length + u.size ≤ t.size ∧ pOf t 0 i = pre ++ pOf u f i ∧ m = u.size,
    ⟨_, v, t, 0, [], none, rfl, s0, ⟨[], upd_same, .nil⟩, ht, hd, Nat.zero_le _, by omega, by show 0 + _ ≤ _; omega, rfl, rfl⟩, fun m σ H1 hW => ?_⟩
  obtain ⟨x, u, f, pre, y, rfl, sm, pa, hx, hux, h1, h2, hl, hP, rfl⟩ := hW
  cases hx with
  | nil =>
    have : Tr.nil.size = 0 := rfl
    omega
  | @nod b x1 x2 t1 t2 eb g1 g2 =>
    have hsz : (Tr.nod t1 t2).size = t1.size + 1 + t2.size := rfl
    have hht : (Tr.nod t1 t2).ht = max t1.ht t2.ht + 1 := rfl
    rw [hsz] at h2 hl
    rw [hht] at hux
    rw [pOf_nod] at hP
    refine ⟨_, rfl, _, rfl, b, _, _, x1, rfl, rfl, .of (sm _ _ eb), atI_nat (j := 0) rfl, x1, t1, rfl, g1.same sm, by omega, _, _, rfl, rfl, ?_⟩
    refine ⟨_, rfl, rfl, _, rfl, ?_⟩
    by_cases c : i = f + t1.size
    · rw [if_pos c, List.append_nil] at hP
      have e : (!decide (V.int ((f : Int) + (t1.size : Int)) = natV i)) = false := by
        rw [decide_eq_true (show V.int ((f : Int) + (t1.size : Int)) = natV i from congrArg V.int (by omega))]
        rfl
      refine ite2 (fun z => absurd (z.symm.trans e) (by decide)) (fun _ => ?_)
      exact ⟨_, rfl, q _ L sm hL (by rw [hP]; exact pa)⟩
    · rw [if_neg c] at hP
      have e : (!decide (V.int ((f : Int) + (t1.size : Int)) = natV i)) = true := by
        rw [decide_eq_false (show ¬ V.int ((f : Int) + (t1.size : Int)) = natV i from fun z => c (by have := V.int.inj z; omega))]
        rfl
      refine ite2 (fun _ => ?_) (fun z => (z e).elim)
      refine ⟨fun σ' H' => ∃ m', m' < (Tr.nod t1 t2).size ∧ ∃ (x : V) (u : Tr) (f : Nat) (pre : List (Nat × Bool)) (y : Option V), σ' = [some x, some (natV i), some (.ref L), some (.int (f : Int)), y] ∧ Same H H' ∧ PathAt H' L pre ∧ TrAt H x u ∧ u.ht < n ∧ f ≤ i ∧ i < f + u.size ∧ pre.length + u.size ≤ t.size ∧ pOf t 0 i = pre ++ pOf u f i ∧ m' = u.size,
        fun σ' H' hN => hN, ?_⟩
      refine ⟨_, rfl, _, rfl, b, _, _, x1, rfl, rfl, .of (sm _ _ eb), atI_nat (j := 0) rfl, x1, t1, rfl, g1.same sm, by omega, _, _, rfl, rfl, ?_⟩
      obtain ⟨tups, eL, pT⟩ := pa
      by_cases d : i < f + t1.size
      · skip
        have hk : decide ((f : Int) + (t1.size : Int) < (i : Int)) = false := decide_eq_false (by omega)
        have hat : ∀ u1 u2 : V, atI [u1, u2] (if decide ((f : Int) + (t1.size : Int) < (i : Int)) = true then (1 : Int) else 0) = some u1 := fun u1 u2 => by rw [hk]; rfl
        refine ⟨_, rfl, .inl ⟨rfl, _, .of eL⟩, _, rfl, two, fun Y hY => ?_⟩
        have sY := Same.new (o := .lst [V.str "left", V.str "right"]) hY
        refine ⟨_, rfl, _, rfl, _, _, rfl, rfl, .inr ⟨decide ((f : Int) + (t1.size : Int) < (i : Int)), rfl, Y, _, _, _, rfl, rfl, .of upd_same, hat _ _, two, fun T hT => ?_⟩⟩
        have sT := Same.new (o := .tup [V.int ((f : Int) + (t1.size : Int)), sideV false]) hT
        have sYT := sY.trans sT
        refine ⟨L, _, _, rfl, rfl, sYT _ _ eL, ?_, ?_⟩
        · rw [List.length_map, Paired.length pT]
          exact small1000 (by omega)
        have sm3 : Same H (upd (upd (upd H1 Y (.lst [V.str "left", V.str "right"])) T (.tup [V.int ((f : Int) + (t1.size : Int)), sideV false])) L (.lst (tups.map V.ref ++ [V.ref T]))) := fun c o e => by
          rw [upd_ne (ne_of_none e hL)]
          exact sYT _ _ (sm _ _ e)
        have nTL : T ≠ L := (ne_of_none (sY _ _ eL) hT).symm
        have pa3 : PathAt (upd (upd (upd H1 Y (.lst [V.str "left", V.str "right"])) T (.tup [V.int ((f : Int) + (t1.size : Int)), sideV false])) L (.lst (tups.map V.ref ++ [V.ref T]))) L (pre ++ [(f + t1.size, false)]) := by
          refine ⟨tups ++ [T], by rw [upd_same, List.map_append]; rfl, Paired.app (Paired.mapP pT fun a z h => ?_) (.cons ?_ .nil)⟩
          · rw [upd_ne (tup_ne h eL)]
            exact sYT _ _ h
          · rw [upd_ne nTL, upd_same, show V.int ((f : Int) + (t1.size : Int)) = natV (f + t1.size) from congrArg V.int (by omega)]
        have eb3 := sm3 _ _ eb
        refine ⟨_, rfl, _, rfl, _, _, rfl, rfl, two, fun M hM => ?_⟩
        have sM := Same.new (o := .lst [V.int (f : Int), V.int ((f : Int) + (t1.size : Int) + 1)]) hM
        refine ⟨_, rfl, _, rfl, _, _, rfl, rfl, .inr ⟨decide ((f : Int) + (t1.size : Int) < (i : Int)), rfl, M, _, _, _, rfl, rfl, .of upd_same, hat _ _, ?_⟩⟩
        refine ⟨_, rfl, _, rfl, _, rfl, _, _, rfl, rfl, .inr ⟨decide ((f : Int) + (t1.size : Int) < (i : Int)), rfl, b, _, _, _, rfl, rfl, .of (sM _ _ eb3), hat _ _, ?_⟩⟩
        rw [if_pos d] at hP
        exact ⟨t1.size, by rw [hsz]; omega, x1, t1, f, pre ++ [(f + t1.size, false)], _, rfl, sm3.trans sM, pa3.same sM, g1, by omega, h1, d, by rw [List.length_append, List.length_singleton]; omega, by rw [hP, List.append_assoc]; rfl, rfl⟩
      · skip
        have hk : decide ((f : Int) + (t1.size : Int) < (i : Int)) = true := decide_eq_true (by omega)
        have hat : ∀ u1 u2 : V, atI [u1, u2] (if decide ((f : Int) + (t1.size : Int) < (i : Int)) = true then (1 : Int) else 0) = some u2 := fun u1 u2 => by rw [hk]; rfl
        refine ⟨_, rfl, .inl ⟨rfl, _, .of eL⟩, _, rfl, two, fun Y hY => ?_⟩
        have sY := Same.new (o := .lst [V.str "left", V.str "right"]) hY
        refine ⟨_, rfl, _, rfl, _, _, rfl, rfl, .inr ⟨decide ((f : Int) + (t1.size : Int) < (i : Int)), rfl, Y, _, _, _, rfl, rfl, .of upd_same, hat _ _, two, fun T hT => ?_⟩⟩
        have sT := Same.new (o := .tup [V.int ((f : Int) + (t1.size : Int)), sideV true]) hT
        have sYT := sY.trans sT
        refine ⟨L, _, _, rfl, rfl, sYT _ _ eL, ?_, ?_⟩
        · rw [List.length_map, Paired.length pT]
          exact small1000 (by omega)
        have sm3 : Same H (upd (upd (upd H1 Y (.lst [V.str "left", V.str "right"])) T (.tup [V.int ((f : Int) + (t1.size : Int)), sideV true])) L (.lst (tups.map V.ref ++ [V.ref T]))) := fun c o e => by
          rw [upd_ne (ne_of_none e hL)]
          exact sYT _ _ (sm _ _ e)
        have nTL : T ≠ L := (ne_of_none (sY _ _ eL) hT).symm
        have pa3 : PathAt (upd (upd (upd H1 Y (.lst [V.str "left", V.str "right"])) T (.tup [V.int ((f : Int) + (t1.size : Int)), sideV true])) L (.lst (tups.map V.ref ++ [V.ref T]))) L (pre ++ [(f + t1.size, true)]) := by
          refine ⟨tups ++ [T], by rw [upd_same, List.map_append]; rfl, Paired.app (Paired.mapP pT fun a z h => ?_) (.cons ?_ .nil)⟩
          · rw [upd_ne (tup_ne h eL)]
            exact sYT _ _ h
          · rw [upd_ne nTL, upd_same, show V.int ((f : Int) + (t1.size : Int)) = natV (f + t1.size) from congrArg V.int (by omega)]
        have eb3 := sm3 _ _ eb
        refine ⟨_, rfl, _, rfl, _, _, rfl, rfl, two, fun M hM => ?_⟩
        have sM := Same.new (o := .lst [V.int (f : Int), V.int ((f : Int) + (t1.size : Int) + 1)]) hM
        refine ⟨_, rfl, _, rfl, _, _, rfl, rfl, .inr ⟨decide ((f : Int) + (t1.size : Int) < (i : Int)), rfl, M, _, _, _, rfl, rfl, .of upd_same, hat _ _, ?_⟩⟩
        refine ⟨_, rfl, _, rfl, _, rfl, _, _, rfl, rfl, .inr ⟨decide ((f : Int) + (t1.size : Int) < (i : Int)), rfl, b, _, _, _, rfl, rfl, .of (sM _ _ eb3), hat _ _, ?_⟩⟩
        rw [if_neg d] at hP
        refine ⟨t2.size, by rw [hsz]; omega, x2, t2, f + t1.size + 1, pre ++ [(f + t1.size, true)], some (.int ((f : Int) + (t1.size : Int))), ?_, sm3.trans sM, pa3.same sM, g2, by omega, by omega, by omega, by rw [List.length_append, List.length_singleton]; omega, by rw [hP, List.append_assoc]; rfl, rfl⟩
        exact congrArg (fun q => [some x2, some (natV i), some (V.ref L), some (V.int q), some (V.int ((f : Int) + (t1.size : Int)))]) (by omega : (f : Int) + (t1.size : Int) + 1 = ((f + t1.size + 1 : Nat) : Int))
end
end HSP
namespace HSP
open PySem PySem.Spec PyProof.Rows L2
section
variable {P : Program} {w : World} {K : PySem.W.Frag} {mg : Str → Option Value} {base : Heap}
/-! ### _law_size -/
theorem sc_law_size : FnScope n_law_size n_law_size (defScope s_law_size) := ⟨rfl, rfl, rfl, by decide +kernel, rfl, by decide +kernel, by decide +kernel⟩
theorem ok_size (a : At K mg "_law_size" s_law_size) : ∀ n, Df P w K mg base "_law_size" n n_law_size (spSize n)
  | 0 => Df.none' a (fun vs H Q E h => by obtain ⟨v, t, _, _, h, _⟩ := h; exact absurd h (Nat.not_lt_zero _)) (fun _ _ _ _ _ _ us hl => match us, hl with | [_], _ => rfl) 0
  | n + 1 => by
    have S := ok_size a n
    refine Df.mk' a sc_law_size (fun vs H Q E h => ?_) (fun _ _ _ _ _ _ us hl => match us, hl with | [_], _ => rfl) (fun f cdv A outer s H vs Q E hr h => ?_)
    · obtain ⟨v, t, rfl, _⟩ := h
      rfl
    obtain ⟨v, t, rfl, ht, hd, q⟩ := h
    refine ⟨_, (pss_one (ps_ret (pe_ifExp (pt_cmpR op_isN (pv 0) pe_non (nomark _)) pe_int (pe_op op_add (pe_op op_add (pe_df S hr (pa_cons (pe_ix ix_tup (pv 0) pe_int (fun _ _ => rfl)) pa_nil)) pe_int) (pe_df S hr (pa_cons (pe_ix ix_tup (pv 0) pe_int (fun _ _ => rfl)) pa_nil)))))), ?_⟩
    refine ⟨v, rfl, rfl, _, rfl, ?_⟩
    cases ht with
    | nil => exact iteT q
    | @nod b x1 x2 l r e hl hr2 =>
      have hd' : max l.ht r.ht + 1 < n + 1 := hd
      refine iteF ?_
      refine ⟨_, rfl, b, _, _, x1, rfl, rfl, .of e, atI_nat (j := 0) rfl, x1, l, rfl, hl, by omega, ?_⟩
      refine ⟨_, _, rfl, rfl, _, rfl, b, _, _, x2, rfl, rfl, .of e, atI_nat (j := 1) rfl, x2, r, rfl, hr2, by omega, ?_⟩
      refine ⟨_, _, rfl, rfl, ?_⟩
      have e2 : ((l.size : Int) + 1 + (r.size : Int)) = (((Tr.nod l r).size : Nat) : Int) := by
        show _ = ((l.size + 1 + r.size : Nat) : Int)
        omega
      rw [← e2] at q
      exact q
/-! ### _law_tree -/
theorem sc_law_tree : FnScope n_law_tree ["draws", "room"] (defScope s_law_tree) := ⟨rfl, rfl, rfl, by decide +kernel, rfl, by decide +kernel, by decide +kernel⟩
def spDraw (n : Nat) : Sp := fun vs H Q _ => ∃ (p : Addr) (m k : Nat), vs = [.ref p, .int (m : Int)] ∧ m < n ∧ DrAt H p k ∧ k + 2 * m ≤ 100000 ∧ ∀ (H' : Hp) (v : V) (t : Tr), Keep p H H' → DrAt H' p (k + 2 * m) → TrAt H' v t → t.size = m → Q v H'
theorem ok_drawT (B : Bl mg) (N : Df P w K mg base "_law_next" 1 ["draws"] spNext) (a : At K mg "_law_tree" s_law_tree) : ∀ n, Df P w K mg base "_law_tree" (n + 1) ["draws", "room"] (spDraw n)
  | 0 => Df.none' a (fun vs H Q E h => by obtain ⟨p, m, k, _, h, _⟩ := h; exact absurd h (Nat.not_lt_zero _)) (fun _ _ _ _ _ _ us hl => match us, hl with | [_, _], _ => rfl) 1
  | n + 1 => by
    have D := ok_drawT B N a n
    refine Df.mk' a sc_law_tree (fun vs H Q E h => ?_) (fun _ _ _ _ _ _ us hl => match us, hl with | [_, _], _ => rfl) (fun f cdv A outer s H vs Q E hr h => ?_)
    · obtain ⟨p, m, k, rfl, _⟩ := h
      rfl
    obtain ⟨p, m, k, rfl, hm, hd, hk, q⟩ := h
    refine ⟨_, (pss_cons (ps_if (pt_cmpR op_eq (pv 1) pe_int (nomark _)) (pss_one (ps_ret pe_non)) pss_nil)
 (pss_cons (ps_set (i := 2) sc_law_tree.nd rfl (.inl rfl) (pe_ix ix_list (pe_lst (pa_cons (pe_op op_fdiv (pv 1) pe_int) (pa_cons (pe_op op_fdiv (pe_op op_sub (pv 1) pe_int) pe_int) (pa_cons (pe_op op_mod (pe_callTy call_int1 (by rfl) B.int (by decide +kernel) (pa_cons (pe_df N (hr.mono (by omega)) (pa_cons (pv 0) pa_nil)) pa_nil)) (pv 1)) (pa_cons pe_int (pa_cons (pe_op op_sub (pv 1) pe_int) pa_nil)))))) (pe_op op_mod (pe_callTy call_int1 (by rfl) B.int (by decide +kernel) (pa_cons (pe_df N (hr.mono (by omega)) (pa_cons (pv 0) pa_nil)) pa_nil)) pe_int) (fun _ _ => rfl)))
 (pss_one (ps_ret (pe_tup (pa_cons (pe_df D hr (pa_cons (pv 0) (pa_cons (pv 2) pa_nil))) (pa_cons (pe_df D hr (pa_cons (pv 0) (pa_cons (pe_op op_sub (pe_op op_sub (pv 1) (pv 2)) pe_int) pa_nil))) pa_nil))))))), ?_⟩
    refine ⟨_, rfl, rfl, _, rfl, ?_⟩
    refine ite2 (fun c => ?_) (fun c => ?_)
    · have m0 : (m : Int) = 0 := V.int.inj (of_decide_eq_true c)
      exact q H .non .nil (Keep.refl _ _) (hd.mono (by omega)) .nil (by show 0 = m; omega)
    have m1 : ¬ (m : Int) = 0 := fun z => c (decide_eq_true (congrArg V.int z))
    have mp : (0 : Int) < (m : Int) := by omega
    refine ⟨_, rfl, _, _, rfl, rfl, ⟨by decide, by decide⟩, _, rfl, _, _, rfl, rfl, _, _, rfl, rfl, ⟨by decide, by decide⟩, _, rfl, p, k, rfl, hd, by omega, fun H1 r1 kp1 d1 a1 a2 => .inl ⟨_, rfl, _, rfl, _, _, rfl, rfl, mp, _, rfl, _, _, rfl, rfl, (by show 5 ≤ sizeLine; decide), fun L hL => ?_⟩⟩
    refine ⟨_, rfl, p, k + 1, rfl, d1.same (Same.new hL), by omega, fun H2 r2 kp2 d2 a3 a4 => .inl ⟨_, rfl, _, _, rfl, rfl, (by show (0 : Int) < 5; decide), ?_⟩⟩
    have eL := kp2 L _ (d1.ne hL) upd_same
    obtain ⟨x, hx, j, rfl, hj⟩ := at_any (xs := [V.int ((m : Int) / 2), V.int (((m : Int) - 1) / 2), V.int (r1 % (m : Int)), V.int 0, V.int ((m : Int) - 1)]) (C := fun x => ∃ j : Nat, x = V.int (j : Int) ∧ j < m) (fun x hx => by
      have nat : ∀ z : Int, 0 ≤ z → z < (m : Int) → ∃ j : Nat, V.int z = V.int (j : Int) ∧ j < m := fun z z0 z1 => ⟨z.toNat, congrArg V.int (by omega), by omega⟩
      simp only [List.mem_cons, List.not_mem_nil, or_false] at hx
      rcases hx with rfl | rfl | rfl | rfl | rfl
      · exact nat _ (by omega) (by omega)
      · exact nat _ (by omega) (by omega)
      · exact nat _ (Int.emod_nonneg _ (by omega)) (Int.emod_lt_of_pos _ mp)
      · exact nat _ (by omega) (by omega)
      · exact nat _ (by omega) (by omega)) (i := r2 % 5) (Int.emod_nonneg _ (by decide)) (Int.emod_lt_of_pos _ (by decide))
    refine ⟨L, _, _, _, rfl, rfl, .of eL, hx, ?_⟩
    have kpA : Keep p H H2 := kp1.trans ((Keep.new hL).trans kp2)
    refine ⟨_, rfl, _, rfl, p, j, k + 1 + 1, rfl, by omega, d2, by omega, fun H3 v3 t3 kp3 d3 b3 s3 => ?_⟩
    refine ⟨_, rfl, _, rfl, _, rfl, _, _, rfl, rfl, _, _, rfl, rfl, p, m - 1 - j, k + 1 + 1 + 2 * j, congrArg (fun z => [V.ref p, V.int z]) (by omega : (m : Int) - (j : Int) - 1 = ((m - 1 - j : Nat) : Int)), by omega, d3, by omega, fun H4 v4 t4 kp4 d4 b4 s4 => ?_⟩
    refine ⟨(by show 2 ≤ sizeLine; decide), fun T hT => ?_⟩
    have s5 := Same.new (o := .tup [v3, v4]) hT
    refine q _ (.ref T) (.nod t3 t4) (kpA.trans (kp3.trans (kp4.trans (Keep.new hT)))) ((d4.mono (by omega)).same s5) (.nod upd_same ((d3.tree kp4 b3).same s5) (b4.same s5)) ?_
    show t3.size + 1 + t4.size = m
    omega
end
end HSP
namespace HSP
open PySem PySem.Spec PyProof.Rows L2
theorem DrAt.neOf {H : Hp} {p q : Addr} {k : Nat} {ns : List Int} (d : DrAt H p k) (e : H q = some (.lst (ns.map V.int))) : q ≠ p := fun z => by
  obtain ⟨n, j, b, e2, _⟩ := d
  rw [z, e2] at e
  have h := HO.lst.inj (Option.some.inj e)
  match ns, h with
  | [], h => exact absurd (congrArg List.length h) (by simp)
  | [_], h => exact absurd (congrArg List.length h) (by simp)
  | [_, _], h => exact absurd (congrArg List.length h) (by simp)
  | _ :: _ :: z :: _, h => exact absurd (congrArg (fun l => l[2]?) h) (by simp)
theorem DrAt.put {H : Hp} {p q : Addr} {k : Nat} {o : HO} (d : DrAt H p k) (n : q ≠ p) : DrAt (upd H q o) p k := by
  obtain ⟨z, j, b, e, l⟩ := d
  exact ⟨z, j, b, by rw [upd_ne n.symm]; exact e, l⟩
/-- a place that was not tracked at first may be written -/
theorem Keep.put {p q : Addr} {H H1 : Hp} {o : HO} (h : H q = none) (k : Keep p H H1) : Keep p H (upd H1 q o) := fun b u n e => by
  rw [upd_ne (ne_of_none e h)]
  exact k b u n e
/-- a value drawn is near 0 -/
def Near (ns : List Int) : Prop := ∀ v, v ∈ ns → -1000001 ≤ v ∧ v ≤ 1000001
theorem Near.nil : Near [] := fun _ h => by cases h
theorem Near.snoc {ns : List Int} {v : Int} (h : Near ns) (h1 : -1000001 ≤ v ∧ v ≤ 1000001) : Near (ns ++ [v]) := fun x hx => by
  rcases List.mem_append.mp hx with z | z
  · exact h x z
  · rw [List.mem_singleton.mp z]
    exact h1
theorem Near.set {ns : List Int} {v : Int} {i : Nat} (h : Near ns) (h1 : -1000001 ≤ v ∧ v ≤ 1000001) : Near (ns.set i v) := fun x hx => by
  rcases List.mem_or_eq_of_mem_set hx with z | z
  · exact h x z
  · rw [z]
    exact h1
theorem near_of {r sp : Int} (h0 : 0 ≤ sp) (h1 : sp ≤ 1000000) : -1000001 ≤ r % (sp + 1) - sp / 2 ∧ r % (sp + 1) - sp / 2 ≤ 1000001 := by
  have a1 := Int.emod_nonneg r (show sp + 1 ≠ 0 by omega)
  have a2 := Int.emod_lt_of_pos r (show (0 : Int) < sp + 1 by omega)
  omega
end HSP
namespace HSP
open PySem PySem.Spec PyProof.Rows L2
section
variable {P : Program} {w : World} {K : PySem.W.Frag} {mg : Str → Option Value} {base : Heap}
/-! ### _law_values -/
theorem sc_law_values : FnScope n_law_values ["draws", "many"] (defScope s_law_values) := ⟨rfl, rfl, rfl, by decide +kernel, rfl, by decide +kernel, by decide +kernel⟩
def spValues : Sp := fun vs H Q _ => ∃ (p : Addr) (m k : Nat), vs = [.ref p, .int (m : Int)] ∧ m ≤ 1000 ∧ DrAt H p k ∧ k + m + 10 ≤ 100000 ∧ ∀ (H' : Hp) (q : Addr) (ns : List Int), Keep p H H' → DrAt H' p (k + m + 10) → H q = none → H' q = some (.lst (ns.map V.int)) → ns.length = m → Near ns → Q (.ref q) H'
theorem ok_values (B : Bl mg) (N : Df P w K mg base "_law_next" 1 ["draws"] spNext) (a : At K mg "_law_values" s_law_values) : Df P w K mg base "_law_values" 2 ["draws", "many"] spValues := by
  refine Df.mk' a sc_law_values (fun vs H Q E h => ?_) (fun _ _ _ _ _ _ us hl => match us, hl with | [_, _], _ => rfl) (fun f cdv A outer s H vs Q E hr h => ?_)
  · obtain ⟨p, m, k, rfl, _⟩ := h
    rfl
  obtain ⟨p, m, k, rfl, hm, hd, hk, q⟩ := h
  refine ⟨_, (pss_cons (ps_set (i := 2) sc_law_values.nd rfl (.inl rfl) (pe_df N hr (pa_cons (pv 0) pa_nil)))
 (pss_cons (ps_set (i := 3) sc_law_values.nd rfl (.inr rfl) (pe_ix ix_list (pe_lst (pa_cons pe_int (pa_cons (pv 1) (pa_cons (pe_op op_add (pe_op op_mul pe_int (pv 1)) pe_int) (pa_cons (pe_op op_powW pe_int pe_int) pa_nil))))) (pe_op op_mod (pe_callTy call_int1 (by rfl) B.int (by decide +kernel) (pa_cons (pv 2) pa_nil)) pe_int) (fun _ _ => rfl)))
 (pss_cons (ps_setLc (i := 5) (own := [("k", 4)]) (g := (gName 4)) (tt := tYes) (by rfl) sc_law_values.nd rfl rfl (sw_true rfl rfl rfl (by decide +kernel)) (pi_range1 (by rfl) B.range (pa_cons (pv 1) pa_nil)) (blkOk_by (N := n_law_values) (sc := defScope s_law_values) (by decide +kernel)) (fun _ _ _ _ _ => (pg_name (i := 4) sc_law_values.nd rfl (.inl rfl))) (fun _ _ _ _ _ => pts_nil) (fun _ _ _ _ _ => (pe_op op_sub (pe_op op_mod (pe_callTy call_int1 (by rfl) B.int (by decide +kernel) (pa_cons (pe_df N hr (pa_cons (pv 0) pa_nil)) pa_nil)) (pe_op op_add (pv 3) pe_int)) (pe_op op_fdiv (pv 3) pe_int))))
 (pss_cons (ps_if (PW.pt (pw_and (pt_cmpR op_eq (pe_op op_mod (pe_callTy call_int1 (by rfl) B.int (by decide +kernel) (pa_cons (pe_op op_fdiv (pv 2) pe_int) pa_nil)) pe_int) pe_int (nomark _)) (pw_and1 (pt_cmpR op_gt (pv 1) pe_int (nomark _))))) (pss_cons (ps_set (i := 5) sc_law_values.nd rfl (.inl rfl) (pe_callB cr_sortedI (by rfl) B.sorted (by decide +kernel) (pa_cons (pv 5) pa_nil)))
 (pss_one (ps_for PassesOwn.never rfl (pi_range1 (by rfl) B.range (pa_cons (pe_op op_mod (pe_callTy call_int1 (by rfl) B.int (by decide +kernel) (pa_cons (pe_op op_fdiv (pv 2) pe_int) pa_nil)) pe_int) pa_nil)) (pg_name (i := 4) sc_law_values.nd rfl (.inl rfl)) (pss_cons (ps_set (i := 6) sc_law_values.nd rfl (.inl rfl) (pe_op op_mod (pe_callTy call_int1 (by rfl) B.int (by decide +kernel) (pa_cons (pe_df N hr (pa_cons (pv 0) pa_nil)) pa_nil)) (pv 1)))
 (pss_one (ps_asg (pe_op op_sub (pe_op op_mod (pe_callTy call_int1 (by rfl) B.int (by decide +kernel) (pa_cons (pe_df N hr (pa_cons (pv 0) pa_nil)) pa_nil)) (pe_op op_add (pv 3) pe_int)) (pe_op op_fdiv (pv 3) pe_int)) (pg_sub (pv 5) (pv 6) set_list))))))) pss_nil)
 (pss_one (ps_ret (pv 5))))))), ?_⟩
  refine ⟨_, rfl, p, k, rfl, hd, by omega, fun H1 r1 kp1 d1 a1 a2 => ?_⟩
  refine ⟨_, rfl, _, rfl, _, _, rfl, rfl, .inl ⟨by decide, by decide⟩, _, _, rfl, rfl, _, _, rfl, rfl, ⟨by decide, by decide +kernel⟩, (by show 4 ≤ sizeLine; decide), fun L hL => ?_⟩
  obtain ⟨x, hx, sp, rfl, hsp, hsp2⟩ := at_any (xs := [V.int 3, V.int (m : Int), V.int (4 * (m : Int) + 1), V.int ((10 : Int) ^ (6 : Int).toNat)]) (C := fun x => ∃ j : Int, x = V.int j ∧ 0 ≤ j ∧ j ≤ 1000000) (fun x hx => by
    simp only [List.mem_cons, List.not_mem_nil, or_false] at hx
    rcases hx with rfl | rfl | rfl | rfl
    · exact ⟨3, rfl, by decide, by decide⟩
    · exact ⟨_, rfl, by omega, by omega⟩
    · exact ⟨_, rfl, by omega, by omega⟩
    · exact ⟨_, rfl, by decide, by decide⟩) (i := r1 % 4) (Int.emod_nonneg _ (by decide)) (Int.emod_lt_of_pos _ (by decide))
  refine ⟨_, rfl, .inl ⟨_, rfl, _, _, rfl, rfl, (by show (0 : Int) < 4; decide), L, _, _, _, rfl, rfl, .of upd_same, hx, ?_⟩⟩
  have kp2 : Keep p H (upd H1 L (.lst [V.int 3, V.int (m : Int), V.int (4 * (m : Int) + 1), V.int ((10 : Int) ^ (6 : Int).toNat)])) := kp1.trans (Keep.new hL)
  have d2 := d1.same (Same.new (o := .lst [V.int 3, V.int (m : Int), V.int (4 * (m : Int) + 1), V.int ((10 : Int) ^ (6 : Int).toNat)]) hL)
  have free2 : ∀ b, (upd H1 L (.lst [V.int 3, V.int (m : Int), V.int (4 * (m : Int) + 1), V.int ((10 : Int) ^ (6 : Int).toNat)])) b = none → H b = none ∧ b ≠ p := fun b hb => by
    refine ⟨?_, d2.ne hb⟩
    cases e : H b with
    | none => rfl
    | some o => cases hb.symm.trans (kp2 b o (d2.ne hb) e)
  generalize upd H1 L (.lst [V.int 3, V.int (m : Int), V.int (4 * (m : Int) + 1), V.int ((10 : Int) ^ (6 : Int).toNat)]) = H2 at kp2 d2 free2 ⊢
  refine ⟨_, rfl, _, rfl, by omega, by omega, fun D hD => ?_⟩
  refine lc_range (lo := 0) (n := m) (fun i H' => ∃ ns : List Int, Keep p H H' ∧ DrAt H' p (k + 1 + i) ∧ H' D = some (.lst (ns.map V.int)) ∧ ns.length = i ∧ Near ns) ⟨[], kp2.trans (Keep.new hD), d2.same (Same.new hD), upd_same, rfl, .nil⟩ (fun i H3 hi h3 => ?_) (fun H3 h3 => ?_)
  · obtain ⟨ns, kp3, d3, e3, l3, w3⟩ := h3
    refine ⟨rfl, ?_⟩
    refine ⟨_, rfl, p, k + 1 + i, rfl, d3, by omega, fun H4 r2 kp4 d4 b1 b2 => .inl ⟨_, rfl, _, rfl, _, _, rfl, rfl, _, _, rfl, rfl, (by show 0 < sp + 1; omega), _, rfl, _, _, rfl, rfl, ⟨by decide, by decide⟩, _, _, rfl, rfl, _, kp4 D _ (d3.neOf e3) e3, ?_, ?_⟩⟩
    · rw [List.length_map]
      exact small1000 (by omega)
    · refine ⟨ns ++ [r2 % (sp + 1) - sp / 2], Keep.put (free2 D hD).1 (kp3.trans kp4), d4.put (d3.neOf e3), ?_, ?_, w3.snoc (near_of hsp hsp2)⟩
      · rw [upd_same, List.map_append]
        rfl
      · rw [List.length_append, List.length_singleton, l3]
  · obtain ⟨ns, kp3, d3, e3, l3, w3⟩ := h3
    have nD := d3.neOf e3
    refine ⟨_, rfl, _, _, rfl, rfl, ⟨by decide, by decide⟩, .inl ⟨_, rfl, _, _, rfl, rfl, (by show (0 : Int) < 3; decide), rfl, _, rfl, ?_⟩⟩
    have back : Q (.ref D) H3 := q H3 D ns kp3 (d3.mono (by omega)) (free2 D hD).1 e3 l3 w3
    refine ite2 (fun c1 => ?_) (fun c1 => iteF ⟨_, rfl, back⟩)
    refine ⟨_, rfl, _, _, rfl, rfl, _, rfl, ite2 (fun c2 => ?_) (fun c2 => ⟨_, rfl, back⟩)⟩
    have mp : (0 : Int) < (m : Int) := of_decide_eq_true c2
    refine ⟨_, rfl, D, ns, rfl, .of e3, fun ns2 D2 hperm _ hD2 => ?_⟩
    refine ⟨_, rfl, _, _, rfl, rfl, ⟨by decide, by decide⟩, .inl ⟨_, rfl, _, _, rfl, rfl, (by show (0 : Int) < 4; decide), ?_⟩⟩
    have u1 := Int.emod_nonneg (r1 / 12) (show (4 : Int) ≠ 0 by decide)
    have u2 := Int.emod_lt_of_pos (r1 / 12) (show (0 : Int) < 4 by decide)
    refine ⟨_, rfl, by omega, by omega, ?_⟩
    have hD2' : H D2 = none ∧ D2 ≠ p := by
      refine ⟨?_, d3.ne hD2⟩
      cases e : H D2 with
      | none => rfl
      | some o => cases hD2.symm.trans (kp3 D2 o (d3.ne hD2) e)
    refine for_range (lo := 0) (n := (r1 / 12 % 4).toNat) (fun i σ H' => ∃ (ns' : List Int) (y4 y6 : Option V), σ = [some (.ref p), some (.int (m : Int)), some (.int r1), some (.int sp), y4, some (.ref D2), y6] ∧ Keep p H H' ∧ DrAt H' p (k + 1 + m + 2 * i) ∧ H' D2 = some (.lst (ns'.map V.int)) ∧ ns'.length = m ∧ Near ns')
      ⟨ns2, _, _, rfl, Keep.put hD2'.1 kp3, d3.put hD2'.2, upd_same, by rw [hperm.length_eq, l3], fun x hx => w3 x (hperm.mem_iff.mp hx)⟩ (fun i σ H4 hi h4 => ?_) (fun σ H4 h4 => ?_)
    · obtain ⟨ns', y4, y6, rfl, kp4, d4, e4, l4, w4⟩ := h4
      refine ⟨_, rfl, p, k + 1 + m + 2 * i, rfl, d4, by omega, fun H5 r5 kp5 d5 b1 b2 => .inl ⟨_, rfl, _, rfl, _, _, rfl, rfl, mp, ?_⟩⟩
      refine ⟨_, rfl, p, k + 1 + m + 2 * i + 1, rfl, d5, by omega, fun H6 r6 kp6 d6 b3 b4 => .inl ⟨_, rfl, _, rfl, _, _, rfl, rfl, _, _, rfl, rfl, (by show 0 < sp + 1; omega), _, rfl, _, _, rfl, rfl, ⟨by decide, by decide⟩, _, _, rfl, rfl, ?_⟩⟩
      have n4 := d4.neOf e4
      have e6 := kp6 D2 _ n4 (kp5 D2 _ n4 e4)
      have v1 := Int.emod_nonneg r5 (show (m : Int) ≠ 0 by omega)
      have v2 := Int.emod_lt_of_pos r5 mp
      refine ⟨_, rfl, _, rfl, D2, _, _, (r5 % (m : Int)).toNat, rfl, rfl, e6, ?_, ?_⟩
      · rw [List.length_map, l4]
        exact ixN_in v1 v2
      · refine ⟨ns'.set (r5 % (m : Int)).toNat (r6 % (sp + 1) - sp / 2), _, _, rfl, Keep.put hD2'.1 ((kp4.trans kp5).trans kp6), d6.put n4, ?_, ?_, w4.set (near_of hsp hsp2)⟩
        · rw [upd_same, List.map_set]
        · rw [List.length_set, l4]
    · obtain ⟨ns', y4, y6, rfl, kp4, d4, e4, l4, w4⟩ := h4
      exact ⟨_, rfl, q H4 D2 ns' kp4 (d4.mono (by omega)) hD2'.1 e4 l4 w4⟩
end
end HSP
set_option maxHeartbeats 4000000
namespace HSP
open PySem PySem.Spec PyProof.Rows L2 Srt SrtO SrtR
/-! ## sorted(d, reverse=True) of a dict with whole numbers as keys -/
section
variable {X : Cx}
def rSortedDR : List V → List V → Hp → VK → Prop := fun xs zs H Q => ∃ (a : Addr) (kvs : List (L2.Key × V)) (ks : List Int), xs = [V.ref a] ∧ zs = [V.bl true] ∧ Rd H a (.dK kvs) ∧ kvs.map (·.1) = ks.map Sum.inl ∧ ks.length < 64 ∧
  ∀ (ys : List Int) (p : Addr), ys.Perm ks → ys.Pairwise (· ≥ ·) → H p = none → Q (.ref p) (upd H p (.lst (ys.map V.int)))
theorem cr_sortedDR (hcalm : X.calm = true) : CallRK X (.builtin "sorted") [Str.ofString "reverse"] rSortedDR := by
  intro pins s σ H xs zs us ws Q I r rz q
  obtain ⟨a, kvs, ks, rfl, rfl, hd, hks, h64, q⟩ := q
  obtain rfl := Vals.ref1 r
  obtain ⟨w1, rfl, ew⟩ := vals1 rz
  obtain rfl : w1 = Value.bool true := ew
  obtain ⟨z, lo, vs, rel, dd⟩ := dk_rd I.hok hd
  obtain ⟨ep, at_d⟩ := dd.dictAt
  have keys : vs.map (·.1) = ks.map Sum.inl := rel.keys.symm.trans hks
  have lv : vs.length = ks.length := by
    have := congrArg List.length keys
    rw [List.length_map, List.length_map] at this
    exact this
  have few : vs.length ≤ sizeLine := by
    rw [lv, sizeLine_eq]
    omega
  refine call_function_entry_kw kind_sorted plain_sorted entry_sorted (args_sorted_rev _ _) ?_
  unfold Builtin.«sorted»
  refine wpAny_bind (m := checkCount "sorted" 1 1 _) (wpAny_pure ?_)
  refine wpAny_bind (PySem.W.kdu_collect (A := X.A.in1) (PySem.W.kdl_dict (knd := mixKind X.prog X.w) (kvs := vs) (ep := ep) lo) (I.ok.hd hcalm) at_d few fun h1 tk acc kept got => ?_)
  have la : acc.toList.length = ks.length := by rw [Array.length_toList, got.1, lv]
  have hInt : IntsAre acc.toList ks := ints_each la fun j v e => by
    obtain ⟨k, x, e1, e2⟩ := got.2 j v (by rw [← Array.getElem?_toList]; exact e)
    have e3 : (vs.map (·.1))[j]? = some k := by
      rw [List.getElem?_map, e1]
      rfl
    rw [keys, List.getElem?_map] at e3
    match e4 : ks[j]? with
    | none =>
      rw [e4] at e3
      cases e3
    | some y =>
      rw [e4] at e3
      have e5 : Sum.inl y = k := Option.some.inj e3
      subst e5
      rcases keyIs_shape (show keyIs (Sum.inl y) v = true from e2) with ⟨i, t, ek, ev⟩ | ⟨z, t, ek, _⟩
      · cases ek
        exact ⟨y, t, rfl, ev⟩
      · cases ek
  have I1 : Inv X pins σ H { s with heap := h1, toks := tk } := I.kept kept
  refine wpAny_bind (wpAny_newList ?_ (by rw [la, sizeLine_eq]; omega))
  have made : (h1.push (seqObj "list" acc.toList.toArray 0)).get? h1.objs.size = some (seqObj "list" acc.toList.toArray 0) := Heap.get?_push_size _ rfl
  show wpAny _ _ _ _ _ { s with heap := h1.push (seqObj "list" acc.toList.toArray 0), toks := tk }
  refine wpAny_bind (wpAny_holding (wpAny_call_entry_kw slot_list_sort ⟨_, made, rfl⟩ entry_list_sort ?_ (args_list_sort_rev _ _)))
  refine list_sort_ordR (b := true) swo_int made (by rw [la, sizeLine_eq]; omega) (fun h2 => ints_sortable hInt h2) fun out s1 s2 => ⟨_, rfl, ?_⟩
  obtain ⟨ys, k1, k2, k3⟩ := ints_outR (b := true) hInt s1 s2
  obtain ⟨ep2, at2⟩ := sortedHeap_at (vs := acc.toList) (out := out.toArray.reverse) made
  have len : (ys.map V.int).length ≤ sizeLine := by
    rw [List.length_map, k2.length_eq, sizeLine_eq]
    omega
  have e0 : ((out.toArray.reverse).toList).toArray = out.toArray.reverse := by rw [Array.toArray_toList]
  refine wpAny_pure ⟨_, rfl, .ref h1.objs.size, upd H h1.objs.size (.lst (ys.map V.int)), I1.laid (t' := tk) (fun b u e => ?_) (Nat.le_refl _)
    (show ObjOk X.prog X.w _ _ _ (.lst (ys.map V.int)) from ⟨len, _, ep2, vals_of_ints k1, by rw [show (if true = true then out.toArray.reverse else out.toArray) = out.toArray.reverse from rfl, e0]; exact at2⟩), rfl, q ys _ k2 k3 (I1.hok.fresh (Nat.le_refl _))⟩
  have lt : b < h1.objs.size := Heap.lt_size e
  show (sortedHeap _ _ _ out.toArray.reverse).get? b = some u
  rw [sortedHeap_old (Nat.ne_of_lt lt) (by rw [size_push']; exact Nat.lt_succ_of_lt lt)]
  exact Heap.get?_push_of_some _ e
/-! ## a dict that is walked where it is made: for k, v in f(..).items() -/
def tLockD (td : TE) : TE := fun σ H Q => td σ H fun x H1 => ∃ d kvs, x = V.ref d ∧ H1 d = some (.dK kvs) ∧ ∀ o, Q (V.ref d) (upd H1 d (.frz o (.dK kvs)))
theorem pe_lockD {e : Expr} {td : TE} (he : PE X e td) : PE X e (tLockD td) := by
  refine ⟨fun pins s σ H Q I h => thn (he.run pins s σ H _ I h) fun u s1 z => ?_⟩
  obtain ⟨x, H1, I1, rx, d, kvs, ex, hd, q⟩ := z
  subst ex
  obtain ⟨od, I2⟩ := I1.lock hd trivial
  exact ⟨_, _, I2, rx, q od⟩
end
end HSP
namespace HSP
open PySem PySem.Spec PyProof.Rows L2
/-- what a turn of a dict's making does: the key, its value, and what is then to hold -/
def dcTurn (g : TG) (tt : TT) (tk tv : TE) (vs : List Nat) (σ : L2.St) (Z : Addr) (Then : Hp → Prop) (x : V) (H : Hp) : Prop := g x (wipe σ vs) H fun τ G => wipe τ vs = wipe σ vs ∧ tt τ G fun b G1 => if b = true then (tk τ G1 fun u G2 => tv τ G2 fun c G3 => ∃ (ps : List (Key × V)) (e : Key), u = kV e ∧ G3 Z = some (.dK ps) ∧ ps.length < sizeLine ∧ Then (upd G3 Z (.dK (putK ps e c)))) else Then G1
/-- a dict made over a list that stays -/
theorem dc_list {K : PySem.W.Frag} {src Z : Addr} {items : List V} {g : TG} {tt : TT} {tk tv : TE} {vs : List Nat} {σ : L2.St} {G0 : Hp} {End : Hp → Prop} (Pv : Nat → Hp → Prop) (begin_ : Pv 0 (upd G0 Z (.dK []))) (stays : ∀ i G, i ≤ items.length → Pv i G → SqL K G src items)
    (turn : ∀ i x G, items[i]? = some x → Pv i G → dcTurn g tt tk tv vs σ Z (Pv (i + 1)) x G) (end_ : ∀ G, Pv items.length G → End G) :
    ∃ W : Nat → Nat → Hp → Prop, (∃ m, W 0 m (upd G0 Z (.dK []))) ∧ ∀ i m G, W i m G → ((Itl K src).stop i G ∧ End G) ∨ ((Itl K src).go i G ∧ ∃ Nx : Hp → Prop, (∀ G', Nx G' → ∃ m', m' < m ∧ W (i + 1) m' G') ∧ ∀ x G', (Itl K src).yld i G x G' → dcTurn g tt tk tv vs σ Z Nx x G') := by
  refine ⟨fun i left G => left + i = items.length ∧ Pv i G, ⟨items.length, rfl, begin_⟩, fun i left G hw => ?_⟩
  obtain ⟨hl, hp⟩ := hw
  have there := stays i G (by omega) hp
  match left, hl with
  | 0, hl =>
    have hi : i = items.length := by omega
    rw [hi] at hp ⊢
    exact .inl ⟨⟨items, there, Nat.le_refl _⟩, end_ G hp⟩
  | left + 1, hl =>
    have at_i : items[i]? = some items[i] := List.getElem?_eq_getElem (by omega)
    refine .inr ⟨⟨items, items[i], there, at_i⟩, Pv (i + 1), fun G' hp' => ⟨left, Nat.lt_succ_self _, by omega, hp'⟩, fun x G' yl => ?_⟩
    have eG := yl.1
    subst eG
    exact turn i x _ (yl.2 items there) hp
end HSP
namespace HSP
open PySem PySem.Spec PyProof.Rows L2
section
variable {X : Cx}
/-- name = {..: .. for ..} on one line, the name a local -/
theorem sw_dict {kx vx : Expr} {gs : List Comprehension} {scope : Scope} {pos py : Pos} {y : Str} {l : Nat} {env : Env} (fun_ : env.scope.kind = .function) (own_ : env.scope.names.lookup y = some .local) (line : (py.line == pos.line) = true)
    (other : (scope.names.any fun (n, k) => n == y && (k == .local || k == .cell)) = false) : swapsWith (.DictComp kx vx gs scope pos) (some (.Name y py)) l env = pure true := by
  have kd : env.kindOf y = some .local := own_
  have bk : env.blockKind = .function := by
    unfold Env.blockKind
    rw [fun_]
    rfl
  unfold swapsWith
  simp only [bk, kd, other, Expr.pos, line]
  rfl
theorem ps_setDc {i : Nat} {y : Str} {py : Pos} {kx vx tg iter : Expr} {ifs : List Expr} {scope : Scope} {own : List (Str × Nat)} {pos spos : Pos} {wi : TI} {g : TG} {tt : TT} {tk tv : TE} (at_i : X.N[i]? = some y) (is_own : X.env.scope.names.lookup y = some .local)
    (sw : swapsWith (.DictComp kx vx [⟨tg, iter, ifs, 0⟩] scope pos) (some (.Name y py)) spos.line X.env = pure true) (calm : X.calm = true) (nod : X.N.Nodup) (hi : PI X tg iter wi) (ok : BlkOk X.N X.env.scope scope own)
    (hg : ∀ (s : Shared) (H : Hp) (C : Addr) (cl : List (Str × Addr)) (fp : List Addr), PG (X.blk s H scope (compEnvC scope cl C X.env) fp) tg g) (ht : ∀ (s : Shared) (H : Hp) (C : Addr) (cl : List (Str × Addr)) (fp : List Addr), PTs (X.blk s H scope (compEnvC scope cl C X.env) fp) ifs tt) (hk : ∀ (s : Shared) (H : Hp) (C : Addr) (cl : List (Str × Addr)) (fp : List Addr), PE (X.blk s H scope (compEnvC scope cl C X.env) fp) kx tk) (he : ∀ (s : Shared) (H : Hp) (C : Addr) (cl : List (Str × Addr)) (fp : List Addr), PE (X.blk s H scope (compEnvC scope cl C X.env) fp) vx tv)
    (hs : ∀ x, foldedSetIterable iter X.env x = pure x := by intro _; rfl) : PS X (.Assign [.Name y py] (.DictComp kx vx [⟨tg, iter, ifs, 0⟩] scope pos) spos) (tAsg (tDc wi g tt tk tv (own.map (·.2))) (gName i)) := by
  refine ⟨fun pins s σ H D I h => ?_⟩
  rw [exec_Assign_Name_used _ _ _ _ sw]
  refine wpAny_bind (wpAny_standAt (wpAny_bind ?_))
  show wpAny _ X.A (do let _ ← comprehension (.DictComp kx vx [⟨tg, iter, ifs, 0⟩] scope pos) scope X.env (firstIterPos [⟨tg, iter, ifs, 0⟩] pos) newDict false (eval iter X.env) (some (assign (.Name y py) X.env))) _ _ s
  have rd : tDc wi g tt tk tv (own.map (·.2)) σ H (fun x G => gName i x σ G D.nx) := h
  refine wpAny_bind (thn (dc_core (Qf := fun _ z => SP X pins D .next z) calm nod I hi ok hg ht hk he hs rd fun L C z m G J q ns f => ?_) fun _ z done => wpAny_pure (wpAny_pure done))
  show wpAny _ _ (assign (.Name y py) X.env (.ref L)) _ _ _
  refine wpAny_assign_Name (store_ok2 (v := V.ref L) J nod at_i (.inl is_own) rfl (fun z2 J2 at2 => ?_) (.inr is_own))
  obtain ⟨a, sb, ha⟩ := at2
  obtain ⟨f0, f1, f2, f3, f4, f5⟩ := f
  have other : C ≠ a := by
    rcases ha with e | e
    · rw [e]; exact f1
    · exact fun e2 => f4 y a e e2.symm
  refine ⟨m, ns.sameBut sb other, fun h3 sb3 => ⟨_, G, J2.turned (t' := z2.toks) (fun b o hb e => (sb3.2 b hb).trans e) f0 f1 f3 f4 f5, q⟩⟩
end
end HSP
namespace HSP
/-! ## the required order: ways of steps, their greatest lengths -/
/-- a way from a to b in so many steps -/
inductive Pth (E : Nat → Nat → Prop) : Nat → Nat → Nat → Prop
  | one {a b : Nat} : E a b → Pth E a b 1
  | cons {a m b k : Nat} : E a m → Pth E m b k → Pth E a b (k + 1)
theorem Pth.app {E : Nat → Nat → Prop} {a m b j k : Nat} (h : Pth E a m j) (g : Pth E m b k) : Pth E a b (j + k) := by
  induction h with
  | one e => rw [Nat.add_comm]; exact .cons e g
  | cons e _ ih => rw [Nat.add_right_comm]; exact .cons e (ih g)
theorem Pth.pos {E : Nat → Nat → Prop} {a b k : Nat} (h : Pth E a b k) : 0 < k := by cases h <;> omega
/-- all steps lead to greater nodes -/
def Up (E : Nat → Nat → Prop) : Prop := ∀ a b, E a b → a < b
theorem Pth.lt {E : Nat → Nat → Prop} (u : Up E) {a b k : Nat} (h : Pth E a b k) : a + k ≤ b := by
  induction h with
  | one e => exact u _ _ e
  | cons e _ ih => have := u _ _ e; omega
/-- a row of greatest lengths: 0 where there is no way -/
def RowL (E : Nat → Nat → Prop) (a : Nat) (f : Nat → Nat) : Prop := (∀ b, f b ≠ 0 → Pth E a b (f b)) ∧ ∀ b k, Pth E a b k → k ≤ f b
theorem RowL.uniq {E : Nat → Nat → Prop} {a : Nat} {f g : Nat → Nat} (h : RowL E a f) (h' : RowL E a g) (b : Nat) : f b = g b := by
  have h1 : f b ≤ g b := by
    by_cases c : f b = 0
    · omega
    · exact h'.2 b _ (h.1 b c)
  have h2 : g b ≤ f b := by
    by_cases c : g b = 0
    · omega
    · exact h.2 b _ (h'.1 b c)
  omega
/-- where some middles are done -/
def RowS (E : Nat → Nat → Prop) (a : Nat) (f : Nat → Nat) (ms : List Nat) : Prop := (∀ b, f b ≠ 0 → Pth E a b (f b)) ∧ ∀ m, m ∈ ms → 1 ≤ f m ∧ ∀ b k, Pth E m b k → k + 1 ≤ f b
theorem RowS.nil (E : Nat → Nat → Prop) (a : Nat) : RowS E a (fun _ => 0) [] := ⟨fun _ h => absurd rfl h, fun _ h => nomatch h⟩
theorem RowS.row {E : Nat → Nat → Prop} {a : Nat} {f : Nat → Nat} {ms : List Nat} (h : RowS E a f ms) (all : ∀ m, E a m → m ∈ ms) : RowL E a f := by
  refine ⟨h.1, fun b k p => ?_⟩
  cases p with
  | one e => exact (h.2 _ (all _ e)).1
  | cons e p => exact (h.2 _ (all _ e)).2 _ _ p
/-- the middle m is put in -/
def put1 (f : Nat → Nat) (m : Nat) : Nat → Nat := fun b => if b = m then max (f b) 1 else f b
/-- what lies behind m is put in, for the nodes that p tells -/
def putR (f g : Nat → Nat) (p : Nat → Bool) : Nat → Nat := fun b => if g b ≠ 0 ∧ p b = true then max (f b) (1 + g b) else f b
theorem RowS.more {E : Nat → Nat → Prop} {a m : Nat} {f g : Nat → Nat} {ms : List Nat} (h : RowS E a f ms) (e : E a m) (hg : RowL E m g) : RowS E a (putR (put1 f m) g fun _ => true) (ms ++ [m]) := by
  have le1 : ∀ b, f b ≤ put1 f m b := fun b => by
    unfold put1
    split
    · exact Nat.le_max_left _ _
    · exact Nat.le_refl _
  have le2 : ∀ b, put1 f m b ≤ putR (put1 f m) g (fun _ => true) b := fun b => by
    unfold putR
    split
    · exact Nat.le_max_left _ _
    · exact Nat.le_refl _
  have s1 : ∀ b, put1 f m b ≠ 0 → Pth E a b (put1 f m b) := fun b hb => by
    unfold put1 at hb ⊢
    split at hb
    · rename_i c
      rw [if_pos c]
      by_cases d : f b = 0
      · rw [d, Nat.zero_max, c]
        exact .one e
      · rw [Nat.max_eq_left (by omega)]
        exact h.1 b d
    · rename_i c
      rw [if_neg c]
      exact h.1 b hb
  refine ⟨fun b hb => ?_, fun x hx => ?_⟩
  · unfold putR at hb ⊢
    split at hb
    · rename_i c
      rw [if_pos c]
      by_cases d : put1 f m b ≤ 1 + g b
      · rw [Nat.max_eq_right d, Nat.add_comm]
        exact .cons e (hg.1 b c.1)
      · rw [Nat.max_eq_left (by omega)]
        exact s1 b (by omega)
    · rename_i c
      rw [if_neg c]
      exact s1 b hb
  · rcases List.mem_append.mp hx with hx | hx
    · obtain ⟨h1, h2⟩ := h.2 x hx
      exact ⟨Nat.le_trans h1 (Nat.le_trans (le1 x) (le2 x)), fun b k p => Nat.le_trans (h2 b k p) (Nat.le_trans (le1 b) (le2 b))⟩
    · have hx := List.mem_singleton.mp hx
      subst hx
      refine ⟨Nat.le_trans ?_ (le2 x), fun b k p => ?_⟩
      · unfold put1
        rw [if_pos rfl]
        exact Nat.le_max_right _ _
      · have hk := hg.2 b k p
        have := p.pos
        unfold putR
        rw [if_pos ⟨by omega, rfl⟩]
        exact Nat.le_trans (by omega) (Nat.le_max_right _ _)
/-! ### all pairs at once, middle by middle -/
/-- a way whose nodes between are in S -/
inductive PthS (E : Nat → Nat → Prop) (S : Nat → Prop) : Nat → Nat → Nat → Prop
  | one {a b : Nat} : E a b → PthS E S a b 1
  | cons {a m b k : Nat} : E a m → S m → PthS E S m b k → PthS E S a b (k + 1)
theorem PthS.pth {E : Nat → Nat → Prop} {S : Nat → Prop} {a b k : Nat} (h : PthS E S a b k) : Pth E a b k := by
  induction h with
  | one e => exact .one e
  | cons e _ _ ih => exact .cons e ih
theorem Pth.all {E : Nat → Nat → Prop} {S : Nat → Prop} (h : ∀ a b, E a b → S a) {a b k : Nat} (p : Pth E a b k) : PthS E S a b k := by
  induction p with
  | one e => exact .one e
  | @cons a m b k e p ih => exact .cons e (by cases p with | one e2 => exact h _ _ e2 | cons e2 _ => exact h _ _ e2) ih
/-- a way may come by m once -/
theorem PthS.split {E : Nat → Nat → Prop} {S S' : Nat → Prop} {m : Nat} (u : Up E) (hs : ∀ x, S' x → S x ∨ x = m) {a b k : Nat} (p : PthS E S' a b k) : PthS E S a b k ∨ ∃ i j, k = i + j ∧ PthS E S a m i ∧ PthS E S m b j := by
  have low : ∀ {a b k : Nat}, PthS E S' a b k → m ≤ a → PthS E S a b k := fun {a b k} p => by
    induction p with
    | one e => exact fun _ => .one e
    | @cons a x b k e sx p ih =>
      intro hm
      have := u _ _ e
      refine .cons e ?_ (ih (by omega))
      rcases hs x sx with z | z
      · exact z
      · omega
  induction p with
  | one e => exact .inl (.one e)
  | @cons a x b k e sx p ih =>
    by_cases c : x = m
    · subst c
      refine .inr ⟨1, k, Nat.add_comm _ _, .one e, low p (Nat.le_refl _)⟩
    · have sx' : S x := (hs x sx).resolve_right c
      rcases ih with z | ⟨i, j, e1, p1, p2⟩
      · exact .inl (.cons e sx' z)
      · exact .inr ⟨i + 1, j, by omega, .cons e sx' p1, p2⟩
/-- what the table F holds: ways, and all that go by S; of the pairs that D tells also those by m -/
def TabF (E : Nat → Nat → Prop) (F : Nat → Nat → Nat) (S : Nat → Prop) : Prop := (∀ a b, F a b ≠ 0 → Pth E a b (F a b)) ∧ ∀ a b k, PthS E S a b k → k ≤ F a b
def putF (F : Nat → Nat → Nat) (m a b : Nat) : Nat → Nat → Nat := fun x y => if x = a ∧ y = b ∧ F a m ≠ 0 ∧ F m b ≠ 0 then max (F a b) (F a m + F m b) else F x y
theorem putF_le (F : Nat → Nat → Nat) (m a b x y : Nat) : F x y ≤ putF F m a b x y := by
  unfold putF
  split
  · rename_i c
    rw [c.1, c.2.1]
    exact Nat.le_max_left _ _
  · exact Nat.le_refl _
theorem putF_ok {E : Nat → Nat → Prop} {F : Nat → Nat → Nat} {S : Nat → Prop} (h : TabF E F S) (m a b : Nat) : TabF E (putF F m a b) S := by
  refine ⟨fun x y hx => ?_, fun x y k p => Nat.le_trans (h.2 x y k p) (putF_le ..)⟩
  unfold putF at hx ⊢
  split at hx
  · rename_i c
    rw [if_pos c]
    obtain ⟨c1, c2, c3, c4⟩ := c
    subst c1
    subst c2
    by_cases d : F x y ≤ F x m + F m y
    · rw [Nat.max_eq_right d]
      exact (h.1 _ _ c3).app (h.1 _ _ c4)
    · rw [Nat.max_eq_left (by omega)]
      exact h.1 _ _ (by omega)
  · rename_i c
    rw [if_neg c]
    exact h.1 _ _ hx
/-- the pair a, b is done for the middle m -/
def DoneF (E : Nat → Nat → Prop) (F : Nat → Nat → Nat) (S : Nat → Prop) (m a b : Nat) : Prop := ∀ i j, PthS E S a m i → PthS E S m b j → i + j ≤ F a b
theorem DoneF.mono {E : Nat → Nat → Prop} {F F' : Nat → Nat → Nat} {S : Nat → Prop} {m a b : Nat} (h : DoneF E F S m a b) (le : F a b ≤ F' a b) : DoneF E F' S m a b := fun i j p q => Nat.le_trans (h i j p q) le
theorem putF_done {E : Nat → Nat → Prop} {F : Nat → Nat → Nat} {S : Nat → Prop} (h : TabF E F S) (m a b : Nat) : DoneF E (putF F m a b) S m a b := fun i j p q => by
  have h1 := h.2 _ _ _ p
  have h2 := h.2 _ _ _ q
  have p1 := p.pth.pos
  have p2 := q.pth.pos
  unfold putF
  rw [if_pos ⟨rfl, rfl, by omega, by omega⟩]
  exact Nat.le_trans (by omega) (Nat.le_max_right _ _)
theorem TabF.next {E : Nat → Nat → Prop} {F : Nat → Nat → Nat} {S S' : Nat → Prop} {m : Nat} {N : Nat → Prop} (u : Up E) (hN : ∀ a b, E a b → N a ∧ N b) (h : TabF E F S) (d : ∀ a b, N a → N b → DoneF E F S m a b) (hs : ∀ x, S' x → S x ∨ x = m) : TabF E F S' := by
  refine ⟨h.1, fun a b k p => ?_⟩
  rcases p.split u hs with q | ⟨i, j, rfl, p1, p2⟩
  · exact h.2 _ _ _ q
  · have ends : ∀ {a b k : Nat}, PthS E S a b k → N a ∧ N b := fun {a b k} p => by
      induction p with
      | one e => exact hN _ _ e
      | cons e _ _ ih => exact ⟨(hN _ _ e).1, ih.2⟩
    exact d a b (ends p1).1 (ends p2).2 i j p1 p2
theorem TabF.rows {E : Nat → Nat → Prop} {F : Nat → Nat → Nat} {S : Nat → Prop} (h : TabF E F S) (all : ∀ a b, E a b → S a) (a : Nat) : RowL E a (F a) := ⟨fun b hb => h.1 a b hb, fun b k p => h.2 a b k (p.all all)⟩
theorem TabF.start {E : Nat → Nat → Prop} (F : Nat → Nat → Nat) (h : ∀ a b, F a b = 1 ∧ E a b ∨ F a b = 0 ∧ ¬ E a b) : TabF E F fun _ => False := by
  refine ⟨fun a b hb => ?_, fun a b k p => ?_⟩
  · rcases h a b with ⟨e1, e2⟩ | ⟨e1, _⟩
    · rw [e1]; exact .one e2
    · exact absurd e1 hb
  · cases p with
    | one e =>
      rcases h a b with ⟨e1, _⟩ | ⟨_, e2⟩
      · omega
      · exact absurd e e2
    | cons _ z _ => exact z.elim
/-- D: the greatest lengths of all pairs -/
def AllL (E : Nat → Nat → Prop) (D : Nat → Nat → Nat) : Prop := ∀ a, RowL E a (D a)
theorem AllL.add {E : Nat → Nat → Prop} {D : Nat → Nat → Nat} (h : AllL E D) {a b c : Nat} (h1 : D a b ≠ 0) (h2 : D b c ≠ 0) : D a b + D b c ≤ D a c := (h a).2 c _ (((h a).1 b h1).app ((h b).1 c h2))
theorem AllL.lt {E : Nat → Nat → Prop} {D : Nat → Nat → Nat} (u : Up E) (h : AllL E D) {a b : Nat} (h1 : D a b ≠ 0) : a < b := by
  have := ((h a).1 b h1).lt u
  omega
/-! ### values that can stay -/
def KeepsW (D : Nat → Nat → Nat) (v : Nat → Int) (kept : List Nat) : Prop := ∀ a, a ∈ kept → ∀ b, b ∈ kept → D a b ≠ 0 → v a + D a b ≤ v b
/-- a filling that keeps the kept values and rises with each required pair -/
theorem keeps_of_fill {E : Nat → Nat → Prop} {D : Nat → Nat → Nat} {v w : Nat → Int} {kept : List Nat} (h : AllL E D) (hE : ∀ a b, E a b → w a + 1 ≤ w b) (hk : ∀ a, a ∈ kept → w a = v a) : KeepsW D v kept := by
  intro a ha b hb hd
  have key : ∀ {a b k : Nat}, Pth E a b k → w a + k ≤ w b := fun {a b k} p => by
    induction p with
    | one e => exact hE _ _ e
    | cons e _ ih => have := hE _ _ e; omega
  rw [← hk a ha, ← hk b hb]
  exact key ((h a).1 b hd)
end HSP
namespace HSP
open PySem PySem.Spec PyProof.Rows L2
/-! ## sorted(a set of ints), any number of them -/
section
variable {P : Program} {w : World} {A : Around} {E : Value → Shared → Prop} {s : Shared} {a : Addr}
theorem sorted_setB {S : Int → Bool} {n : Nat} {Q : Value → Shared → Prop} (R : SetR w s.heap a S n) (hh : A.handled = none)
    (hQ : ∀ s' p (out : List Value) (c : Nat) (ns : List Int), (∀ b o, s.heap.get? b = some o → s'.heap.get? b = some o) → s'.gens = s.gens → s'.os = s.os → s.heap.objs.size ≤ p →
      s'.heap.get? p = some (seqObj "list" out.toArray c) → IntsAre out ns → ns.Pairwise (· < ·) → (∀ k, k ∈ ns ↔ S k = true) → ns.length = n → Q (.ref p) s') :
    wpAny (model P w) A (call (.builtin "sorted") [.ref a]) Q E s := by
  obtain ⟨o, es, ep, t, ho, hex, hd, g, nd, hm, hb, hf, hn, hr, hl⟩ := R
  refine Calls.call_function_entry kind_sorted plain_sorted entry_sorted (args_sorted1 _) ?_
  unfold Builtin.«sorted»
  refine wpAny_bind (m := PySem.checkCount "sorted" 1 1 _) (wpAny_pure ?_)
  refine wpAny_bind (collect_set (A := A.in1) hh ⟨o, ho, hex.1, hd⟩ hf hb hr hl fun s1 vs k1 hz g1 o1 pm => ?_)
  have hvl : vs.length = n := by rw [pm.length_eq, List.length_map, Array.length_toList]; exact hn
  have hI : IntsAre vs (vs.map Builtin.Re.reRawOf) := ints_of vs fun v hv => by
    obtain ⟨e, he, q⟩ := List.mem_map.mp (pm.mem_iff.mp hv)
    obtain ⟨k, tk, h1, _⟩ := g e he
    exact ⟨k, tk, by rw [← q]; exact h1⟩
  have pk : (vs.map Builtin.Re.reRawOf).Perm (es.toList.map keyOf) := by
    have q := pm.map Builtin.Re.reRawOf
    rw [List.map_map] at q
    exact q
  have hzl : vs.length ≤ sizeLine := by
    rw [pm.length_eq, List.length_map, Array.length_toList]
    exact fits_of_scanBound hb
  refine wpAny_bind (wpAny_newList ?_ hzl)
  have hoL : (s1.heap.push (seqObj "list" vs.toArray 0)).get? s1.heap.objs.size = some (seqObj "list" vs.toArray 0) := Heap.get?_push_size _ rfl
  refine wpAny_bind (wpAny_holding (wpAny_call_entry slot_list_sort ⟨_, hoL, rfl⟩ entry_list_sort (SrtO.list_sort_ord SrtO.swo_int hoL hzl (fun h2 => SrtO.ints_sortable hI h2) fun out h1 h2 => ⟨_, rfl, ?_⟩) (args_list_sort _)))
  obtain ⟨q1, q2, q3⟩ := SrtO.ints_out hI h1 h2
  obtain ⟨c, hc⟩ := sortedHeap_at (vs := vs) (out := out.toArray) hoL
  have pn := q2.trans pk
  refine wpAny_pure ⟨_, rfl, hQ _ s1.heap.objs.size out c _ (fun b u e => ?_) g1 o1 hz hc q1 (lt_of_le_nodup _ q3 (pn.nodup_iff.mpr nd)) (fun k => by rw [pn.mem_iff, ← hm k]) ?_⟩
  · have q := k1 b u e
    have hlt := Heap.lt_size q
    show (sortedHeap (s1.heap.push (seqObj "list" vs.toArray 0)) s1.heap.objs.size vs out.toArray).get? b = some u
    rw [sortedHeap_old (Nat.ne_of_lt hlt) (by rw [size_push']; exact Nat.lt_succ_of_lt hlt)]
    exact Heap.get?_push_of_some _ q
  · rw [pn.length_eq, List.length_map, Array.length_toList]; exact hn
end
section
variable {X : Cx}
def rSortedSetB (w : World) : List V → Hp → VK → Prop := fun vs H Q => ∃ (a : Addr) (S : Int → Bool) (n : Nat), vs = [V.ref a] ∧ H a = some (SetO w a S n) ∧ n ≤ 10000 ∧
  ∀ (ns : List Int) (p : Addr), ns.Pairwise (· < ·) → (∀ k : Int, k ∈ ns ↔ S k = true) → ns.length = n → H p = none → Q (.ref p) (upd H p (.lst (ns.map V.int)))
theorem cr_sortedSetB (hc : X.calm = true) : CallR X (.builtin "sorted") (rSortedSetB X.w) := by
  intro pins s σ H vs us Q I r h
  obtain ⟨a, S, n, rfl, ha, hnb, q⟩ := h
  have R := setO_get I ha
  rw [Vals.ref1 r]
  refine sorted_setB R (I.ok.hd hc) fun s' p out c ns k g o hp hg hi hs hm hl => ?_
  have hlen : (ns.map V.int).length ≤ sizeLine := by
    rw [List.length_map, hl, sizeLine_eq]
    omega
  have hn : H p = none := I.hok.fresh hp
  have J : Inv X pins σ (upd H p (.lst (ns.map V.int))) { s with heap := s'.heap, gens := s'.gens, drawn := s'.drawn, toks := s'.toks } :=
    I.call (ch := []) (Un.laid k hp hn) (I.hok.laid k hp ⟨hlen, out, c, vals_of_ints hi, hg⟩) (by rw [g]; exact I.bare) (fun _ z => nomatch z)
  have e : s' = { s with heap := s'.heap, gens := s'.gens, drawn := s'.drawn, toks := s'.toks } := by
    cases s'
    cases s
    cases o
    rfl
  rw [e]
  exact ⟨.ref p, _, J, rfl, q ns p hs hm hl hn⟩
end
end HSP
namespace HSP
open PySem PySem.Spec PyProof.Rows L2
section
variable {P : Program} {w : World} {K : PySem.W.Frag} {mg : Str → Option Value} {base : Heap}
/-! ### is_node, check_among, check_node, where it is one -/
theorem sc_isN : FnScope n_is_node ["thing", "many"] (defScope s_is_node) := ⟨rfl, rfl, rfl, by decide +kernel, rfl, by decide +kernel, by decide +kernel⟩
def spIsN : Sp := fun vs H Q _ => ∃ (i m : Nat), vs = [natV i, natV m] ∧ i < m ∧ Q (.bl true) H
theorem ok_isN (W1 : Df P w K mg base "is_whole" 1 ["thing"] spWhole) (a : At K mg "is_node" s_is_node) : Df P w K mg base "is_node" 2 ["thing", "many"] spIsN := by
  refine Df.mk' a sc_isN (fun vs H Q E h => ?_) (fun _ _ _ _ _ _ us hl => match us, hl with | [_, _], _ => rfl) (fun f cdv A outer s H vs Q E hr h => ?_)
  · obtain ⟨i, m, rfl, _⟩ := h
    rfl
  obtain ⟨i, m, rfl, hi, q⟩ := h
  refine ⟨_, (pss_one (ps_ret (pe_and (pe_df W1 hr (pa_cons (pv 0) pa_nil)) (pe_one (pe_chain op_le op_lt pe_int (pv 0) (pv 1)))))), ?_⟩
  refine ⟨_, rfl, _, rfl, true, rfl, iteT ?_⟩
  refine ⟨_, rfl, _, _, rfl, rfl, _, rfl, ite_yes (by omega) ?_⟩
  refine ⟨_, rfl, _, _, rfl, rfl, ?_⟩
  have z : Q (.bl (decide ((i : Int) < (m : Int)))) H := by
    rw [decide_eq_true (show (i : Int) < (m : Int) by omega)]
    exact q
  exact z
def spChkA : Sp := fun vs H Q _ => ∃ (i m : Nat), vs = [natV m, natV i] ∧ i < m ∧ Q .non H
end
end HSP
namespace HSP
open PySem PySem.Spec PyProof.Rows L2
section
variable {P : Program} {w : World} {K : PySem.W.Frag} {mg : Str → Option Value} {base : Heap}
/-! ### check_row -/
theorem sc_chkR : FnScope n_check_row ["row"] (defScope s_check_row) := ⟨rfl, rfl, rfl, by decide +kernel, rfl, by decide +kernel, by decide +kernel⟩
def spChkR : Sp := fun vs H Q _ => ∃ (a : Addr) (ns : List Int), vs = [.ref a] ∧ H a = some (.lst (ns.map V.int)) ∧ ∀ H', Same H H' → Q .non H'
theorem ok_chkR (B : Bl mg) (W1 : Df P w K mg base "is_whole" 1 ["thing"] spWhole) (a : At K mg "check_row" s_check_row) : Df P w K mg base "check_row" 2 ["row"] spChkR := by
  refine Df.mk' a sc_chkR (fun vs H Q E h => ?_) (fun _ _ _ _ _ _ us hl => match us, hl with | [_], _ => rfl) (fun f cdv A outer s H vs Q E hr h => ?_)
  · obtain ⟨a, ns, rfl, _⟩ := h
    rfl
  obtain ⟨a, ns, rfl, ha, q⟩ := h
  refine ⟨_, (pss_cons (ps_if (pt_not (pt_val (pe_callB call_isi (by rfl) B.isinstance (by decide +kernel) (pa_cons (pv 0) (pa_cons (pe_bltn (v := .ty "list") (by rfl) B.list (by decide +kernel) rfl) pa_nil))))) (pss_one ps_never) pss_nil)
 (pss_one (ps_for PassesOwn.never rfl (pi_enum (by rfl) B.enumerate (pa_cons (pv 0) pa_nil)) (pg_tup rfl (pgs_cons (pg_name (i := 1) sc_chkR.nd rfl (.inl rfl)) (pgs_cons (pg_name (i := 2) sc_chkR.nd rfl (.inl rfl)) pgs_nil))) (pss_one (ps_if (pt_not (pt_val (pe_df W1 hr (pa_cons (pv 2) pa_nil)))) (pss_one ps_never) pss_nil))))), ?_⟩
  refine ⟨_, rfl, _, _, _, _, true, rfl, .ty "list", .base (.lst ha), rfl, true, rfl, iteF ?_⟩
  refine ⟨.ref a, rfl, a, ns.map V.int, rfl, .of ha, ?_⟩
  refine for_it (walk_enum (K := K) (a := a) (xs := ns.map V.int)) (fun _ σ H3 => Same H H3 ∧ ∃ y2 y3, σ = [some (.ref a), y2, y3]) ⟨Same.refl _, none, none, rfl⟩ (fun i σ H3 _ h3 => .of (h3.1 _ _ ha)) (fun i x σ H3 H4 hi h3 hy => ?_) (fun σ H3 h3 => q _ h3.1)
  obtain ⟨s3, y2, y3, rfl⟩ := h3
  obtain ⟨p, x1, x2, rfl, np, rfl, ex1, ex2⟩ := hy
  rw [List.length_map] at hi
  have g1 : (ns.map V.int)[i]? = some (.int ns[i]) := by
    rw [List.getElem?_map, List.getElem?_eq_getElem hi]
    rfl
  cases g1.symm.trans ex2
  refine ⟨p, [x1, .int ns[i]], rfl, .of upd_same, rfl, x1, _, rfl, _, [], rfl, rfl, ?_⟩
  refine ⟨_, rfl, _, rfl, true, rfl, iteF ?_⟩
  exact ⟨s3.trans (Same.new np), _, _, rfl⟩
end
end HSP
namespace HSP
open PySem PySem.Spec PyProof.Rows L2
section
variable {P : Program} {w : World} {K : PySem.W.Frag} {mg : Str → Option Value} {base : Heap}
/-! ### check_values -/
theorem sc_chkV : FnScope n_check_values ["tree", "values"] (defScope s_check_values) := ⟨rfl, rfl, rfl, by decide +kernel, rfl, by decide +kernel, by decide +kernel⟩
def spChkV : Sp := fun vs H Q _ => ∃ (v : V) (t : Tr) (a : Addr) (ns : List Int), vs = [v, .ref a] ∧ TrAt H v t ∧ t.size ≤ 1000 ∧ H a = some (.lst (ns.map V.int)) ∧ ns.length = t.size ∧ ∀ H', Same H H' → Q .non H'
theorem ok_chkV (B : Bl mg) (R : Df P w K mg base "check_row" 2 ["row"] spChkR) (C : Df P w K mg base "count_nodes" 1 ["tree"] spCount) (T : Df P w K mg base "check_tree" 2 ["tree"] spChkT)
    (a : At K mg "check_values" s_check_values) : Df P w K mg base "check_values" 3 ["tree", "values"] spChkV := by
  refine Df.mk' a sc_chkV (fun vs H Q E h => ?_) (fun _ _ _ _ _ _ us hl => match us, hl with | [_, _], _ => rfl) (fun f cdv A outer s H vs Q E hr h => ?_)
  · obtain ⟨v, t, a, ns, rfl, _⟩ := h
    rfl
  obtain ⟨v, t, a, ns, rfl, ht, hz, ha, hn, q⟩ := h
  refine ⟨_, (pss_cons (ps_expr (pe_df T hr (pa_cons (pv 0) pa_nil)))
 (pss_cons (ps_if (PW.pt (pw_and (pt_val (pe_callB call_isi (by rfl) B.isinstance (by decide +kernel) (pa_cons (pv 1) (pa_cons (pe_bltn (v := .ty "list") (by rfl) B.list (by decide +kernel) rfl) pa_nil)))) (pw_and1 (pt_cmpR op_ne (pe_callB call_len_seq (by rfl) B.len PySem.boot_len (pa_cons (pv 1) pa_nil)) (pe_df C (hr.mono (by decide)) (pa_cons (pv 0) pa_nil)) (nomark _))))) (pss_one ps_never) pss_nil)
 (pss_one (ps_expr (pe_df R hr (pa_cons (pv 1) pa_nil)))))), ?_⟩
  refine ⟨v, rfl, v, t, rfl, ht, hz, fun H1 s1 => ?_⟩
  refine ⟨_, rfl, _, _, _, _, true, rfl, .ty "list", .base (.lst (s1 _ _ ha)), rfl, true, rfl, iteT ?_⟩
  refine ⟨_, rfl, a, _, rfl, .inl (.of (s1 _ _ ha)), v, rfl, v, t, rfl, ht.same s1, hz, fun H2 s2 => ?_⟩
  have e1 : V.int (((ns.map V.int).length : Nat) : Int) = V.int ((t.size : Nat) : Int) := by rw [List.length_map, hn]
  refine ⟨rfl, _, rfl, ?_⟩
  rw [e1, decide_eq_true rfl]
  refine iteF ?_
  exact ⟨.ref a, rfl, a, ns, rfl, s2 _ _ (s1 _ _ ha), fun H3 s3 => q _ ((s1.trans s2).trans s3)⟩
end
end HSP
namespace HSP
open PySem PySem.Spec PyProof.Rows L2
/-! ## defs that are also called by name, the names the other way round -/
structure DfB (P : Program) (w : World) (K : PySem.W.Frag) (mg : Str → Option Value) (base : Heap) (x : Str) (n : Nat) (ps ks : List Str) (sp : Sp) : Prop where
  ex : ∃ (f : Addr) (fd : FuncData), mg x = some (.ref f) ∧ PySem.W.keepIn K (.ref f) = true ∧ Binds K fd ps [] ∧ KBn K fd ps 0 ks (fun _ ws => ws.reverse) (fun _ zs => zs.reverse) ∧ FnOk P w K mg base CX0 n f fd ps sp
section
variable {P : Program} {w : World} {K : PySem.W.Frag} {mg : Str → Option Value} {base : Heap}
theorem DfB.df {x : Str} {n : Nat} {ps ks : List Str} {sp : Sp} (D : DfB P w K mg base x n ps ks sp) : Df P w K mg base x n ps sp := by
  obtain ⟨f, fd, h1, h2, h3, _, h5⟩ := D.ex
  exact ⟨f, fd, h1, h2, h3, h5⟩
theorem Vals.rev {vs : List V} {us : List Value} (r : Vals vs us) : Vals vs.reverse us.reverse := by
  induction r with
  | nil => exact .nil
  | cons h t ih =>
    rw [List.reverse_cons, List.reverse_cons]
    exact ih.append (.cons h .nil)
theorem DfB.mk' {x : Str} {st : Stmt} {N ps ks : List Str} {k : Nat} {sp : Sp} (a : At K mg x st) (S : FnScope N ps (defScope st)) (len : ∀ vs H Q E, sp vs H Q E → vs.length = ps.length)
    (hb : ∀ (kV doc pm : Value) (an : Option Addr) (cdv ct : Value) (us : List Value), us.length = ps.length → bindArgs (PySem.W.fnOf x x (defArgs st) (defBody st) (defScope st) .none kV doc pm an cdv ct) ⟨us, []⟩ = pure (ps.zip us))
    (hk : ∀ (kV doc pm : Value) (an : Option Addr) (cdv ct : Value) (ws : List Value), ws.length = ks.length → bindArgs (PySem.W.fnOf x x (defArgs st) (defBody st) (defScope st) .none kV doc pm an cdv ct) ⟨[], ks.zip ws⟩ = pure (ps.zip ws.reverse))
    (body : ∀ (f : Addr) (cdv : Value) (A : Around) (outer : List Env) (s : Shared) (H : Hp) (vs : List V) (Q : VK) (E : XK), Room k (A.deeper (envOfC x (defScope st) s.heap.objs.size f cdv)) → sp vs H Q E →
      ∃ t, PSs (cxOf CX0 P w K mg base N x (defScope st) f cdv A outer s H E).nox (defBody st) t ∧ t { nx := fun _ H' => Q .non H', rt := Q } (start N vs) H) : DfB P w K mg base x (k + 1) ps ks sp := by
  obtain ⟨f, fd, hm, F⟩ := a
  refine ⟨f, fd, hm, F.kp, F.binds hb, ⟨fun s us ws _ h1 h2 => ?_, fun _ r => HSP.Vals.rev r⟩, F.ok S len (body f)⟩
  obtain ⟨oc, od, kV, doc, pm, an, cdv, ct, osl, rfl, _⟩ := F.ex
  rw [List.length_eq_zero_iff.mp h1]
  exact .of_eq (hk kV doc pm an cdv ct ws h2)
end
section
variable {X : Cx} {k : Nat} {ps ks : List Str} {sp : Sp} {x : Str} {p pos : Pos} {kws : List Keyword} {tk : TA}
theorem pe_dfK (D : DfB X.prog X.w X.K X.mg X.base x k ps ks sp) (hr : Room k X.A) (hkw : PK X kws tk) (hg : Gl X x := by rfl) (hall : (backToKw pos (keywordEach kws X.env)).all (·.1.isSome) = true := by rfl) (hks : (backToKw pos (keywordEach kws X.env)).filterMap (·.1) = ks := by rfl)
    (hdb : (x == ("__debug__" : Str)) = false := by decide) (hpl : (backToKw pos (keywordEach kws X.env)).any (·.1.isNone) = false := by rfl) : PE X (.Call (.Name x p) [] kws pos) (tCallN 0 ks.length sp (fun _ zs => zs.reverse) E0 tNil tk) := by
  obtain ⟨f, fd, hm, hk, _, kb, F⟩ := D.ex
  exact pe_callK0 F hr hg hm hk kb pass0 hkw hall hks hdb hpl
end
end HSP
namespace HSP
open PySem PySem.Spec PyProof.Rows L2
/-! ## the required order of wished nodes -/
def edgesW (t : Tr) (ws : List Nat) : List (Nat × Nat) := ws.flatMap fun w => (pOf t 0 w).map fun z => if z.2 = true then (z.1, w) else (w, z.1)
def EdW (t : Tr) (ws : List Nat) (a b : Nat) : Prop := (a, b) ∈ edgesW t ws
def ancW (t : Tr) (ws : List Nat) : List Nat := ws.flatMap fun w => (pOf t 0 w).map (·.1)
/-- the wished nodes and their ancestors, rising -/
def NodesW (t : Tr) (ws : List Nat) (N : List Nat) : Prop := N.Pairwise (· < ·) ∧ ∀ x, x ∈ N ↔ x ∈ ws ++ ancW t ws
theorem anc_in {t : Tr} {ws : List Nat} {x : Nat} (h : x ∈ ancW t ws) : x < t.size := by
  obtain ⟨w, _, h2⟩ := List.mem_flatMap.mp h
  obtain ⟨z, hz, rfl⟩ := List.mem_map.mp h2
  have h3 : z.1 < 0 + t.size := (pOf_in t 0 w _ hz).2
  omega
theorem edge_in {t : Tr} {ws : List Nat} {a b : Nat} (h : EdW t ws a b) : (a ∈ ws ++ ancW t ws) ∧ b ∈ ws ++ ancW t ws := by
  obtain ⟨w, hw, h2⟩ := List.mem_flatMap.mp (show (a, b) ∈ edgesW t ws from h)
  obtain ⟨z, hz, e⟩ := List.mem_map.mp h2
  have ha : z.1 ∈ ancW t ws := List.mem_flatMap.mpr ⟨w, hw, List.mem_map.mpr ⟨z, hz, rfl⟩⟩
  split at e
  · cases e
    exact ⟨List.mem_append_right _ ha, List.mem_append_left _ hw⟩
  · cases e
    exact ⟨List.mem_append_left _ hw, List.mem_append_right _ ha⟩
theorem sideW : ∀ (t : Tr) (f i : Nat), f ≤ i → i < f + t.size → ∀ z, z ∈ pOf t f i → z.2 = decide (z.1 < i) ∧ z.1 ≠ i
  | .nil, _, _, _, _, z, hz => by cases hz
  | .nod l r, f, i, h1, h2, z, hz => by
    have hs : (Tr.nod l r).size = l.size + 1 + r.size := rfl
    unfold pOf at hz
    by_cases c : i = f + l.size
    · rw [if_pos c] at hz
      cases hz
    · rw [if_neg c] at hz
      by_cases d : i < f + l.size
      · rw [if_pos d] at hz
        rcases List.mem_cons.mp hz with e | e
        · rw [e]
          exact ⟨(decide_eq_false (show ¬ f + l.size < i by omega)).symm, by show f + l.size ≠ i; omega⟩
        · exact sideW l f i h1 d z e
      · rw [if_neg d] at hz
        rcases List.mem_cons.mp hz with e | e
        · rw [e]
          exact ⟨(decide_eq_true (show f + l.size < i by omega)).symm, by show f + l.size ≠ i; omega⟩
        · exact sideW r (f + l.size + 1) i (by omega) (by omega) z e
theorem edge_up {t : Tr} {ws : List Nat} (hw : ∀ w, w ∈ ws → w < t.size) : Up (EdW t ws) := fun a b h => by
  obtain ⟨w, hw', h2⟩ := List.mem_flatMap.mp (show (a, b) ∈ edgesW t ws from h)
  obtain ⟨z, hz, e⟩ := List.mem_map.mp h2
  have hs := sideW t 0 w (Nat.zero_le _) (by have := hw w hw'; omega) z hz
  split at e
  · rename_i c
    cases e
    rw [c] at hs
    exact of_decide_eq_true hs.1.symm
  · rename_i c
    cases e
    have h4 : ¬ z.1 < a := fun y => c (by rw [hs.1]; exact decide_eq_true y)
    have h5 := hs.2
    omega
def grE (es : List (Nat × Nat)) (x : Nat) : List Nat := (es.filter fun e => e.1 == x).map (·.2)
theorem grE_more (es : List (Nat × Nat)) (a b x : Nat) : grE (es ++ [(a, b)]) x = if x = a then grE es x ++ [b] else grE es x := by
  unfold grE
  rw [List.filter_append, List.map_append, List.filter_cons]
  by_cases c : x = a
  · rw [if_pos c, if_pos (by rw [beq_iff_eq]; exact c.symm)]
    rfl
  · rw [if_neg c, if_neg (by rw [beq_iff_eq]; exact fun z => c z.symm)]
    show _ ++ [] = _
    rw [List.append_nil]
theorem grE_mem {es : List (Nat × Nat)} {x y : Nat} : y ∈ grE es x ↔ (x, y) ∈ es := by
  unfold grE
  rw [List.mem_map]
  constructor
  · rintro ⟨⟨a, b⟩, h, rfl⟩
    obtain ⟨h1, h2⟩ := List.mem_filter.mp h
    have := eq_of_beq h2
    dsimp only at this
    rw [← this]
    exact h1
  · intro h
    exact ⟨(x, y), List.mem_filter.mpr ⟨h, beq_self_eq_true _⟩, rfl⟩
theorem grE_len (es : List (Nat × Nat)) (x : Nat) : (grE es x).length ≤ es.length := by
  unfold grE
  rw [List.length_map]
  exact List.length_filter_le _ _
/-- a dict by whole numbers: each key with the place of what it leads to -/
def kvN (prs : List (Nat × Addr)) : List (Key × V) := prs.map fun p => (Sum.inl (p.1 : Int), V.ref p.2)
def GrAt (H : Hp) (G : Addr) (N : List Nat) (gr : Nat → List Nat) : Prop := ∃ prs : List (Nat × Addr), H G = some (.dK (kvN prs)) ∧ prs.map (·.1) = N ∧ (prs.map (·.2)).Nodup ∧ ∀ p, p ∈ prs → H p.2 = some (.lst ((gr p.1).map natV))
theorem kvN_get : ∀ {prs : List (Nat × Addr)} {x : Nat}, x ∈ prs.map (·.1) → ∃ a, (x, a) ∈ prs ∧ valV (kvN prs) (Sum.inl (x : Int)) = some (.ref a)
  | [], _, h => nomatch h
  | (y, b) :: r, x, h => by
    by_cases c : y = x
    · subst c
      refine ⟨b, List.mem_cons_self, ?_⟩
      have e : (kvN ((y, b) :: r)).find? (fun kv => decide (kv.1 = Sum.inl (y : Int))) = some (Sum.inl (y : Int), V.ref b) := List.find?_cons_of_pos (decide_eq_true rfl)
      unfold valV
      rw [e]
      rfl
    · have h2 : x ∈ r.map (·.1) := by
        rcases List.mem_cons.mp h with z | z
        · exact absurd z.symm c
        · exact z
      obtain ⟨a, h3, h4⟩ := kvN_get h2
      refine ⟨a, List.mem_cons_of_mem _ h3, ?_⟩
      have e : (kvN ((y, b) :: r)).find? (fun kv => decide (kv.1 = Sum.inl (x : Int))) = (kvN r).find? (fun kv => decide (kv.1 = Sum.inl (x : Int))) := List.find?_cons_of_neg (by
        intro z
        have z : (Sum.inl (y : Int) : Key) = Sum.inl (x : Int) := of_decide_eq_true z
        exact c (by have := Sum.inl.inj z; omega))
      unfold valV at h4 ⊢
      rw [e]
      exact h4
section
variable {P : Program} {w : World} {K : PySem.W.Frag} {mg : Str → Option Value} {base : Heap}
/-! ### check_wished -/
theorem sc_check_wished : FnScope n_check_wished ["tree", "wished"] (defScope s_check_wished) := ⟨rfl, rfl, rfl, by decide +kernel, rfl, by decide +kernel, by decide +kernel⟩
def spChkWd : Sp := fun vs H Q _ => ∃ (v : V) (t : Tr) (W : Addr) (ws : List Nat), vs = [v, .ref W] ∧ TrAt H v t ∧ t.size ≤ 300 ∧ H W = some (.lst (ws.map natV)) ∧ ws.Nodup ∧ (∀ x, x ∈ ws → x < t.size) ∧ ∀ H', Same H H' → Q .non H'
theorem ok_chkWd (B : Bl mg) (Co : Df P w K mg base "count_nodes" 1 ["tree"] spCount) (In : Df P w K mg base "is_node" 2 ["thing", "many"] spIsN) (a : At K mg "check_wished" s_check_wished) : Df P w K mg base "check_wished" 3 ["tree", "wished"] spChkWd := by
  refine Df.mk' a sc_check_wished (fun vs H Q E h => ?_) (fun _ _ _ _ _ _ us hl => match us, hl with | [_, _], _ => rfl) (fun f cdv A outer s H vs Q E hr h => ?_)
  · obtain ⟨_, _, _, _, rfl, _⟩ := h
    rfl
  obtain ⟨v, t, W, ws, rfl, ht, hz, eW, nd, lt, q⟩ := h
  refine ⟨_, (pss_cons (ps_if (pt_not (pt_val (pe_callB call_isi (by rfl) B.isinstance (by decide +kernel) (pa_cons (pv 1) (pa_cons (pe_bltn (v := .ty "list") (by rfl) B.list (by decide +kernel) rfl) pa_nil))))) (pss_one ps_never) pss_nil)
 (pss_cons (ps_set (i := 2) sc_check_wished.nd rfl (.inl rfl) (pe_df Co (hr.mono (by decide)) (pa_cons (pv 0) pa_nil)))
 (pss_one (ps_for PassesOwn.never rfl (pi_enum (by rfl) B.enumerate (pa_cons (pv 1) pa_nil)) (pg_tup rfl (pgs_cons (pg_name (i := 3) sc_check_wished.nd rfl (.inl rfl)) (pgs_cons (pg_name (i := 4) sc_check_wished.nd rfl (.inl rfl)) pgs_nil))) (pss_one (ps_if (PW.pt (pw_or (pt_not (pt_val (pe_df In hr (pa_cons (pv 4) (pa_cons (pv 2) pa_nil))))) (pw_or1 (pt_cmpR op_in_seq (pv 4) (pe_slice sl_list (pv 1) po_none (po_some (pv 3))) (by rfl))))) (pss_one ps_never) pss_nil)))))), ?_⟩
  refine ⟨_, rfl, _, _, _, _, true, rfl, .ty "list", .base (.lst eW), rfl, true, rfl, iteF ?_⟩
  refine ⟨v, rfl, v, t, rfl, ht, by omega, fun H1 s1 => ?_⟩
  have e1 := s1 _ _ eW
  refine ⟨_, rfl, W, _, rfl, .of e1, for_it (walk_enum (K := K) (a := W) (xs := ws.map natV)) (fun i σ H' => (∃ y3 y4 : Option V, σ = [some v, some (.ref W), some (natV t.size), y3, y4]) ∧ Same H1 H') ⟨⟨none, none, rfl⟩, .refl _⟩ (fun i σ H' _ h' => .of (h'.2 _ _ e1)) (fun i x σ H2 H3 hi h2 hy => ?_) (fun σ H2 h2 => ?_)⟩
  · obtain ⟨⟨y3, y4, rfl⟩, s2⟩ := h2
    obtain ⟨T, x1, x2, rfl, nT, rfl, g1, g2⟩ := hy
    rw [List.length_map] at hi
    have hw : ws[i]? = some ws[i] := List.getElem?_eq_getElem hi
    have g2 : (ws.map natV)[i]? = some x2 := g2
    rw [List.getElem?_map, hw] at g2
    cases g2
    cases (show some (V.int ((i : Nat) : Int)) = some x1 from g1)
    have hm := List.getElem_mem hi
    have nin : ws[i] ∉ ws.take i := fun h => by
      obtain ⟨j, hj, e⟩ := List.mem_iff_getElem.mp h
      rw [List.length_take] at hj
      rw [List.getElem_take] at e
      exact List.pairwise_iff_getElem.mp nd j i (by omega) hi (by omega) e
    generalize ws[i] = x at hw hm nin
    have sT := Same.new (o := .tup [V.int ((i : Nat) : Int), natV x]) nT
    have e3 := sT _ _ (s2 _ _ e1)
    refine ⟨T, _, rfl, .of upd_same, rfl, _, _, rfl, _, [], rfl, rfl, ?_⟩
    refine ⟨_, rfl, _, rfl, x, t.size, rfl, lt x hm, true, rfl, iteF ?_⟩
    refine ⟨_, rfl, _, rfl, _, rfl, _, rfl, W, _, rfl, .of e3, fun S nS => ?_⟩
    have eS : cutV (ws.map natV) none (some ((i : Nat) : Int)) = (ws.take i).map natV := by rw [cut_to, List.map_take]
    rw [eS]
    refine ⟨S, _, rfl, .inl (.of upd_same), rfl, flat_nats _, _, rfl, ?_⟩
    rw [show (if false = true then !inV (natV x) ((ws.take i).map natV) else inV (natV x) ((ws.take i).map natV)) = decide (x ∈ ws.take i) from inV_nat x _, decide_eq_false nin]
    exact iteF ⟨⟨_, _, rfl⟩, s2.trans (sT.trans (Same.new nS))⟩
  · exact q _ (s1.trans h2.2)
end
end HSP
namespace HSP
open PySem PySem.Spec PyProof.Rows L2
/-! ### intervals and labels -/
/-- the bounds that a path gives -/
def lowOf (g : Nat → Int) : List (Nat × Bool) → Option Int
  | [] => none
  | (n, true) :: r => match lowOf g r with
    | none => some (g n)
    | some m => some (max (g n) m)
  | (_, false) :: r => lowOf g r
def highOf (g : Nat → Int) : List (Nat × Bool) → Option Int
  | [] => none
  | (n, false) :: r => match highOf g r with
    | none => some (g n)
    | some m => some (min (g n) m)
  | (_, true) :: r => highOf g r
/-- the values above on one side -/
def above (g : Nat → Int) (b : Bool) (p : List (Nat × Bool)) : List Int := (p.filter fun z => z.2 == b).map fun z => g z.1
def optV : Option Int → V
  | none => .non
  | some i => .int i
theorem low_spec (g : Nat → Int) : ∀ p : List (Nat × Bool), (above g true p = [] → lowOf g p = none) ∧ ∀ m, m ∈ above g true p → (∀ y, y ∈ above g true p → y ≤ m) → lowOf g p = some m
  | [] => ⟨fun _ => rfl, fun m hm => by cases hm⟩
  | (n, false) :: r => low_spec g r
  | (n, true) :: r => by
    obtain ⟨h1, h2⟩ := low_spec g r
    have e : above g true ((n, true) :: r) = g n :: above g true r := rfl
    have el : lowOf g ((n, true) :: r) = match lowOf g r with | none => some (g n) | some m => some (max (g n) m) := rfl
    rw [e]
    refine ⟨fun z => absurd z (List.cons_ne_nil _ _), fun m hm hle => ?_⟩
    by_cases c : above g true r = []
    · rw [el, h1 c]
      rw [c] at hm
      exact congrArg some (List.mem_singleton.mp hm).symm
    · obtain ⟨x, hx, hxm⟩ : ∃ x, x ∈ above g true r ∧ ∀ y, y ∈ above g true r → y ≤ x := by
        cases q : above g true r with
        | nil => exact absurd q c
        | cons y ys => exact ⟨_, (maxOf_spec ys y).1, (maxOf_spec ys y).2⟩
      rw [el, h2 x hx hxm]
      have a1 := hle (g n) List.mem_cons_self
      have a2 := hle x (List.mem_cons_of_mem _ hx)
      rcases List.mem_cons.mp hm with z | z
      · exact congrArg some (by omega)
      · have a3 := hxm m z
        exact congrArg some (by omega)
theorem high_spec (g : Nat → Int) : ∀ p : List (Nat × Bool), (above g false p = [] → highOf g p = none) ∧ ∀ m, m ∈ above g false p → (∀ y, y ∈ above g false p → m ≤ y) → highOf g p = some m
  | [] => ⟨fun _ => rfl, fun m hm => by cases hm⟩
  | (n, true) :: r => high_spec g r
  | (n, false) :: r => by
    obtain ⟨h1, h2⟩ := high_spec g r
    have e : above g false ((n, false) :: r) = g n :: above g false r := rfl
    have el : highOf g ((n, false) :: r) = match highOf g r with | none => some (g n) | some m => some (min (g n) m) := rfl
    rw [e]
    refine ⟨fun z => absurd z (List.cons_ne_nil _ _), fun m hm hle => ?_⟩
    by_cases c : above g false r = []
    · rw [el, h1 c]
      rw [c] at hm
      exact congrArg some (List.mem_singleton.mp hm).symm
    · obtain ⟨x, hx, hxm⟩ : ∃ x, x ∈ above g false r ∧ ∀ y, y ∈ above g false r → x ≤ y := by
        cases q : above g false r with
        | nil => exact absurd q c
        | cons y ys => exact ⟨_, (minOf_spec ys y).1, (minOf_spec ys y).2⟩
      rw [el, h2 x hx hxm]
      have a1 := hle (g n) List.mem_cons_self
      have a2 := hle x (List.mem_cons_of_mem _ hx)
      rcases List.mem_cons.mp hm with z | z
      · exact congrArg some (by omega)
      · have a3 := hxm m z
        exact congrArg some (by omega)
/-- the interval, none if it is empty -/
def bndOf (g : Nat → Int) (p : List (Nat × Bool)) : Option (Option Int × Option Int) :=
  match lowOf g p, highOf g p with
  | some a, some b => if a ≥ b then none else some (some a, some b)
  | a, b => some (a, b)
def BndAt (H : Hp) (v : V) (b : Option (Option Int × Option Int)) : Prop := match b with
  | none => v = .non
  | some (x, y) => ∃ e, v = .ref e ∧ H e = some (.tup [optV x, optV y])
inductive Lb where
  | dead | found | low | high
  deriving DecidableEq
def Lb.str : Lb → Str
  | .dead => "dead"
  | .found => "found"
  | .low => "low"
  | .high => "high"
def lbOf (b : Option (Option Int × Option Int)) (x : Int) : Lb := match b with
  | none => .dead
  | some (lo, hi) => match lo with
    | some l => if x ≤ l then .low else match hi with
      | some h => if x ≥ h then .high else .found
      | none => .found
    | none => match hi with
      | some h => if x ≥ h then .high else .found
      | none => .found
section
variable {P : Program} {w : World} {K : PySem.W.Frag} {mg : Str → Option Value} {base : Heap}
def spLabel : Sp := fun vs H Q _ => ∃ (v : V) (b : Option (Option Int × Option Int)) (x : Int), vs = [v, .int x] ∧ BndAt H v b ∧ Q (.str (lbOf b x).str) H
/-! ### bounds_below -/
theorem above_snoc (g : Nat → Int) (b : Bool) {p : List (Nat × Bool)} {i : Nat} {z : Nat × Bool} (h : p[i]? = some z) : above g b (p.take (i + 1)) = above g b (p.take i) ++ if z.2 == b then [g z.1] else [] := by
  unfold above
  rw [List.take_add_one, h]
  show List.map _ (List.filter _ (p.take i ++ [z])) = _
  rw [List.filter_append, List.map_append]
  congr 1
  unfold List.filter
  cases z.2 == b <;> rfl
theorem above_len (g : Nat → Int) (b : Bool) (p : List (Nat × Bool)) : (above g b p).length ≤ p.length := by
  unfold above
  rw [List.length_map]
  exact List.length_filter_le _ _
def spBounds : Sp := fun vs H Q _ => ∃ (a r : Addr) (ns : List Int) (p : List (Nat × Bool)), vs = [.ref a, .ref r] ∧ H a = some (.lst (ns.map V.int)) ∧ PathAt H r p ∧ p.length ≤ 900 ∧ (∀ z, z ∈ p → z.1 < ns.length) ∧ ∀ (H' : Hp) (v : V), Same H H' → BndAt H' v (bndOf (valAt ns) p) → Q v H'
end
end HSP
namespace HSP
open PySem PySem.Spec PyProof.Rows L2
/-- the label of a node -/
def labAt (g : Nat → Int) (t : Tr) (i : Nat) : Lb := lbOf (bndOf g (pOf t 0 i)) (g i)
def labsV (g : Nat → Int) (t : Tr) (n : Nat) : List V := (List.range n).map fun i => V.str (labAt g t i).str
theorem labsV_len (g : Nat → Int) (t : Tr) (n : Nat) : (labsV g t n).length = n := by
  unfold labsV
  rw [List.length_map, List.length_range]
theorem labsV_more (g : Nat → Int) (t : Tr) (n : Nat) : labsV g t (n + 1) = labsV g t n ++ [V.str (labAt g t n).str] := by
  unfold labsV
  rw [List.range_succ, List.map_append]
  rfl
/-- the nodes that are found -/
def foundOf (g : Nat → Int) (t : Tr) (n : Nat) : List Nat := (List.range n).filter fun i => labAt g t i == .found
theorem foundOf_more (g : Nat → Int) (t : Tr) (n : Nat) : foundOf g t (n + 1) = foundOf g t n ++ if labAt g t n == .found then [n] else [] := by
  unfold foundOf
  rw [List.range_succ, List.filter_append]
  congr 1
  unfold List.filter
  cases labAt g t n == .found <;> rfl
theorem foundOf_len (g : Nat → Int) (t : Tr) (n : Nat) : (foundOf g t n).length ≤ n := by
  have h := List.length_filter_le (fun i => labAt g t i == .found) (List.range n)
  rw [List.length_range] at h
  exact h
section
variable {P : Program} {w : World} {K : PySem.W.Frag} {mg : Str → Option Value} {base : Heap}
/-! ### labels_of -/
def spLabels : Sp := fun vs H Q _ => ∃ (v : V) (t : Tr) (a : Addr) (ns : List Int), vs = [v, .ref a] ∧ TrAt H v t ∧ t.size ≤ 300 ∧ H a = some (.lst (ns.map V.int)) ∧ ns.length = t.size ∧ ∀ (H' : Hp) (q : Addr), Same H H' → H q = none → H' q = some (.lst (labsV (valAt ns) t t.size)) → Q (.ref q) H'
end
end HSP
namespace HSP
open PySem PySem.Spec PyProof.Rows L2
/-! ## comprehensions with two for -/
section
variable {J J1 : It} {n n1 : Nat} {G G1 : Hp → Prop} {Y Y1 : Nat → Hp → V → Hp → Prop}
theorem lc2_it (w : Walk J n G Y) {g : TG} {tt : TT} {wi1 : TI} {g1 : TG} {tt1 : TT} {te : TE} {vs vs1 : List Nat} {σ : L2.St} {H1 : Hp} {D : Addr} {Qd : Hp → Prop} (Pv : Nat → Hp → Prop) (h0 : Pv 0 (upd H1 D (.lst []))) (hG : ∀ i H, i ≤ n → Pv i H → G H)
    (hs : ∀ i x H H', i < n → Pv i H → Y i H x H' → g x (wipe σ vs) H' fun σ2 H2 => wipe σ2 vs = wipe σ vs ∧ tt σ2 H2 fun b H3 =>
      if b = true then wi1 σ2 H3 fun J1 H4 => ∃ W1 : Nat → Nat → Hp → Prop, (∃ m, W1 0 m H4) ∧ ∀ j k H, W1 j k H →
        (J1.stop j H ∧ Pv (i + 1) H) ∨ (J1.go j H ∧ ∃ Nx1 : Hp → Prop, (∀ H', Nx1 H' → ∃ k', k' < k ∧ W1 (j + 1) k' H') ∧ ∀ x H', J1.yld j H x H' → g1 x (wipe σ2 vs1) H' fun σ3 H5 => wipe σ3 vs1 = wipe σ2 vs1 ∧ tt1 σ3 H5 fun b H6 =>
          if b = true then te σ3 H6 fun y H7 => ∃ acc, H7 D = some (.lst acc) ∧ acc.length < sizeLine ∧ Nx1 (upd H7 D (.lst (acc ++ [y]))) else Nx1 H6)
      else Pv (i + 1) H3) (hd : ∀ H, Pv n H → Qd H) :
    ∃ W : Nat → Nat → Hp → Prop, (∃ m, W 0 m (upd H1 D (.lst []))) ∧ ∀ i m H, W i m H →
      (J.stop i H ∧ Qd H) ∨ (J.go i H ∧ ∃ Nx : Hp → Prop, (∀ H', Nx H' → ∃ m', m' < m ∧ W (i + 1) m' H') ∧ ∀ x H', J.yld i H x H' → g x (wipe σ vs) H' fun σ2 H2 => wipe σ2 vs = wipe σ vs ∧ tt σ2 H2 fun b H3 =>
        if b = true then wi1 σ2 H3 fun J1 H4 => ∃ W1 : Nat → Nat → Hp → Prop, (∃ m, W1 0 m H4) ∧ ∀ j k H, W1 j k H →
          (J1.stop j H ∧ Nx H) ∨ (J1.go j H ∧ ∃ Nx1 : Hp → Prop, (∀ H', Nx1 H' → ∃ k', k' < k ∧ W1 (j + 1) k' H') ∧ ∀ x H', J1.yld j H x H' → g1 x (wipe σ2 vs1) H' fun σ3 H5 => wipe σ3 vs1 = wipe σ2 vs1 ∧ tt1 σ3 H5 fun b H6 =>
            if b = true then te σ3 H6 fun y H7 => ∃ acc, H7 D = some (.lst acc) ∧ acc.length < sizeLine ∧ Nx1 (upd H7 D (.lst (acc ++ [y]))) else Nx1 H6)
        else Nx H3) := by
  refine ⟨fun i m H => m = n - i ∧ i ≤ n ∧ Pv i H, ⟨n, by simp, Nat.zero_le _, h0⟩, ?_⟩
  rintro i m H ⟨rfl, hi, p⟩
  have q := hG i H hi p
  by_cases hlt : i < n
  · exact .inr ⟨w.goes i H hlt q, Pv (i + 1), fun H' p' => ⟨n - (i + 1), by omega, rfl, hlt, p'⟩, fun x H' y => hs i x H H' hlt p (w.yields i H x H' hlt q y)⟩
  · have e : i = n := by omega
    subst e
    exact .inl ⟨w.stops H q, hd H p⟩
/-- the inner for -/
theorem in_it (w : Walk J1 n1 G1 Y1) {g1 : TG} {tt1 : TT} {te : TE} {vs1 : List Nat} {σ2 : L2.St} {H4 : Hp} {D : Addr} {Nx : Hp → Prop} (Pv : Nat → Hp → Prop) (h0 : Pv 0 H4) (hG : ∀ i H, i ≤ n1 → Pv i H → G1 H)
    (hs : ∀ j x H H', j < n1 → Pv j H → Y1 j H x H' → g1 x (wipe σ2 vs1) H' fun σ3 H5 => wipe σ3 vs1 = wipe σ2 vs1 ∧ tt1 σ3 H5 fun b H6 =>
      if b = true then te σ3 H6 fun y H7 => ∃ acc, H7 D = some (.lst acc) ∧ acc.length < sizeLine ∧ Pv (j + 1) (upd H7 D (.lst (acc ++ [y]))) else Pv (j + 1) H6) (hd : ∀ H, Pv n1 H → Nx H) :
    ∃ W1 : Nat → Nat → Hp → Prop, (∃ m, W1 0 m H4) ∧ ∀ j k H, W1 j k H →
      (J1.stop j H ∧ Nx H) ∨ (J1.go j H ∧ ∃ Nx1 : Hp → Prop, (∀ H', Nx1 H' → ∃ k', k' < k ∧ W1 (j + 1) k' H') ∧ ∀ x H', J1.yld j H x H' → g1 x (wipe σ2 vs1) H' fun σ3 H5 => wipe σ3 vs1 = wipe σ2 vs1 ∧ tt1 σ3 H5 fun b H6 =>
        if b = true then te σ3 H6 fun y H7 => ∃ acc, H7 D = some (.lst acc) ∧ acc.length < sizeLine ∧ Nx1 (upd H7 D (.lst (acc ++ [y]))) else Nx1 H6) := by
  refine ⟨fun i m H => m = n1 - i ∧ i ≤ n1 ∧ Pv i H, ⟨n1, by simp, Nat.zero_le _, h0⟩, ?_⟩
  rintro i m H ⟨rfl, hi, p⟩
  have q := hG i H hi p
  by_cases hlt : i < n1
  · exact .inr ⟨w.goes i H hlt q, Pv (i + 1), fun H' p' => ⟨n1 - (i + 1), by omega, rfl, hlt, p'⟩, fun x H' y => hs i x H H' hlt p (w.yields i H x H' hlt q y)⟩
  · have e : i = n1 := by omega
    subst e
    exact .inl ⟨w.stops H q, hd H p⟩
end
end HSP
namespace HSP
open PySem PySem.Spec PyProof.Rows L2
section
variable {X : Cx}
/-- sum(a list of lists of values, a list of values) -/
def rSumV (K : PySem.W.Frag) : List V → Hp → VK → Prop := fun vs H Q => ∃ (a b : Addr) (rows : List Addr) (parts : List (List V)) (ms : List V), vs = [V.ref a, V.ref b] ∧ H a = some (.lst (rows.map V.ref)) ∧ H b = some (.lst ms) ∧
  Paired (fun r ns => H r = some (.lst ns)) rows parts ∧ ms.length + parts.flatten.length ≤ sizeLine ∧ ∀ (H' : Hp) (p : Addr), Same H H' → (p = b ∨ H p = none) → H' p = some (.lst (ms ++ parts.flatten)) → Q (.ref p) H'
theorem rowsV_of {P : Program} {w : World} {H : Hp} {h : Heap} (ok : HOk P w H h) : ∀ {rows : List Addr} {parts : List (List V)}, Paired (fun r ns => H r = some (.lst ns)) rows parts →
    ∃ pits : List (List Value), pits.length = rows.length ∧ (∀ j (hj : j < rows.length), ∃ m, h.get? rows[j] = some (LO (pits.getD j []) m)) ∧ Vals parts.flatten pits.flatten ∧ (pits.map List.length).sum = parts.flatten.length
  | [], [], .nil => ⟨[], rfl, fun j hj => absurd hj (Nat.not_lt_zero j), .nil, rfl⟩
  | r :: rows, ns :: parts, .cons e t => by
    obtain ⟨pits, h1, h2, h3, h4⟩ := rowsV_of ok t
    obtain ⟨z, its, n, v, g⟩ : ObjOk P w H h r (.lst ns) := ok r _ e
    refine ⟨its :: pits, by rw [List.length_cons, h1, List.length_cons], fun j hj => ?_, ?_, ?_⟩
    · cases j with
      | zero => exact ⟨n, g⟩
      | succ j => exact h2 j (Nat.lt_of_succ_lt_succ hj)
    · rw [List.flatten_cons, List.flatten_cons]
      exact v.append h3
    · rw [List.map_cons, List.sum_cons, h4, List.flatten_cons, List.length_append, ← v.length]
theorem cr_sumV (hc : X.calm = true) : CallR X (.builtin "sum") (rSumV X.K) := by
  intro pins s σ H vs us Q I r h
  obtain ⟨a, b, rows, parts, ms, rfl, ha, hb, hp, hz, q⟩ := h
  cases r with
  | cons r1 t1 =>
    cases t1 with
    | cons r2 t2 =>
      cases t2
      cases r1
      cases r2
      obtain ⟨za, its, n, va, ea⟩ : ObjOk X.prog X.w H s.heap a (.lst (rows.map V.ref)) := I.hok a _ ha
      obtain ⟨zb, it0, n0, vb, eb⟩ : ObjOk X.prog X.w H s.heap b (.lst ms) := I.hok b _ hb
      obtain ⟨pits, hl2, hg2, hv2, hn2⟩ := rowsV_of I.hok hp
      have e1 : (List.range rows.length).map (fun j => pits.getD j []) = pits := by
        have q := range_map (fun x : List Value => x) [] pits
        rw [List.map_id', hl2] at q
        exact q
      have e2 : ((List.range rows.length).map fun j => (pits.getD j []).length).sum = parts.flatten.length := by
        have q := range_map (fun x : List Value => x.length) [] pits
        rw [hl2] at q
        rw [q, hn2]
      refine sumL_call (I.ok.hd hc) (lits := its) (acc := it0) (parts := fun j => pits.getD j []) ea (refs_of va) eb hg2 (by rw [e2, ← vb.length]; exact hz) fun s' T c kp hg ho hT hw => ?_
      rw [e1] at hT
      have hvals : Vals (ms ++ parts.flatten) (it0 ++ pits.flatten) := by
        exact vb.append hv2
      rcases hw with ⟨z1, z2⟩ | hnew
      · subst z1
        cases hp
        refine ⟨.ref T, H, I.call' (ch := []) ho (Un.kept kp) (I.hok.kept kp) (by rw [hg]; exact I.bare) (fun _ z => nomatch z), rfl, q H T (Same.refl H) (.inl z2) ?_⟩
        rw [z2, hb, List.flatten_nil, List.append_nil]
      · have hn : H T = none := by
          cases eo : H T with
          | none => rfl
          | some o =>
            obtain ⟨u, hu⟩ := objOk_get (I.hok T o eo)
            rw [hnew] at hu
            cases hu
        refine ⟨.ref T, upd H T (.lst (ms ++ parts.flatten)), I.call' (ch := []) ho (Un.laidN kp hnew hn) (I.hok.laidN kp hn ⟨?_, _, c, hvals, hT⟩) (by rw [hg]; exact I.bare) (fun _ z => nomatch z), rfl, q _ T (Same.new hn) (.inr hn) upd_same⟩
        rw [List.length_append]
        exact hz
end
end HSP
namespace HSP
open PySem PySem.Spec PyProof.Rows L2
/-! ## lists of lists of numbers -/
def RowsAt (H0 H : Hp) (q : Addr) (ls : List (List Int)) : Prop := H0 q = none ∧ ∃ rows : List Addr, H q = some (.lst (rows.map V.ref)) ∧ Paired (fun a (l : List Int) => H a = some (.lst (l.map V.int)) ∧ H0 a = none) rows ls
/-- lists of lists, in one heap -/
def Flat (H0 H : Hp) (D : Addr) (row : Addr) (ls : List (List Int)) : Prop := ∃ rows : List Addr, H row = some (.lst (rows.map V.ref)) ∧ row ≠ D ∧ Paired (fun a (l : List Int) => H a = some (.lst (l.map V.int)) ∧ a ≠ D ∧ H0 a = none) rows ls
theorem flat_all {H0 H : Hp} {D : Addr} : ∀ {rs : List Addr} {lss : List (List (List Int))}, Paired (Flat H0 H D) rs lss → ∃ parts : List (List Addr), Paired (fun r (ns : List V) => H r = some (.lst ns)) rs (parts.map fun p => p.map V.ref) ∧ Paired (fun a (l : List Int) => H a = some (.lst (l.map V.int)) ∧ H0 a = none) parts.flatten lss.flatten
  | _, _, .nil => ⟨[], .nil, .nil⟩
  | _, _, .cons ⟨rows, e, _, p⟩ t => by
    obtain ⟨parts, h1, h2⟩ := flat_all t
    refine ⟨rows :: parts, .cons e h1, ?_⟩
    rw [List.flatten_cons, List.flatten_cons]
    exact Paired.app (Paired.mapP p fun _ _ h => ⟨h.1, h.2.2⟩) h2
theorem flat_put {H0 H H' : Hp} {D row : Addr} {ls : List (List Int)} {xs : List V} (h : Flat H0 H D row ls) (s : Same H H') : Flat H0 (upd H' D (.lst xs)) D row ls := by
  obtain ⟨rows, e, n, p⟩ := h
  exact ⟨rows, by rw [upd_ne n]; exact s _ _ e, n, Paired.mapP p fun a l h => ⟨by rw [upd_ne h.2.1]; exact s _ _ h.1, h.2⟩⟩
end HSP
namespace HSP
open PySem PySem.Spec PyProof.Rows L2
/-! ## all patterns: lists that rise by at most one -/
def stepA (r : List Int) : List (List Int) := [r ++ [r.getLastD 0 + 0], r ++ [r.getLastD 0 + 1]]
def rowsA : Nat → List (List Int)
  | 0 => [[0]]
  | k + 1 => (rowsA k).flatMap stepA
def rowsN (n : Nat) : List (List Int) := if n = 0 then [[]] else rowsA (n - 1)
theorem rowsA_len : ∀ k, (rowsA k).length = 2 ^ k ∧ ∀ r, r ∈ rowsA k → r.length = k + 1 ∧ ∀ v, v ∈ r → 0 ≤ v ∧ v ≤ (k : Int)
  | 0 => ⟨rfl, fun r hr => by
    rw [List.mem_singleton.mp hr]
    exact ⟨rfl, fun v hv => by rw [List.mem_singleton.mp hv]; exact ⟨Int.le_refl _, Int.le_refl _⟩⟩⟩
  | k + 1 => by
    obtain ⟨h1, h2⟩ := rowsA_len k
    refine ⟨?_, fun r hr => ?_⟩
    · show ((rowsA k).flatMap stepA).length = 2 ^ k * 2
      rw [← h1]
      generalize rowsA k = l
      induction l with
      | nil => rfl
      | cons a r ih => rw [List.flatMap_cons, List.length_append, ih, List.length_cons]; show 2 + _ = _; omega
    · obtain ⟨s, hs, h3⟩ := List.mem_flatMap.mp hr
      obtain ⟨l, b⟩ := h2 s hs
      have lst : 0 ≤ s.getLastD 0 ∧ s.getLastD 0 ≤ (k : Int) := by
        rcases List.eq_nil_or_concat s with e | ⟨s0, z, e⟩
        · rw [e]
          exact ⟨Int.le_refl 0, Int.natCast_nonneg k⟩
        · rw [e, List.concat_eq_append, List.getLastD_concat]
          exact b z (by rw [e, List.concat_eq_append]; exact List.mem_append_right _ (List.mem_singleton.mpr rfl))
      have all : ∀ d : Int, 0 ≤ d → d ≤ 1 → (s ++ [s.getLastD 0 + d]).length = k + 1 + 1 ∧ ∀ v, v ∈ s ++ [s.getLastD 0 + d] → 0 ≤ v ∧ v ≤ ((k + 1 : Nat) : Int) := fun d d0 d1 => by
        refine ⟨by rw [List.length_append, l]; rfl, fun v hv => ?_⟩
        rcases List.mem_append.mp hv with g | g
        · have := b v g
          omega
        · rw [List.mem_singleton.mp g]
          omega
      rcases List.mem_cons.mp h3 with e | e
      · rw [e]
        exact all 0 (by decide) (by decide)
      · rw [List.mem_singleton.mp e]
        exact all 1 (by decide) (by decide)
section
variable {P : Program} {w : World} {K : PySem.W.Frag} {mg : Str → Option Value} {base : Heap}
theorem yes_lcA {σ : L2.St} {H : Hp} {A C : Hp → Prop} (h : A H) : tYes σ H fun b H3 => if b = true then A H3 else C H3 := by
  show if true = true then A H else C H
  exact iteT h
/-- patterns stand at q, one for each row -/
def PatsAt (H : Hp) (q : Addr) (t : Tr) (rows : List (List Int)) : Prop := ∃ as : List Addr, H q = some (.lst (as.map V.ref)) ∧ Paired (fun a (r : List Int) => H a = some (.lst (labsV (valAt r) t t.size))) as rows
def spAllP : Sp := fun vs H Q _ => ∃ (v : V) (t : Tr), vs = [v] ∧ TrAt H v t ∧ t.size ≤ 12 ∧ ∀ (H' : Hp) (q : Addr), Same H H' → H q = none → PatsAt H' q t (rowsN t.size) → Q (.ref q) H'
end
end HSP
namespace HSP
open PySem PySem.Spec PyProof.Rows L2
theorem ancW_next {t : Tr} {ws : List Nat} {i c : Nat} (hc : ws[i]? = some c) : ancW t (ws.take (i + 1)) = ancW t (ws.take i) ++ (pOf t 0 c).map (·.1) := by
  rw [List.take_add_one, hc]
  unfold ancW
  rw [List.flatMap_append]
  congr 1
  show [c].flatMap _ = _
  rw [List.flatMap_cons, List.flatMap_nil, List.append_nil]
def edW (w : Nat) (z : Nat × Bool) : Nat × Nat := if z.2 = true then (z.1, w) else (w, z.1)
theorem edgesW_next {t : Tr} {ws : List Nat} {i c : Nat} (hc : ws[i]? = some c) : edgesW t (ws.take (i + 1)) = edgesW t (ws.take i) ++ (pOf t 0 c).map (edW c) := by
  rw [List.take_add_one, hc]
  unfold edgesW
  rw [List.flatMap_append]
  congr 1
  show [c].flatMap _ = _
  rw [List.flatMap_cons, List.flatMap_nil, List.append_nil]
  rfl
theorem edgesW_len (t : Tr) (ws : List Nat) : (edgesW t ws).length ≤ ws.length * t.size := by
  unfold edgesW
  induction ws with
  | nil => exact Nat.zero_le _
  | cons w r ih =>
    rw [List.flatMap_cons, List.length_append, List.length_map, List.length_cons, Nat.succ_mul]
    have := pOf_len t 0 w
    omega
theorem ancW_len (t : Tr) (ws : List Nat) : (ancW t ws).length ≤ ws.length * t.size := by
  unfold ancW
  induction ws with
  | nil => exact Nat.zero_le _
  | cons w r ih =>
    rw [List.flatMap_cons, List.length_append, List.length_map, List.length_cons, Nat.succ_mul]
    have := pOf_len t 0 w
    omega
/-- the dict of the greater nodes, made behind H0 -/
def GrN (H0 H : Hp) (G : Addr) (N : List Nat) (gr : Nat → List Nat) : Prop := ∃ prs : List (Nat × Addr), H G = some (.dK (kvN prs)) ∧ prs.map (·.1) = N ∧ (prs.map (·.2)).Nodup ∧ (∀ p, p ∈ prs → H p.2 = some (.lst ((gr p.1).map natV))) ∧ H0 G = none ∧ ∀ p, p ∈ prs → H0 p.2 = none ∧ p.2 ≠ G
theorem GrN.at {H0 H : Hp} {G : Addr} {N : List Nat} {gr : Nat → List Nat} (h : GrN H0 H G N gr) : GrAt H G N gr := by
  obtain ⟨prs, a, b, c, d, _⟩ := h
  exact ⟨prs, a, b, c, d⟩
theorem kvN_none : ∀ {prs : List (Nat × Addr)} {x : Nat}, x ∉ prs.map (·.1) → valV (kvN prs) (Sum.inl (x : Int)) = none
  | [], _, _ => rfl
  | (y, b) :: r, x, h => by
    have c : ¬ y = x := fun z => h (z ▸ List.mem_cons_self)
    have h2 : x ∉ r.map (·.1) := fun z => h (List.mem_cons_of_mem _ z)
    show valV ((Sum.inl (y : Int), V.ref b) :: kvN r) _ = none
    rw [valV_neg (fun z => c (by have := Sum.inl.inj z; omega))]
    exact kvN_none h2
theorem take_new {N : List Nat} {i c : Nat} (h : N.Pairwise (· ≠ ·)) (hc : N[i]? = some c) : c ∉ N.take i := fun z => by
  obtain ⟨j, hj, e⟩ := List.getElem_of_mem z
  have hi := (List.getElem?_eq_some_iff.mp hc)
  obtain ⟨hi, ei⟩ := hi
  rw [List.length_take] at hj
  rw [List.getElem_take] at e
  exact (List.pairwise_iff_getElem.mp h) j i (by omega) hi (by omega) (e.trans ei.symm)
theorem map_inj {α β : Type} {f : α → β} {l : List α} (h : (l.map f).Nodup) {p q : α} (hp : p ∈ l) (hq : q ∈ l) (e : f p = f q) : p = q := by
  obtain ⟨i, hi, ei⟩ := List.getElem_of_mem hp
  obtain ⟨j, hj, ej⟩ := List.getElem_of_mem hq
  have := (List.pairwise_iff_getElem.mp h)
  by_cases c : i = j
  · subst c
    exact ei.symm.trans ej
  · exfalso
    have lm : (l.map f).length = l.length := List.length_map _
    rcases Nat.lt_or_gt_of_ne c with d | d
    · refine this i j (by omega) (by omega) d ?_
      rw [List.getElem_map, List.getElem_map, ei, ej]
      exact e
    · refine this j i (by omega) (by omega) d ?_
      rw [List.getElem_map, List.getElem_map, ei, ej]
      exact e.symm
/-- one more is put in -/
theorem GrN.app {H0 H : Hp} {G : Addr} {N : List Nat} {gr : Nat → List Nat} (nd : N.Nodup) (h : GrN H0 H G N gr) (s : Same H0 H) {x : Nat} (hx : x ∈ N) : ∃ (a : Addr) (kvs : List (Key × V)), H G = some (.dK kvs) ∧ valV kvs (Sum.inl (x : Int)) = some (.ref a) ∧ H a = some (.lst ((gr x).map natV)) ∧
    ∀ y : Nat, Same H0 (upd H a (.lst ((gr x).map natV ++ [natV y]))) ∧ ∀ gr' : Nat → List Nat, (∀ z, gr' z = if z = x then gr z ++ [y] else gr z) → GrN H0 (upd H a (.lst ((gr x).map natV ++ [natV y]))) G N gr' := by
  obtain ⟨prs, e1, e2, e3, e4, e5, e6⟩ := h
  obtain ⟨a, ha, hv⟩ := kvN_get (prs := prs) (x := x) (by rw [e2]; exact hx)
  refine ⟨a, kvN prs, e1, hv, e4 _ ha, fun y => ⟨fun b o eb => ?_, fun gr' hgr => ⟨prs, ?_, e2, e3, fun p hp => ?_, e5, e6⟩⟩⟩
  · rw [upd_ne (ne_of_none eb (e6 _ ha).1)]
    exact s _ _ eb
  · rw [upd_ne (e6 _ ha).2.symm]
    exact e1
  · by_cases c : p.2 = a
    · obtain rfl : p = (x, a) := map_inj (f := Prod.snd) e3 hp ha c
      rw [show ((x, a) : Nat × Addr).2 = a from rfl, upd_same, hgr, if_pos rfl, List.map_append]
      rfl
    · rw [upd_ne c, e4 p hp, hgr, if_neg]
      intro z
      exact c (congrArg Prod.snd (map_inj (f := Prod.fst) (by show (prs.map (·.1)).Nodup; rw [e2]; exact nd) hp ha z))
theorem nodes_of {t : Tr} {ws : List Nat} {ns : List Int} (h : ns.Pairwise (· < ·)) (mem : ∀ k : Int, k ∈ ns ↔ decide (k ∈ (ws ++ ancW t ws).map Int.ofNat) = true) : ∃ N : List Nat, ns = N.map Int.ofNat ∧ NodesW t ws N := by
  have nn : ∀ k, k ∈ ns → Int.ofNat k.toNat = k := fun k hk => by
    obtain ⟨x, _, e⟩ := List.mem_map.mp (of_decide_eq_true ((mem k).mp hk))
    rw [← e]
    rfl
  have e : ns = (ns.map Int.toNat).map Int.ofNat := by
    rw [List.map_map]
    conv => lhs; rw [← List.map_id ns]
    exact List.map_congr_left fun k hk => (nn k hk).symm
  refine ⟨ns.map Int.toNat, e, ?_, fun x => ?_⟩
  · rw [e, List.pairwise_map] at h
    exact h.imp fun {a b} z => Int.ofNat_lt.mp z
  · constructor
    · intro hx
      obtain ⟨k, hk, rfl⟩ := List.mem_map.mp hx
      obtain ⟨y, hy, e2⟩ := List.mem_map.mp (of_decide_eq_true ((mem k).mp hk))
      rw [← e2]
      exact hy
    · intro hx
      exact List.mem_map.mpr ⟨Int.ofNat x, (mem _).mpr (decide_eq_true (List.mem_map.mpr ⟨x, hx, rfl⟩)), rfl⟩
section
variable {P : Program} {w : World} {K : PySem.W.Frag} {mg : Str → Option Value} {base : Heap}
/-! ### greater_nodes -/
theorem sc_greater_nodes : FnScope n_greater_nodes ["tree", "wished"] (defScope s_greater_nodes) := ⟨rfl, rfl, rfl, by decide +kernel, rfl, by decide +kernel, by decide +kernel⟩
def spGreater : Sp := fun vs H Q _ => ∃ (v : V) (t : Tr) (W : Addr) (ws : List Nat), vs = [v, .ref W] ∧ TrAt H v t ∧ t.size ≤ 30 ∧ H W = some (.lst (ws.map natV)) ∧ ws.length ≤ t.size ∧ (∀ x, x ∈ ws → x < t.size) ∧
  ∀ (H' : Hp) (G : Addr) (N : List Nat), Same H H' → H G = none → NodesW t ws N → GrAt H' G N (grE (edgesW t ws)) → Q (.ref G) H'
theorem ok_greater (B : Bl mg) (Pa : Df P w K mg base "paths_of" 3 ["tree"] spPaths) (a : At K mg "greater_nodes" s_greater_nodes) : Df P w K mg base "greater_nodes" 4 ["tree", "wished"] spGreater := by
  refine Df.mk' a sc_greater_nodes (fun vs H Q E h => ?_) (fun _ _ _ _ _ _ us hl => match us, hl with | [_, _], _ => rfl) (fun f cdv A outer s H vs Q E hr h => ?_)
  · obtain ⟨_, _, _, _, rfl, _⟩ := h
    rfl
  obtain ⟨v, t, W, ws, rfl, ht, hz, eW, lw, lt, q⟩ := h
  have zero : 0 ≤ sizeLine := Nat.zero_le _
  refine ⟨_, (pss_cons (ps_set (i := 2) sc_greater_nodes.nd rfl (.inr rfl) (pe_df Pa hr (pa_cons (pv 0) pa_nil)))
 (pss_cons (ps_set (i := 5) sc_greater_nodes.nd rfl (.inl rfl) (pe_op op_cat (pv 1) (pe_lc2 (own := [("node", 3), ("ancestor", 4), ("_", 8)]) (vs1 := [4, 8]) (g := (gName 3)) (g1 := (gTup K 2 (gCons (gName 4) (gCons (gName 8) gNil)))) (tt := tYes) (tt1 := tYes) (by rfl) sc_greater_nodes.nd (pi_list (pv 1)) (blkOk_by (N := n_greater_nodes) (sc := defScope s_greater_nodes) (by decide +kernel)) (by decide) (fun _ _ _ _ _ => (pg_name (i := 3) sc_greater_nodes.nd rfl (.inl rfl))) (fun _ _ _ _ _ => pts_nil) (fun _ _ _ _ _ => by exact (show PI _ _ _ (iList K _) from pi_list (pe_ix (show IxR _ (rIxL K) from ix_list) (pv 2) (pv 3) (fun _ _ => rfl)))) (fun _ _ _ _ _ => (pg_tup rfl (pgs_cons (pg_name (i := 4) sc_greater_nodes.nd rfl (.inl rfl)) (pgs_cons (pg_name (i := 8) sc_greater_nodes.nd rfl (.inl rfl)) pgs_nil)))) (fun _ _ _ _ _ => pts_nil) (fun _ _ _ _ _ => (pv 4)))))
 (pss_cons (ps_setDc (i := 6) (own := [("node", 3)]) (g := (gName 3)) (tt := tYes) rfl rfl (sw_dict rfl rfl rfl (by decide +kernel)) rfl sc_greater_nodes.nd (pi_list (pe_callB (show CallR _ _ (rSortedSetB w) from cr_sortedSetB rfl) (by rfl) B.sorted (by decide +kernel) (pa_cons (pe_callTy (show CallR _ _ (rSetInts w) from cr_setInts rfl) (by rfl) B.set (by decide +kernel) (pa_cons (pv 5) pa_nil)) pa_nil))) (blkOk_by (N := n_greater_nodes) (sc := defScope s_greater_nodes) (by decide +kernel)) (fun _ _ _ _ _ => (pg_name (i := 3) sc_greater_nodes.nd rfl (.inl rfl))) (fun _ _ _ _ _ => pts_nil) (fun _ _ _ _ _ => (pv 3)) (fun _ _ _ _ _ => (pe_lst pa_nil)))
 (pss_cons (ps_for PassesOwn.never rfl (pi_list (pv 1)) (pg_name (i := 3) sc_greater_nodes.nd rfl (.inl rfl)) (pss_one (ps_for PassesOwn.never rfl (show PI _ _ _ (iList K _) from pi_list (pe_ix (show IxR _ (rIxL K) from ix_list) (pv 2) (pv 3) (fun _ _ => rfl))) (pg_tup rfl (pgs_cons (pg_name (i := 4) sc_greater_nodes.nd rfl (.inl rfl)) (pgs_cons (pg_name (i := 7) sc_greater_nodes.nd rfl (.inl rfl)) pgs_nil))) (pss_one (ps_if (pt_cmpR op_eq (pv 7) pe_str (nomark _)) (pss_one (ps_expr (pe_bm PySem.F.plainAttrs_list PySem.F.slot_list_append PySem.F.type_list_append mt_append (pe_dget (hu_of hr) (pv 6) (pv 3) (fun _ _ => rfl)) (pa_cons (pv 4) pa_nil)))) (pss_one (ps_expr (pe_bm PySem.F.plainAttrs_list PySem.F.slot_list_append PySem.F.type_list_append mt_append (pe_dget (hu_of hr) (pv 6) (pv 4) (fun _ _ => rfl)) (pa_cons (pv 3) pa_nil)))))))))
 (pss_one (ps_ret (pv 6))))))), ?_⟩
  refine ⟨v, rfl, v, t, rfl, ht, by omega, fun H1 Y s1 nY hY => ?_⟩
  obtain ⟨rws, eY, lY, pY⟩ := hY
  have e1 := s1 _ _ eW
  refine ⟨_, rfl, _, rfl, W, rfl, ⟨_, .of e1⟩, fun D hD => ?_⟩
  refine lc2_it (walk_list (K := K) (a := W) (xs := ws.map natV)) (fun i H' => Same H1 H' ∧ H' D = some (.lst ((ancW t (ws.take i)).map natV))) ⟨Same.new hD, upd_same⟩ (fun i H' _ h' => .of (h'.1 _ _ e1)) (fun i x H3 H4 hi h3 hy => ?_) (fun H3 h3 => ?_)
  · obtain ⟨s3, e3⟩ := h3
    obtain ⟨rfl, hx⟩ := hy
    rw [List.getElem?_map] at hx
    obtain ⟨c, hc, rfl⟩ := Option.map_eq_some_iff.mp hx
    have hi : i < ws.length := (List.getElem?_eq_some_iff.mp hc).1
    have cs : c < t.size := lt c (List.mem_of_getElem? hc)
    have hr1 : rws[c]? = some rws[c] := List.getElem?_eq_getElem (by omega)
    obtain ⟨tups, er, pr⟩ := pY c _ hr1
    have et : ancW t (ws.take (i + 1)) = ancW t (ws.take i) ++ (pOf t 0 c).map (·.1) := ancW_next hc
    have la := ancW_len t (ws.take i)
    have lp := pOf_len t 0 c
    have lt2 : (ws.take i).length ≤ 30 := by rw [List.length_take]; omega
    have few : (ws.take i).length * t.size ≤ 30 * 30 := Nat.mul_le_mul lt2 hz
    have lpr := Paired.length pr
    refine ⟨rfl, ?_⟩
    refine yes_lcA ?_
    refine ⟨_, rfl, _, rfl, Y, _, _, _, rfl, rfl, .of (s3 _ _ eY), atI_nat (by rw [List.getElem?_map, hr1]; rfl), ?_⟩
    refine ⟨_, rfl, ⟨_, .of (s3 _ _ er)⟩, ?_⟩
    refine in_it (walk_list (K := K) (a := rws[c]) (xs := tups.map V.ref)) (fun j H' => Same H1 H' ∧ H' D = some (.lst ((ancW t (ws.take i) ++ ((pOf t 0 c).take j).map (·.1)).map natV))) ⟨s3, by rw [List.take_zero, List.map_nil, List.append_nil]; exact e3⟩ (fun j H' _ h' => .of (h'.1 _ _ er)) (fun j x H6 H7 hj h6 hy => ?_) (fun H6 h6 => ?_)
    · obtain ⟨s6, e6⟩ := h6
      obtain ⟨rfl, hx2⟩ := hy
      rw [List.getElem?_map] at hx2
      obtain ⟨T, hT, rfl⟩ := Option.map_eq_some_iff.mp hx2
      obtain ⟨z, hz2, eT⟩ := Paired.getL pr hT
      refine ⟨T, _, rfl, .of (s6 _ _ eT), rfl, _, _, rfl, _, [], rfl, rfl, ?_⟩
      refine ⟨rfl, yes_lcA ?_⟩
      refine ⟨_, rfl, _, e6, ?_, fun b o eb => ?_, ?_⟩
      · rw [List.length_map, List.length_append, List.length_map, List.length_take]
        exact small1000 (by omega)
      · rw [upd_ne (ne_of_none eb hD)]
        exact s6 _ _ eb
      · simp only [upd_same, List.take_add_one, hz2, Option.toList, List.map_append, List.append_assoc, List.map_cons, List.map_nil]
    · obtain ⟨s6, e6⟩ := h6
      rw [List.length_map, lpr, List.take_length, ← et] at e6
      exact ⟨s6, e6⟩
  · obtain ⟨s3, e3⟩ := h3
    rw [List.length_map, List.take_length] at e3
    have la := ancW_len t ws
    have few : ws.length * t.size ≤ 30 * 30 := Nat.mul_le_mul (by omega) hz
    refine ⟨W, D, _, _, rfl, rfl, s3 _ _ e1, e3, ?_, fun C hC => ?_⟩
    · rw [List.length_map, List.length_map]
      exact Nat.le_of_lt (small1000 (n := ws.length + (ancW t ws).length) (by omega))
    have sC := Same.new (o := .lst (ws.map natV ++ (ancW t ws).map natV)) hC
    have eC : (upd H3 C (.lst (ws.map natV ++ (ancW t ws).map natV))) C = some (.lst (((ws ++ ancW t ws).map Int.ofNat).map V.int)) := by
      rw [upd_same, List.map_map, List.map_append]
      rfl
    have s13 := s3.trans sC
    generalize upd H3 C (.lst (ws.map natV ++ (ancW t ws).map natV)) = H4 at eC s13 ⊢
    have fC : H C = none := s1.free (s3.free hC)
    refine ⟨_, rfl, C, _, rfl, eC, ?_, fun p cn hp hcn => ?_⟩
    · rw [List.length_map, List.length_append]
      omega
    rw [List.length_map, List.length_append] at hcn
    refine ⟨p, _, _, rfl, upd_same, by omega, fun ns S hns mem hlen hS => ?_⟩
    have sp := Same.new (o := SetO w p (fun j => decide (j ∈ (ws ++ ancW t ws).map Int.ofNat)) cn) hp
    have sS := Same.new (o := .lst (ns.map V.int)) hS
    obtain ⟨N, rfl, hN⟩ : ∃ N : List Nat, ns = N.map Int.ofNat ∧ NodesW t ws N := nodes_of hns mem
    have eS : (upd (upd H4 p (SetO w p (fun j => decide (j ∈ (ws ++ ancW t ws).map Int.ofNat)) cn)) S (.lst ((N.map Int.ofNat).map V.int))) S = some (.lst (N.map natV)) := by
      rw [upd_same, List.map_map]
      rfl
    have s15 := s13.trans (sp.trans sS)
    rw [List.length_map] at hlen
    generalize upd (upd H4 p (SetO w p (fun j => decide (j ∈ (ws ++ ancW t ws).map Int.ofNat)) cn)) S (.lst ((N.map Int.ofNat).map V.int)) = H5 at eS s15 ⊢
    refine ⟨S, rfl, ⟨_, .of eS⟩, fun G hG => ?_⟩
    have fG : H1 G = none := s15.free hG
    have fG0 : H G = none := s1.free fG
    refine dc_list (K := K) (g := gName 3) (tt := tYes) (tk := tVar 3) (tv := tLst tNil) (vs := [3]) (σ := (List.set (L2.start n_greater_nodes [v, V.ref W]) 2 (some (V.ref Y))).set 5 (some (V.ref C))) (src := S) (items := N.map natV) (fun i G0 => Same H5 G0 ∧ GrN H1 G0 G (N.take i) fun _ => []) ⟨Same.new hG, [], upd_same, rfl, List.nodup_nil, fun _ h => (nomatch h), fG, fun _ h => nomatch h⟩ (fun i G0 _ h => .of (h.1 _ _ eS)) (fun i x G0 hx h => ?_) (fun G0 h => ?_)
    · obtain ⟨s6, g6⟩ := h
      rw [List.getElem?_map] at hx
      obtain ⟨c, hc, rfl⟩ := Option.map_eq_some_iff.mp hx
      refine ⟨rfl, ?_⟩
      refine yes_lcA ?_
      refine ⟨_, rfl, zero, fun L hL => ?_⟩
      obtain ⟨prs, e1', e2', e3', e4', e5', e6'⟩ := g6
      have sL := Same.new (o := .lst []) hL
      have nG : L ≠ G := (ne_of_none e1' hL).symm
      have new : ∀ q, q ∈ prs → q.2 ≠ L := fun q hq z => by
        have := e4' q hq
        rw [z, hL] at this
        cases this
      have lN : prs.length = (N.take i).length := by rw [← e2', List.length_map]
      have out : c ∉ N.take i := take_new (hN.1.imp fun {a b} z => Nat.ne_of_lt z) hc
      refine ⟨kvN prs, Sum.inl (c : Int), rfl, sL _ _ e1', ?_, ?_, ?_⟩
      · have : (N.take i).length ≤ N.length := by rw [List.length_take]; omega
        unfold kvN
        rw [List.length_map]
        exact small1000 (by omega)
      · intro b o eb
        rw [upd_ne (ne_of_none eb hG)]
        exact sL _ _ (s6 _ _ eb)
      · refine ⟨prs ++ [(c, L)], ?_, ?_, ?_, fun q hq => ?_, fG, fun q hq => ?_⟩
        · rw [upd_same, putK_new]
          · unfold kvN
            rw [List.map_append]
            rfl
          · exact kvN_none (by rw [e2']; exact out)
        · rw [List.map_append, e2', List.take_add_one, hc]
          rfl
        · rw [List.map_append]
          refine List.nodup_append.mpr ⟨e3', List.pairwise_singleton _ _, fun a ha b hb z => ?_⟩
          obtain ⟨q, hq, rfl⟩ := List.mem_map.mp ha
          exact new q hq (z.trans (List.mem_singleton.mp hb))
        · rcases List.mem_append.mp hq with hq | hq
          · rw [upd_ne (e6' q hq).2]
            exact sL _ _ (e4' q hq)
          · rw [List.mem_singleton.mp hq, upd_ne nG]
            exact upd_same
        · rcases List.mem_append.mp hq with hq | hq
          · exact e6' q hq
          · rw [List.mem_singleton.mp hq]
            exact ⟨s15.free (s6.free hL), nG⟩
    · obtain ⟨s6, g6⟩ := h
      rw [List.length_map, List.take_length] at g6
      have s16 := s15.trans s6
      clear s6
      refine ⟨_, rfl, W, rfl, ⟨_, .of (s16 _ _ e1)⟩, ?_⟩
      have ndN : N.Nodup := hN.1.imp fun {a b} z => Nat.ne_of_lt z
      refine for_it (walk_list (K := K) (a := W) (xs := ws.map natV)) (fun i σ H' => (∃ y3 y4 y7 y8 : Option V, σ = [some v, some (.ref W), some (.ref Y), y3, y4, some (.ref C), some (.ref G), y7, y8]) ∧ Same H1 H' ∧ GrN H1 H' G N (grE (edgesW t (ws.take i)))) ⟨⟨_, _, _, _, rfl⟩, s16, g6⟩ (fun i σ H' _ h' => .of (h'.2.1 _ _ e1)) (fun i x σ H7 H8 hi h7 hy => ?_) (fun σ H7 h7 => ?_)
      · obtain ⟨⟨y3, y4, y7, y8, rfl⟩, s7, g7⟩ := h7
        obtain ⟨rfl, hx⟩ := hy
        rw [List.getElem?_map] at hx
        obtain ⟨c, hc, rfl⟩ := Option.map_eq_some_iff.mp hx
        have cw : c ∈ ws := List.mem_of_getElem? hc
        have cs : c < t.size := lt c cw
        have hr1 : rws[c]? = some rws[c] := List.getElem?_eq_getElem (by omega)
        obtain ⟨tups, er, pr⟩ := pY c _ hr1
        have et : edgesW t (ws.take (i + 1)) = edgesW t (ws.take i) ++ (pOf t 0 c).map (edW c) := edgesW_next hc
        have le := edgesW_len t (ws.take i)
        have lp := pOf_len t 0 c
        have lt2 : (ws.take i).length ≤ 30 := by rw [List.length_take]; omega
        have few : (ws.take i).length * t.size ≤ 30 * 30 := Nat.mul_le_mul lt2 hz
        have lpr := Paired.length pr
        refine ⟨_, rfl, _, rfl, Y, _, _, _, rfl, rfl, .of (s7 _ _ eY), atI_nat (by rw [List.getElem?_map, hr1]; rfl), ?_⟩
        refine ⟨_, rfl, ⟨_, .of (s7 _ _ er)⟩, ?_⟩
        refine for_it (walk_list (K := K) (a := rws[c]) (xs := tups.map V.ref)) (fun j σ H' => (∃ y4 y7 y8 : Option V, σ = [some v, some (.ref W), some (.ref Y), some (natV c), y4, some (.ref C), some (.ref G), y7, y8]) ∧ Same H1 H' ∧ GrN H1 H' G N (grE (edgesW t (ws.take i) ++ ((pOf t 0 c).take j).map (edW c)))) ⟨⟨_, _, _, rfl⟩, s7, by rw [List.take_zero, List.map_nil, List.append_nil]; exact g7⟩ (fun j σ H' _ h' => .of (h'.2.1 _ _ er)) (fun j x σ H9 H10 hj h9 hy => ?_) (fun σ H9 h9 => ?_)
        · obtain ⟨⟨y4, y7, y8, rfl⟩, s9, g9⟩ := h9
          obtain ⟨rfl, hx2⟩ := hy
          rw [List.getElem?_map] at hx2
          obtain ⟨T, hT, rfl⟩ := Option.map_eq_some_iff.mp hx2
          obtain ⟨z, hz2, eT⟩ := Paired.getL pr hT
          have zin : z ∈ pOf t 0 c := List.mem_of_getElem? hz2
          have zN : z.1 ∈ N := (hN.2 _).mpr (List.mem_append_right _ (List.mem_flatMap.mpr ⟨c, cw, List.mem_map.mpr ⟨z, zin, rfl⟩⟩))
          have cN : c ∈ N := (hN.2 _).mpr (List.mem_append_left _ cw)
          have lj : ((pOf t 0 c).take j).length ≤ t.size := by rw [List.length_take]; omega
          have len : ∀ y, ((grE (edgesW t (ws.take i) ++ ((pOf t 0 c).take j).map (edW c)) y).map natV).length < sizeLine := fun y => by
            have := grE_len (edgesW t (ws.take i) ++ ((pOf t 0 c).take j).map (edW c)) y
            rw [List.length_append, List.length_map] at this
            rw [List.length_map]
            exact small1000 (by omega)
          have e9 : edgesW t (ws.take i) ++ ((pOf t 0 c).take (j + 1)).map (edW c) = (edgesW t (ws.take i) ++ ((pOf t 0 c).take j).map (edW c)) ++ [edW c z] := by
            rw [List.take_add_one, hz2, List.map_append, ← List.append_assoc]
            rfl
          refine ⟨T, _, rfl, .of (s9 _ _ eT), rfl, _, _, rfl, _, [], rfl, rfl, ?_⟩
          obtain ⟨z1, b⟩ := z
          cases b with
          | false =>
            obtain ⟨ad, kvs, k1, k2, k3, k4⟩ := g9.app ndN s9 cN
            obtain ⟨k5, k6⟩ := k4 z1
            refine ⟨_, rfl, rfl, true, rfl, iteT ?_⟩
            refine ⟨_, rfl, _, rfl, G, _, rfl, .inl ⟨kvs, Sum.inl (c : Int), .inl k1, rfl, k2.symm⟩, ?_⟩
            exact ⟨.inl ⟨rfl, _, .of k3⟩, _, rfl, ad, _, _, rfl, rfl, k3, len c, ⟨_, _, _, rfl⟩, k5, k6 _ fun y => by rw [e9]; exact grE_more _ _ _ _⟩
          | true =>
            obtain ⟨ad, kvs, k1, k2, k3, k4⟩ := g9.app ndN s9 zN
            obtain ⟨k5, k6⟩ := k4 c
            refine ⟨_, rfl, rfl, false, rfl, iteF ?_⟩
            refine ⟨_, rfl, _, rfl, G, _, rfl, .inl ⟨kvs, Sum.inl (z1 : Int), .inl k1, rfl, k2.symm⟩, ?_⟩
            exact ⟨.inl ⟨rfl, _, .of k3⟩, _, rfl, ad, _, _, rfl, rfl, k3, len z1, ⟨_, _, _, rfl⟩, k5, k6 _ fun y => by rw [e9]; exact grE_more _ _ _ _⟩
        · obtain ⟨⟨y4, y7, y8, rfl⟩, s9, g9⟩ := h9
          rw [List.length_map, lpr, List.take_length, ← et] at g9
          exact ⟨⟨_, _, _, _, rfl⟩, s9, g9⟩
      · obtain ⟨⟨y3, y4, y7, y8, rfl⟩, s7, g7⟩ := h7
        rw [List.length_map, List.take_length] at g7
        exact ⟨_, rfl, q _ _ N (s1.trans s7) fG0 hN g7.at⟩
end
end HSP
namespace HSP
open PySem PySem.Spec PyProof.Rows L2
/-! ## how long all paths are -/
theorem sum_nodup (g : Nat → Nat) : ∀ (n : Nat) {ws : List Nat}, ws.Nodup → (∀ x, x ∈ ws → x < n) → (ws.map g).sum ≤ ((List.range n).map g).sum
  | 0, [], _, _ => Nat.le_refl _
  | 0, a :: _, _, h => absurd (h a List.mem_cons_self) (Nat.not_lt_zero _)
  | n + 1, ws, nd, h => by
    have h1 := sum_nodup g n (nd.erase n) fun x hx => by
      obtain ⟨h2, h3⟩ := nd.mem_erase_iff.mp hx
      have := h x h3
      omega
    rw [List.range_succ, List.map_append, List.sum_append_nat]
    show _ ≤ _ + (g n + 0)
    by_cases c : n ∈ ws
    · have p := ((List.perm_cons_erase c).map g).sum_nat
      rw [p, List.map_cons, List.sum_cons]
      omega
    · rw [List.erase_of_not_mem c] at h1
      omega
def pathS (t : Tr) (f : Nat) : Nat := ((List.range t.size).map fun i => (pOf t f (f + i)).length).sum
theorem sum_succ (g : Nat → Nat) : ∀ l : List Nat, (l.map fun i => g i + 1).sum = (l.map g).sum + l.length
  | [] => rfl
  | a :: r => by
    rw [List.map_cons, List.sum_cons, sum_succ g r, List.map_cons, List.sum_cons, List.length_cons]
    omega
theorem pathS_le : ∀ (t : Tr) (f : Nat), 2 * pathS t f ≤ t.size * (t.size - 1)
  | .nil, _ => Nat.le_refl _
  | .nod l r, f => by
    have h1 := pathS_le l f
    have h2 := pathS_le r (f + l.size + 1)
    have e : pathS (.nod l r) f = pathS l f + l.size + (pathS r (f + l.size + 1) + r.size) := by
      show ((List.range (l.size + 1 + r.size)).map fun i => (pOf (.nod l r) f (f + i)).length).sum = _
      rw [List.range_add, List.range_succ, List.map_append, List.map_append, List.sum_append_nat, List.sum_append_nat, List.map_map]
      have a1 : ((List.range l.size).map fun i => (pOf (.nod l r) f (f + i)).length).sum = pathS l f + l.size := by
        have : ((List.range l.size).map fun i => (pOf (.nod l r) f (f + i)).length) = (List.range l.size).map fun i => (pOf l f (f + i)).length + 1 := List.map_congr_left fun i hi => by
          have hi := List.mem_range.mp hi
          rw [pOf_nod, if_neg (by omega), if_pos (by omega), List.length_cons]
        rw [this, sum_succ, List.length_range]
        rfl
      have a2 : ([l.size].map fun i => (pOf (.nod l r) f (f + i)).length).sum = 0 := by
        show (pOf (.nod l r) f (f + l.size)).length + 0 = 0
        rw [pOf_nod, if_pos rfl]
        rfl
      have a3 : ((List.range r.size).map ((fun i => (pOf (.nod l r) f (f + i)).length) ∘ fun j => l.size + 1 + j)).sum = pathS r (f + l.size + 1) + r.size := by
        have : ((List.range r.size).map ((fun i => (pOf (.nod l r) f (f + i)).length) ∘ fun j => l.size + 1 + j)) = (List.range r.size).map fun i => (pOf r (f + l.size + 1) (f + l.size + 1 + i)).length + 1 := List.map_congr_left fun i hi => by
          show (pOf (.nod l r) f (f + (l.size + 1 + i))).length = _
          rw [pOf_nod, if_neg (by omega), if_neg (by omega), List.length_cons, show f + (l.size + 1 + i) = f + l.size + 1 + i by omega]
        rw [this, sum_succ, List.length_range]
        rfl
      rw [a1, a2, a3]
      omega
    rw [e]
    show _ ≤ (l.size + 1 + r.size) * (l.size + 1 + r.size - 1)
    generalize l.size = a at *
    generalize r.size = b at *
    have z : ∀ x : Nat, x * (x - 1) + x = x * x := fun x => by
      cases x with
      | zero => rfl
      | succ x => rw [Nat.add_sub_cancel, Nat.mul_succ (x + 1) x]
    have za := z a
    have zb := z b
    have e2 : (a + 1 + b) * (a + 1 + b - 1) = a * a + a * b + a + (b * a + b * b + b) := by
      rw [show a + 1 + b - 1 = a + b by omega, show a + 1 + b = a + b + 1 by omega, Nat.succ_mul, Nat.add_mul, Nat.mul_add, Nat.mul_add]
      omega
    rw [e2]
    omega
theorem edgesW_sum (t : Tr) (ws : List Nat) : (edgesW t ws).length = (ws.map fun w => (pOf t 0 w).length).sum := by
  unfold edgesW
  induction ws with
  | nil => rfl
  | cons w r ih => rw [List.flatMap_cons, List.length_append, List.length_map, ih, List.map_cons, List.sum_cons]
theorem edgesW_few {t : Tr} {ws : List Nat} (hz : t.size ≤ 10) (nd : ws.Nodup) (lt : ∀ x, x ∈ ws → x < t.size) : (edgesW t ws).length ≤ 45 := by
  rw [edgesW_sum]
  have h1 := sum_nodup (fun w => (pOf t 0 w).length) t.size nd lt
  have h2 := pathS_le t 0
  have e : pathS t 0 = ((List.range t.size).map fun w => (pOf t 0 w).length).sum := by
    unfold pathS
    congr 1
    exact List.map_congr_left fun i _ => by rw [Nat.zero_add]
  have h3 : t.size * (t.size - 1) ≤ 10 * 9 := Nat.mul_le_mul hz (by omega)
  rw [e] at h2
  omega
section
variable {P : Program} {w : World} {K : PySem.W.Frag} {mg : Str → Option Value} {base : Heap}
/-! ### _law_some -/
theorem sc_law_some : FnScope n_law_some ["draws", "many"] (defScope s_law_some) := ⟨rfl, rfl, rfl, by decide +kernel, rfl, by decide +kernel, by decide +kernel⟩
def spSome : Sp := fun vs H Q _ => ∃ (p : Addr) (m k : Nat), vs = [.ref p, .int (m : Int)] ∧ m ≤ 1000 ∧ DrAt H p k ∧ k + m ≤ 100000 ∧ ∀ (H' : Hp) (q : Addr) (ws : List Nat), Keep p H H' → DrAt H' p (k + m) → H q = none → H' q = some (.lst (ws.map natV)) → ws.Pairwise (· < ·) → (∀ x, x ∈ ws → x < m) → Q (.ref q) H'
theorem ok_some (B : Bl mg) (N : Df P w K mg base "_law_next" 1 ["draws"] spNext) (a : At K mg "_law_some" s_law_some) : Df P w K mg base "_law_some" 2 ["draws", "many"] spSome := by
  refine Df.mk' a sc_law_some (fun vs H Q E h => ?_) (fun _ _ _ _ _ _ us hl => match us, hl with | [_, _], _ => rfl) (fun f cdv A outer s H vs Q E hr h => ?_)
  · obtain ⟨p, m, k, rfl, _⟩ := h
    rfl
  obtain ⟨p, m, k, rfl, hm, hd, hk, q⟩ := h
  refine ⟨_, (pss_one (ps_ret (pe_lc (own := [("node", 2)]) (g := (gName 2)) (by rfl) sc_law_some.nd (pi_range1 (by rfl) B.range (pa_cons (pv 1) pa_nil)) (blkOk_by (N := n_law_some) (sc := defScope s_law_some) (by decide +kernel)) (fun _ _ _ _ _ => (pg_name (i := 2) sc_law_some.nd rfl (.inl rfl))) (fun _ _ _ _ _ => (pts_one (pt_cmpR op_eq (pe_op op_mod (pe_callTy call_int1 (by rfl) B.int (by decide +kernel) (pa_cons (pe_df N hr (pa_cons (pv 0) pa_nil)) pa_nil)) pe_int) pe_int (nomark _)))) (fun _ _ _ _ _ => (pv 2))))), ?_⟩
  refine ⟨_, rfl, _, rfl, by omega, by omega, fun D hD => ?_⟩
  refine lc_range (lo := 0) (n := m) (fun i H' => ∃ ws : List Nat, Keep p H H' ∧ DrAt H' p (k + i) ∧ H' D = some (.lst (ws.map natV)) ∧ ws.length ≤ i ∧ ws.Pairwise (· < ·) ∧ ∀ x, x ∈ ws → x < i) ⟨[], Keep.new hD, hd.same (Same.new hD), upd_same, Nat.le_refl _, .nil, fun _ h => nomatch h⟩ (fun i H3 hi h3 => ?_) (fun H3 h3 => ?_)
  · obtain ⟨ws, kp3, d3, e3, l3, w3, b3⟩ := h3
    refine ⟨rfl, ?_⟩
    refine ⟨_, rfl, p, k + i, rfl, d3, by omega, fun H4 r2 kp4 d4 b1 b2 => .inl ⟨_, rfl, _, _, rfl, rfl, (by show (0 : Int) < 3; decide), rfl, _, rfl, ?_⟩⟩
    have e3' : H3 D = some (.lst ((ws.map Int.ofNat).map V.int)) := by
      rw [e3, List.map_map]
      rfl
    have e4 := kp4 D _ (d3.neOf e3') e3
    refine ite2 (fun c => ?_) (fun c => ⟨ws, kp3.trans kp4, d4, e4, by omega, w3, fun x hx => by have := b3 x hx; omega⟩)
    refine ⟨_, rfl, _, e4, ?_, ws ++ [i], Keep.put hD (kp3.trans kp4), d4.put (d3.neOf e3'), ?_, ?_, ?_, fun x hx => ?_⟩
    · rw [List.length_map]
      exact small1000 (by omega)
    · rw [upd_same, List.map_append]
      show _ = some (HO.lst (ws.map natV ++ [V.int (i : Int)]))
      rw [show (0 : Int) + (i : Int) = (i : Int) by omega]
    · rw [List.length_append, List.length_singleton]
      omega
    · exact List.pairwise_append.mpr ⟨w3, List.pairwise_singleton _ _, fun a ha b hb => by rw [List.mem_singleton.mp hb]; exact b3 a ha⟩
    · rcases List.mem_append.mp hx with hx | hx
      · have := b3 x hx
        omega
      · rw [List.mem_singleton.mp hx]
        omega
  · obtain ⟨ws, kp3, d3, e3, l3, w3, b3⟩ := h3
    exact q H3 D ws kp3 d3 hD e3 w3 b3
/-! ### _law_near -/
theorem sc_law_near : FnScope n_law_near ["a_tree", "a_wished"] (defScope s_law_near) := ⟨rfl, rfl, rfl, by decide +kernel, rfl, by decide +kernel, by decide +kernel⟩
/-- a pair as a tuple of ints, and back -/
def encP (z : Addr × (Nat × Nat)) : Addr × List Int := (z.1, [(z.2.1 : Int), (z.2.2 : Int)])
def decP (q : Addr × List Int) : Nat × Nat := ((q.2.getD 0 0).toNat, (q.2.getD 1 0).toNat)
theorem decP_enc (z : Addr × (Nat × Nat)) : decP (encP z) = z.2 := rfl
theorem zip_fst {p : Addr → Nat × Nat → Prop} : ∀ {ads : List Addr} {es : List (Nat × Nat)}, Paired p ads es → ads.map V.ref = (ads.zip es).map fun z => V.ref z.1
  | _, _, .nil => rfl
  | _, _, .cons _ t => by
    rw [List.zip_cons_cons, List.map_cons, List.map_cons, zip_fst t]
theorem zip_at {p : Addr → Nat × Nat → Prop} : ∀ {ads : List Addr} {es : List (Nat × Nat)}, Paired p ads es → ∀ {z}, z ∈ ads.zip es → p z.1 z.2
  | _, _, .nil, _, h => nomatch h
  | _, _, .cons a t, z, h => by
    rw [List.zip_cons_cons] at h
    rcases List.mem_cons.mp h with rfl | h
    · exact a
    · exact zip_at t h
theorem zip_snd {p : Addr → Nat × Nat → Prop} : ∀ {ads : List Addr} {es : List (Nat × Nat)}, Paired p ads es → ∀ {e}, e ∈ es → ∃ a, (a, e) ∈ ads.zip es
  | _, _, .nil, _, h => nomatch h
  | _, _, .cons (a := a) _ t, e, h => by
    rw [List.zip_cons_cons]
    rcases List.mem_cons.mp h with rfl | h
    · exact ⟨a, List.mem_cons_self⟩
    · obtain ⟨b, hb⟩ := zip_snd t h
      exact ⟨b, List.mem_cons_of_mem _ hb⟩
/-- pairs of nodes stand at L, sorted, each once -/
def PairsAt (H : Hp) (L : Addr) (es : List (Nat × Nat)) : Prop := ∃ ads : List Addr, H L = some (.lst (ads.map V.ref)) ∧ Paired (fun a (e : Nat × Nat) => H a = some (.tup [natV e.1, natV e.2])) ads es
def spNear (n : Nat) : Sp := fun vs H Q _ => ∃ (v : V) (t : Tr) (W : Addr) (ws : List Nat), vs = [v, .ref W] ∧ TrAt H v t ∧ t.ht < n ∧ t.size ≤ 10 ∧ H W = some (.lst (ws.map natV)) ∧ ws.Nodup ∧ (∀ x, x ∈ ws → x < t.size) ∧
  ∀ (H' : Hp) (L : Addr) (es : List (Nat × Nat)), Same H H' → H L = none → PairsAt H' L es → es.Nodup → es.length < 64 → (∀ e, e ∈ es ↔ e ∈ edgesW t ws) → Q (.ref L) H'
theorem ok_near {n : Nat} (B : Bl mg) (Wy : Df P w K mg base "_law_way" (n + 1) p_law_way (spWay n)) (a : At K mg "_law_near" s_law_near) : Df P w K mg base "_law_near" (n + 2) ["a_tree", "a_wished"] (spNear n) := by
  refine Df.mk' a sc_law_near (fun vs H Q E h => ?_) (fun _ _ _ _ _ _ us hl => match us, hl with | [_, _], _ => rfl) (fun f cdv A outer s H vs Q E hr h => ?_)
  · obtain ⟨_, _, _, _, rfl, _⟩ := h
    rfl
  obtain ⟨v, t, W, ws, rfl, ht, hh, hz, eW, nd, lt, q⟩ := h
  refine ⟨_, (pss_cons (ps_set (i := 2) sc_law_near.nd rfl (.inl rfl) (pe_lst pa_nil))
 (pss_cons (ps_for PassesOwn.never rfl (pi_list (pv 1)) (pg_name (i := 3) sc_law_near.nd rfl (.inl rfl)) (pss_one (ps_for PassesOwn.never rfl (pi_list (pe_df Wy hr (pa_cons (pv 0) (pa_cons (pv 3) pa_nil)))) (pg_tup rfl (pgs_cons (pg_name (i := 4) sc_law_near.nd rfl (.inl rfl)) (pgs_cons (pg_name (i := 5) sc_law_near.nd rfl (.inl rfl)) pgs_nil))) (pss_one (ps_expr (pe_bm PySem.F.plainAttrs_list PySem.F.slot_list_append PySem.F.type_list_append mt_append (pv 2) (pa_cons (pe_ifExp (pt_cmpR op_eq (pv 5) pe_str (nomark _)) (pe_tup (pa_cons (pv 3) (pa_cons (pv 4) pa_nil))) (pe_tup (pa_cons (pv 4) (pa_cons (pv 3) pa_nil)))) pa_nil)))))))
 (pss_one (ps_ret (pe_callB (show CallR _ _ (rSortedT K P w) from cr_sortedT rfl) (by rfl) B.sorted (by decide +kernel) (pa_cons (pe_callTy (show CallR _ _ (rSetOfT K P w) from cr_setOfT rfl hr.units) (by rfl) B.set (by decide +kernel) (pa_cons (pv 2) pa_nil)) pa_nil)))))), ?_⟩
  have two : 2 ≤ sizeLine := by show 2 ≤ 16777216; decide
  refine ⟨Nat.zero_le _, fun L0 hL0 => ?_⟩
  have sL := Same.new (o := .lst []) hL0
  have put : ∀ {H' : Hp} {u : HO}, Same H H' → Same H (upd H' L0 u) := fun {H' u} s b o eb => by
    rw [upd_ne (ne_of_none eb hL0)]
    exact s _ _ eb
  refine ⟨_, rfl, W, rfl, ⟨_, .of (sL _ _ eW)⟩, ?_⟩
  refine for_it (walk_list (K := K) (a := W) (xs := ws.map natV)) (fun i σ H' => (∃ y3 y4 y5 : Option V, σ = [some v, some (.ref W), some (.ref L0), y3, y4, y5]) ∧ Same H H' ∧ PairsAt H' L0 (edgesW t (ws.take i))) ⟨⟨_, _, _, rfl⟩, sL, [], upd_same, .nil⟩ (fun i σ H' _ h' => .of (h'.2.1 _ _ eW)) (fun i x σ H3 H4 hi h3 hy => ?_) (fun σ H3 h3 => ?_)
  · obtain ⟨⟨y3, y4, y5, rfl⟩, s3, ads3, e3, p3⟩ := h3
    obtain ⟨rfl, hx⟩ := hy
    rw [List.getElem?_map] at hx
    obtain ⟨c, hc, rfl⟩ := Option.map_eq_some_iff.mp hx
    have cs : c < t.size := lt c (List.mem_of_getElem? hc)
    have et : edgesW t (ws.take (i + 1)) = edgesW t (ws.take i) ++ (pOf t 0 c).map (edW c) := edgesW_next hc
    have few := edgesW_few hz (nd.sublist (List.take_sublist (i + 1) ws)) fun x hx => lt x (List.mem_of_mem_take hx)
    rw [et, List.length_append, List.length_map] at few
    refine ⟨_, rfl, _, rfl, v, t, c, rfl, ht.same s3, hh, cs, by omega, fun H5 R s5 nR pa => ?_⟩
    obtain ⟨tups, er, pr⟩ := pa
    have lpr := Paired.length pr
    have e5 := s5 _ _ e3
    refine ⟨R, rfl, ⟨_, .of er⟩, ?_⟩
    refine for_it (walk_list (K := K) (a := R) (xs := tups.map V.ref)) (fun j σ H' => (∃ y4 y5 : Option V, σ = [some v, some (.ref W), some (.ref L0), some (natV c), y4, y5]) ∧ Keep L0 H5 H' ∧ Same H H' ∧ PairsAt H' L0 (edgesW t (ws.take i) ++ ((pOf t 0 c).take j).map (edW c))) ⟨⟨_, _, rfl⟩, .refl _ _, s3.trans s5, ads3, e5, by rw [List.take_zero, List.map_nil, List.append_nil]; exact Paired.mapP p3 fun _ _ h => s5 _ _ h⟩ (fun j σ H' _ h' => .of (h'.2.1 _ _ (ne_of_none e3 nR).symm er)) (fun j x σ H6 H7 hj h6 hy => ?_) (fun σ H6 h6 => ?_)
    · obtain ⟨⟨y4, y5, rfl⟩, k6, s6, ads6, e6, p6⟩ := h6
      obtain ⟨rfl, hx2⟩ := hy
      rw [List.getElem?_map] at hx2
      obtain ⟨T, hT, rfl⟩ := Option.map_eq_some_iff.mp hx2
      obtain ⟨z, hz2, eT⟩ := Paired.getL pr hT
      have nT : T ≠ L0 := fun y => by rw [y, e5] at eT; cases eT
      have lj : ((pOf t 0 c).take j).length ≤ (pOf t 0 c).length := by rw [List.length_take]; omega
      have l6 := Paired.length p6
      rw [List.length_append, List.length_map] at l6
      have small : (ads6.map V.ref).length < sizeLine := by
        rw [List.length_map]
        exact small1000 (by omega)
      have e9 : edgesW t (ws.take i) ++ ((pOf t 0 c).take (j + 1)).map (edW c) = (edgesW t (ws.take i) ++ ((pOf t 0 c).take j).map (edW c)) ++ [edW c z] := by
        rw [List.take_add_one, hz2, List.map_append, ← List.append_assoc]
        rfl
      refine ⟨T, _, rfl, .of (k6 _ _ nT eT), rfl, _, _, rfl, _, [], rfl, rfl, ?_⟩
      refine ⟨_, rfl, .inl ⟨rfl, _, .of e6⟩, ?_⟩
      have fin : ∀ (U : Addr) (hU : H7 U = none) (e : Nat × Nat), e = edW c z → Keep L0 H5 (upd (upd H7 U (.tup [natV e.1, natV e.2])) L0 (.lst (ads6.map V.ref ++ [V.ref U]))) ∧ Same H (upd (upd H7 U (.tup [natV e.1, natV e.2])) L0 (.lst (ads6.map V.ref ++ [V.ref U]))) ∧ PairsAt (upd (upd H7 U (.tup [natV e.1, natV e.2])) L0 (.lst (ads6.map V.ref ++ [V.ref U]))) L0 (edgesW t (ws.take i) ++ ((pOf t 0 c).take (j + 1)).map (edW c)) := fun U hU e he => by
        have nU : U ≠ L0 := (ne_of_none e6 hU).symm
        have sU := Same.new (o := .tup [natV e.1, natV e.2]) hU
        refine ⟨fun b o nb eb => ?_, put (s6.trans sU), ads6 ++ [U], ?_, ?_⟩
        · rw [upd_ne nb]
          exact sU _ _ (k6 b o nb eb)
        · rw [upd_same, List.map_append]
          rfl
        · rw [e9, ← he]
          refine Paired.app (Paired.mapP p6 fun a f h => ?_) (.cons ?_ .nil)
          · rw [upd_ne fun y => by rw [y, e6] at h; cases h]
            exact sU _ _ h
          · rw [upd_ne nU]
            exact upd_same
      obtain ⟨z1, b⟩ := z
      cases b with
      | false =>
        refine ⟨_, rfl, rfl, true, rfl, iteT ?_⟩
        refine ⟨_, rfl, _, rfl, two, fun U hU => ⟨L0, _, _, rfl, rfl, Same.new hU _ _ e6, small, ⟨_, _, rfl⟩, fin U hU (c, z1) rfl⟩⟩
      | true =>
        refine ⟨_, rfl, rfl, false, rfl, iteF ?_⟩
        refine ⟨_, rfl, _, rfl, two, fun U hU => ⟨L0, _, _, rfl, rfl, Same.new hU _ _ e6, small, ⟨_, _, rfl⟩, fin U hU (z1, c) rfl⟩⟩
    · obtain ⟨⟨y4, y5, rfl⟩, k6, s6, pp⟩ := h6
      rw [List.length_map, lpr, List.take_length, ← et] at pp
      exact ⟨⟨_, _, _, rfl⟩, s6, pp⟩
  · obtain ⟨⟨y3, y4, y5, rfl⟩, s3, ads, e3, p3⟩ := h3
    rw [List.length_map, List.take_length] at p3
    have few := edgesW_few hz nd lt
    have lads := Paired.length p3
    refine ⟨_, rfl, L0, (ads.zip (edgesW t ws)).map encP, rfl, ?_, fun p hp => ?_, ?_, fun S L hS inL allL => ?_⟩
    · rw [List.map_map, show ((fun p : Addr × List Int => V.ref p.1) ∘ encP) = (fun z : Addr × (Nat × Nat) => V.ref z.1) from rfl, ← zip_fst p3]
      exact .of e3
    · obtain ⟨z, hz3, rfl⟩ := List.mem_map.mp hp
      exact .of (zip_at p3 hz3)
    · rw [List.length_map, List.length_zip]
      omega
    have lk : ∀ p, p ∈ L → ∃ z, z ∈ ads.zip (edgesW t ws) ∧ p = encP z := fun p hp => by
      obtain ⟨z, hz3, e⟩ := List.mem_map.mp (inL p hp)
      exact ⟨z, hz3, e.symm⟩
    have sS := Same.new (o := SetTO P w S L) hS
    refine ⟨S, L, 2, 1000, rfl, upd_same, fun p hp => ?_, by decide, fun p hp => ?_, fun L' S2 perm ndL fewL _ hS2 => ?_⟩
    · obtain ⟨z, hz3, rfl⟩ := lk p hp
      exact .of (sS _ _ (zip_at p3 hz3))
    · obtain ⟨z, hz3, rfl⟩ := lk p hp
      have ze := edge_in (show EdW t ws z.2.1 z.2.2 from (List.of_mem_zip hz3).2)
      have b1 : z.2.1 < t.size := by
        rcases List.mem_append.mp ze.1 with y | y
        · exact lt _ y
        · exact anc_in y
      have b2 : z.2.2 < t.size := by
        rcases List.mem_append.mp ze.2 with y | y
        · exact lt _ y
        · exact anc_in y
      refine ⟨rfl, fun x hx => ?_⟩
      rcases List.mem_cons.mp hx with rfl | hx
      · omega
      · rw [List.mem_singleton.mp hx]
        omega
    · have lk' : ∀ p, p ∈ L' → ∃ z, z ∈ ads.zip (edgesW t ws) ∧ p = encP z := fun p hp => lk p (perm.mem_iff.mp hp)
      have sS2 := Same.new (o := .lst (L'.map fun q => V.ref q.1)) hS2
      refine q _ S2 (L'.map decP) (s3.trans (sS.trans sS2)) (s3.free (sS.free hS2)) ⟨L'.map (·.1), by rw [upd_same, List.map_map]; rfl, ?_⟩ ?_ (by rw [List.length_map]; exact fewL) fun e => ?_
      · have all : ∀ l : List (Addr × List Int), (∀ p, p ∈ l → p ∈ L') → Paired (fun a (e : Nat × Nat) => (upd (upd H3 S (SetTO P w S L)) S2 (.lst (L'.map fun q => V.ref q.1))) a = some (.tup [natV e.1, natV e.2])) (l.map (·.1)) (l.map decP) := fun l => by
          induction l with
          | nil => exact fun _ => .nil
          | cons p r ih =>
            intro h
            refine .cons ?_ (ih fun p' hp' => h p' (List.mem_cons_of_mem _ hp'))
            obtain ⟨z, hz3, rfl⟩ := lk' p (h p List.mem_cons_self)
            exact sS2 _ _ (sS _ _ (zip_at p3 hz3))
        exact all L' fun _ h => h
      · have h1 := List.pairwise_map.mp ndL
        refine List.pairwise_map.mpr (h1.imp_of_mem fun {p r} hp hr ne z => ne ?_)
        obtain ⟨z1, _, rfl⟩ := lk' p hp
        obtain ⟨z2, _, rfl⟩ := lk' r hr
        have z : z1.2 = z2.2 := z
        show [(z1.2.1 : Int), (z1.2.2 : Int)] = [(z2.2.1 : Int), (z2.2.2 : Int)]
        rw [z]
      · constructor
        · intro he
          obtain ⟨p, hp, rfl⟩ := List.mem_map.mp he
          obtain ⟨z, hz3, rfl⟩ := lk' p hp
          exact (List.of_mem_zip hz3).2
        · intro he
          obtain ⟨b, hb⟩ := zip_snd p3 he
          obtain ⟨p, hp, e2⟩ := List.mem_map.mp (allL (encP (b, e)) (List.mem_map.mpr ⟨_, hb, rfl⟩))
          refine List.mem_map.mpr ⟨p, perm.mem_iff.mpr hp, ?_⟩
          obtain ⟨z, _, rfl⟩ := lk p hp
          have e2 : [(z.2.1 : Int), (z.2.2 : Int)] = [(e.1 : Int), (e.2 : Int)] := e2
          injection e2 with h1 h2
          injection h2 with h2 _
          show z.2 = e
          exact Prod.ext (by omega) (by omega)
end
end HSP
namespace HSP
open PySem PySem.Spec PyProof.Rows L2
theorem few_belowW : ∀ (n : Nat) {l : List Nat}, l.Nodup → (∀ x, x ∈ l → x < n) → l.length ≤ n
  | 0, [], _, _ => Nat.le_refl _
  | 0, a :: _, _, h => absurd (h a List.mem_cons_self) (Nat.not_lt_zero _)
  | n + 1, l, nd, h => by
    have h1 := few_belowW n (nd.erase n) fun x hx => by
      obtain ⟨h2, h3⟩ := nd.mem_erase_iff.mp hx
      have := h x h3
      omega
    rw [List.length_erase] at h1
    split at h1 <;> omega
theorem paired_map {α β γ : Type} {f : β → γ} {p : α → γ → Prop} : ∀ {as : List α} {bs : List β}, Paired (fun a b => p a (f b)) as bs → Paired p as (bs.map f)
  | _, _, .nil => .nil
  | _, _, .cons a t => .cons a (paired_map t)
section
variable {P : Program} {w : World} {K : PySem.W.Frag} {mg : Str → Option Value} {base : Heap}
/-! ### _law_nodes_of -/
theorem sc_law_nodes_of : FnScope n_law_nodes_of ["a_tree", "a_wished"] (defScope s_law_nodes_of) := ⟨rfl, rfl, rfl, by decide +kernel, rfl, by decide +kernel, by decide +kernel⟩
def spNodes (n : Nat) : Sp := fun vs H Q _ => ∃ (v : V) (t : Tr) (W : Addr) (ws : List Nat), vs = [v, .ref W] ∧ TrAt H v t ∧ t.ht < n ∧ t.size ≤ 20 ∧ H W = some (.lst (ws.map natV)) ∧ ws.Nodup ∧ (∀ x, x ∈ ws → x < t.size) ∧
  ∀ (H' : Hp) (L : Addr) (N : List Nat), Same H H' → H L = none → H' L = some (.lst (N.map natV)) → NodesW t ws N → Q (.ref L) H'
theorem ok_nodes {n : Nat} (B : Bl mg) (Wy : Df P w K mg base "_law_way" (n + 1) p_law_way (spWay n)) (a : At K mg "_law_nodes_of" s_law_nodes_of) : Df P w K mg base "_law_nodes_of" (n + 2) ["a_tree", "a_wished"] (spNodes n) := by
  refine Df.mk' a sc_law_nodes_of (fun vs H Q E h => ?_) (fun _ _ _ _ _ _ us hl => match us, hl with | [_, _], _ => rfl) (fun f cdv A outer s H vs Q E hr h => ?_)
  · obtain ⟨_, _, _, _, rfl, _⟩ := h
    rfl
  obtain ⟨v, t, W, ws, rfl, ht, hh, hz, eW, nd, lt, q⟩ := h
  refine ⟨_, (pss_cons (ps_setLc (i := 2) (own := [("node", 3)]) (g := (gName 3)) (tt := tYes) (by rfl) sc_law_nodes_of.nd rfl rfl (sw_true rfl rfl rfl (by decide +kernel)) (pi_list (pv 1)) (blkOk_by (N := n_law_nodes_of) (sc := defScope s_law_nodes_of) (by decide +kernel)) (fun _ _ _ _ _ => (pg_name (i := 3) sc_law_nodes_of.nd rfl (.inl rfl))) (fun _ _ _ _ _ => pts_nil) (fun _ _ _ _ _ => (by exact (pe_lc (own := [("ancestor", 4), ("side", 5)]) (g := (gTup K 2 (gCons (gName 4) (gCons (gName 5) gNil)))) (tt := tYes) (by rfl) sc_law_nodes_of.nd (show PI _ _ _ (iList K _) from pi_list (pe_df Wy hr (pa_cons (pv 0) (pa_cons (pv 3) pa_nil)))) (blkOk_by (N := n_law_nodes_of) (sc := ({ kind := .function, names := [(".0", .local), ("node", .local), ("_law_way", .globalImplicit), ("a_tree", .cell)], isGenerator := false, isCoroutine := false } : Scope)) (by decide +kernel)) (fun _ _ _ _ _ => (pg_tup rfl (pgs_cons (pg_name (i := 4) sc_law_nodes_of.nd rfl (.inl rfl)) (pgs_cons (pg_name (i := 5) sc_law_nodes_of.nd rfl (.inl rfl)) pgs_nil)))) (fun _ _ _ _ _ => pts_nil) (fun _ _ _ _ _ => (pv 4))))))
 (pss_one (ps_ret (pe_callB (show CallR _ _ (rSortedSetB w) from cr_sortedSetB rfl) (by rfl) B.sorted (by decide +kernel) (pa_cons (pe_callTy (show CallR _ _ (rSetInts w) from cr_setInts rfl) (by rfl) B.set (by decide +kernel) (pa_cons (pe_op op_cat (pe_callTy call_list_of (by rfl) B.list (by decide +kernel) (pa_cons (pv 1) pa_nil)) (pe_callB (cr_sumL rfl) (by rfl) B.sum (by decide +kernel) (pa_cons (pv 2) (pa_cons (pe_lst pa_nil) pa_nil)))) pa_nil)) pa_nil))))), ?_⟩
  have zero : 0 ≤ sizeLine := Nat.zero_le _
  have lw : ws.length ≤ t.size := few_belowW t.size nd lt
  refine ⟨_, rfl, W, rfl, ⟨_, .of eW⟩, fun D0 hD0 => ?_⟩
  refine lc_it (walk_list (K := K) (a := W) (xs := ws.map natV)) (fun i H' => Same H H' ∧ ∃ rows : List Addr, H' D0 = some (.lst (rows.map V.ref)) ∧ Paired (fun r w => H' r = some (.lst (((pOf t 0 w).map fun z => ((z.1 : Nat) : Int)).map V.int)) ∧ r ≠ D0) rows (ws.take i)) ⟨Same.new hD0, [], upd_same, .nil⟩ (fun i H' _ h' => .of (h'.1 _ _ eW)) (fun i x H3 H4 hi h3 hy => ?_) (fun H3 h3 => ?_)
  · obtain ⟨s3, rows, e3, p3⟩ := h3
    obtain ⟨rfl, hx⟩ := hy
    rw [List.getElem?_map] at hx
    obtain ⟨c, hc, rfl⟩ := Option.map_eq_some_iff.mp hx
    have cs : c < t.size := lt c (List.mem_of_getElem? hc)
    have l3 := Paired.length p3
    rw [List.length_take] at l3
    refine ⟨rfl, ?_⟩
    refine yes_lcA ?_
    refine ⟨_, rfl, _, rfl, v, t, c, rfl, ht.same s3, hh, cs, by omega, fun H5 R s5 nR pa => ?_⟩
    obtain ⟨tups, er, pr⟩ := pa
    have lpr := Paired.length pr
    have lp := pOf_len t 0 c
    refine ⟨R, rfl, ⟨_, .of er⟩, fun D hD => ?_⟩
    refine lc_it (walk_list (K := K) (a := R) (xs := tups.map V.ref)) (fun j H' => Same H5 H' ∧ H' D = some (.lst ((((pOf t 0 c).take j).map fun z => ((z.1 : Nat) : Int)).map V.int))) ⟨Same.new hD, upd_same⟩ (fun j H' _ h' => .of (h'.1 _ _ er)) (fun j x H6 H7 hj h6 hy => ?_) (fun H6 h6 => ?_)
    · obtain ⟨s6, e6⟩ := h6
      obtain ⟨rfl, hx2⟩ := hy
      rw [List.getElem?_map] at hx2
      obtain ⟨T, hT, rfl⟩ := Option.map_eq_some_iff.mp hx2
      obtain ⟨z, hz2, eT⟩ := Paired.getL pr hT
      refine ⟨T, _, rfl, .of (s6 _ _ eT), rfl, _, _, rfl, _, [], rfl, rfl, ?_⟩
      refine ⟨rfl, yes_lcA ?_⟩
      refine ⟨_, rfl, _, e6, ?_, fun b o eb => ?_, ?_⟩
      · rw [List.length_map, List.length_map, List.length_take]
        exact small1000 (by omega)
      · rw [upd_ne (ne_of_none eb hD)]
        exact s6 _ _ eb
      · rw [upd_same, List.take_add_one, hz2, List.map_append, List.map_append]
        rfl
    · obtain ⟨s6, e6⟩ := h6
      rw [List.length_map, lpr, List.take_length] at e6
      have s36 := s5.trans s6
      have nDD : D ≠ D0 := fun y => by rw [y, s5 _ _ e3] at hD; cases hD
      refine ⟨_, s36 _ _ e3, ?_, fun b o eb => ?_, rows ++ [D], ?_, ?_⟩
      · rw [List.length_map]
        exact small1000 (by omega)
      · rw [upd_ne (ne_of_none eb hD0)]
        exact s36 _ _ (s3 _ _ eb)
      · rw [upd_same, List.map_append]
        rfl
      · rw [List.take_add_one, hc]
        refine Paired.app (Paired.mapP p3 fun a l h => ⟨?_, h.2⟩) (.cons ⟨?_, nDD⟩ .nil)
        · rw [upd_ne h.2]
          exact s36 _ _ h.1
        · rw [upd_ne nDD]
          exact e6
  · obtain ⟨s3, rows, e3, p3⟩ := h3
    rw [List.length_map, List.take_length] at p3
    have la := ancW_len t ws
    have few : ws.length * t.size ≤ 20 * 20 := Nat.mul_le_mul (by omega) hz
    refine ⟨_, rfl, W, _, rfl, .inl (.of (s3 _ _ eW)), fun C0 hC0 => ?_⟩
    have s4 := Same.new (o := .lst (ws.map natV)) hC0
    have fp : (ws.map fun w => (pOf t 0 w).map fun z => ((z.1 : Nat) : Int)).flatten = (ancW t ws).map Int.ofNat := by
      unfold ancW
      rw [List.flatMap_def, List.map_flatten, List.map_map]
      congr 1
      refine List.map_congr_left fun w _ => ?_
      show _ = ((pOf t 0 w).map (·.1)).map Int.ofNat
      rw [List.map_map]
      rfl
    have pp : Paired (fun r (ns : List Int) => H3 r = some (.lst (ns.map V.int))) rows (ws.map fun w => (pOf t 0 w).map fun z => ((z.1 : Nat) : Int)) := paired_map (Paired.mapP p3 fun _ _ h => h.1)
    refine ⟨_, rfl, zero, fun E0 hE0 => ?_⟩
    have sE := Same.new (o := .lst []) hE0
    have s5 := s4.trans sE
    have l1 := Paired.length p3
    refine ⟨D0, E0, rows, _, [], rfl, s5 _ _ e3, upd_same, Paired.mapP pp fun _ _ h => s5 _ _ h, ?_, fun H6 p s6 e6 => ?_⟩
    · rw [fp, List.length_map, List.length_nil]
      exact Nat.le_of_lt (small1000 (n := 0 + (ancW t ws).length) (by omega))
    rw [List.nil_append, fp] at e6
    have eC6 := s6 _ _ (sE _ _ (upd_same (H := H3) (a := C0) (o := .lst (ws.map natV))))
    refine ⟨C0, p, _, _, rfl, rfl, eC6, e6, ?_, fun U hU => ?_⟩
    · rw [List.length_map, List.length_map, List.length_map]
      exact Nat.le_of_lt (small1000 (n := ws.length + (ancW t ws).length) (by omega))
    have eU : (upd H6 U (.lst (ws.map natV ++ ((ancW t ws).map Int.ofNat).map V.int))) U = some (.lst (((ws ++ ancW t ws).map Int.ofNat).map V.int)) := by
      rw [upd_same, List.map_append, List.map_append, List.map_map (l := ws)]
      rfl
    have sU := Same.new (o := .lst (ws.map natV ++ ((ancW t ws).map Int.ofNat).map V.int)) hU
    have s07 := s3.trans (s5.trans (s6.trans sU))
    generalize upd H6 U (.lst (ws.map natV ++ ((ancW t ws).map Int.ofNat).map V.int)) = H7 at eU s07 ⊢
    refine ⟨U, _, rfl, eU, ?_, fun S cn hS hcn => ?_⟩
    · rw [List.length_map, List.length_append]
      omega
    rw [List.length_map, List.length_append] at hcn
    refine ⟨S, _, _, rfl, upd_same, by omega, fun ns L hns mem hlen hL => ?_⟩
    have sS := Same.new (o := SetO w S (fun j => decide (j ∈ (ws ++ ancW t ws).map Int.ofNat)) cn) hS
    have sL := Same.new (o := .lst (ns.map V.int)) hL
    obtain ⟨N, rfl, hN⟩ : ∃ N : List Nat, ns = N.map Int.ofNat ∧ NodesW t ws N := nodes_of hns mem
    refine q _ L N (s07.trans (sS.trans sL)) (s07.free (sS.free hL)) ?_ hN
    rw [upd_same, List.map_map]
    rfl
end
end HSP
set_option maxHeartbeats 4000000
namespace HSP
open PySem PySem.Spec PyProof.Rows L2
/-! ## dict(xs): a list of pairs of a tuple and a value -/
def mergeT (kvs more : List (List Key × V)) : List (List Key × V) := more.foldl (fun acc kv => putK acc kv.1 kv.2) kvs
theorem mergeT_len : ∀ (more kvs : List (List Key × V)), (mergeT kvs more).length ≤ kvs.length + more.length
  | [], kvs => Nat.le_refl _
  | q :: r, kvs => by
    have h1 := mergeT_len r (putK kvs q.1 q.2)
    have h2 := length_putK kvs q.1 q.2
    show (mergeT (putK kvs q.1 q.2) r).length ≤ _
    rw [List.length_cons]
    omega
/-- one pair: where it stands, where its key stands, the key, the value -/
structure PrT where
  at_ : Addr
  key : Addr
  k : List Key
  v : V
def PrAt (K : PySem.W.Frag) (H : Hp) (p : PrT) : Prop := SqT K H p.at_ [V.ref p.key, p.v] ∧ H p.key = some (.tup (p.k.map kV))
section
variable {X : Cx}
theorem prs_of {pins : List (Addr × Obj)} {σ : L2.St} {H : Hp} {s : Shared} (I : Inv X pins σ H s) : ∀ {ps : List PrT}, (∀ p, p ∈ ps → PrAt X.K H p) →
    ∃ us : List Value, us.length = ps.length ∧ ∀ (j : Nat) (p : PrT), ps[j]? = some p → ∃ u, us[j]? = some u ∧ RelV p.v u ∧ IsTup s.heap p.at_ #[Value.ref p.key, u]
  | [], _ => ⟨[], rfl, fun j p e => by cases e⟩
  | p :: r, h => by
    obtain ⟨us, l, g⟩ := prs_of I (ps := r) fun q hq => h q (List.mem_cons_of_mem _ hq)
    obtain ⟨hp, _⟩ := h p List.mem_cons_self
    obtain ⟨its, rv, ht, _⟩ := I.tuple hp
    obtain ⟨u, y, ei, ru, ry⟩ := vals2 rv
    subst ei
    obtain rfl : u = Value.ref p.key := ru
    refine ⟨y :: us, by rw [List.length_cons, List.length_cons, l], fun j q e => ?_⟩
    cases j with
    | zero =>
      obtain rfl : p = q := Option.some.inj e
      exact ⟨y, rfl, ry, ht⟩
    | succ j => exact g j q e
theorem kt_merge {H : Hp} : ∀ {ps : List PrT} {us : List Value} {kvs : List (List Key × V)} {xs : List (List Key × Addr × Value)}, (∀ p, p ∈ ps → H p.key = some (.tup (p.k.map kV))) → us.length = ps.length → (∀ (j : Nat) (p : PrT), ps[j]? = some p → ∃ u, us[j]? = some u ∧ RelV p.v u) → KT H kvs xs →
    KT H (mergeT kvs (ps.map fun p => (p.k, p.v))) (storedAllH xs ((ps.zip us).map fun z => (z.1.k, z.1.key, z.2)))
  | [], us, kvs, xs, _, _, _, r => r
  | p :: ps, [], _, _, _, l, _, _ => by cases l
  | p :: ps, u :: us, kvs, xs, hk, l, hu, r => by
    obtain ⟨u', e, ru⟩ := hu 0 p rfl
    obtain rfl : u = u' := Option.some.inj e
    exact kt_merge (ps := ps) (us := us) (fun q hq => hk q (List.mem_cons_of_mem _ hq)) (by rw [List.length_cons, List.length_cons] at l; omega) (fun j q e => hu (j + 1) q e) (r.put p.k (hk p List.mem_cons_self) ru)
def rDictT (K : PySem.W.Frag) : List V → Hp → VK → Prop := fun xs H Q => ∃ (a : Addr) (ps : List PrT), xs = [.ref a] ∧ SqL K H a (ps.map fun p => V.ref p.at_) ∧ (∀ p, p ∈ ps → PrAt K H p) ∧
  ∀ D, H D = none → Q (.ref D) (upd H D (.dT (mergeT [] (ps.map fun p => (p.k, p.v)))))
theorem cr_dictT (hcalm : X.calm = true) (hu : X.A.units + 64 < cLine) : CallR X (.type "dict") (rDictT X.K) := by
  intro pins s σ H xs us Q I r q
  obtain ⟨a, ps, ex, hq, hp, q⟩ := q
  subst ex
  rw [Vals.ref1 r]
  obtain ⟨its, rv, pl, hz⟩ := I.list hq
  rw [List.length_map] at hz
  have ei : its = ps.map fun p => Value.ref p.at_ := by
    have := refs_at (ps := ps.map (·.at_)) (us := its) (by rw [List.map_map]; exact rv)
    rw [this, List.map_map]
    rfl
  subst ei
  obtain ⟨vs, lv, hv⟩ := prs_of I hp
  obtain ⟨o, n, ho, hc, hd, hdat⟩ := pl
  have lz : (ps.zip vs).length = ps.length := by rw [List.length_zip, lv, Nat.min_self]
  have at_z : ∀ {j : Nat} {p : PrT} {u : Value}, (ps.zip vs)[j]? = some (p, u) → ps[j]? = some p ∧ vs[j]? = some u := fun {j p u} e => List.getElem?_zip_eq_some.mp e
  have hitems : PairItems s.heap (ps.map fun p => Value.ref p.at_).toArray (fun j => (ps[j]?.map (·.at_)).getD 0) ((ps.zip vs).map fun z => (Value.ref z.1.key, z.2)) := by
    refine ⟨by simp [lz], fun j k v e => ?_⟩
    rw [List.getElem?_map] at e
    obtain ⟨⟨p, u⟩, e1, e2⟩ := Option.map_eq_some_iff.mp e
    cases e2
    obtain ⟨e3, e4⟩ := at_z e1
    obtain ⟨u', e5, _, t⟩ := hv j p e3
    rw [e4] at e5
    cases e5
    refine ⟨by simp [e3], .inl ?_⟩
    have e6 : (fun j => (ps[j]?.map (·.at_)).getD 0) j = p.at_ := by
      show (ps[j]?.map (·.at_)).getD 0 = p.at_
      rw [e3]
      rfl
    rw [e6]
    exact t
  have hz2 : ((ps.zip vs).map fun z => (Value.ref z.1.key, z.2)).length ≤ sizeLine := by
    rw [List.length_map, lz]
    exact hz
  refine call_dict_pairsH (knd := tupleKind (mixKind X.prog X.w)) (ps := (ps.zip vs).map fun z => (z.1.k, z.1.key, z.2)) (PairArg.list a _ _ _) (I.ok.hd hcalm) ?_ ⟨⟨o, n, ho, hc, hd, hdat⟩, hitems⟩ ⟨?_, fun i key v rel => ?_⟩ (fun h' hk x hx => ?_) hz2 fun h' tk hd' k => ?_
  · show X.A.units + 2 < cLine
    omega
  · rw [List.length_map, List.length_map]
  · have rel : ((ps.zip vs).map fun z => (Value.ref z.1.key, z.2))[i]? = some (key, v) := rel
    rw [List.getElem?_map] at rel
    obtain ⟨⟨p, u⟩, e1, e2⟩ := Option.map_eq_some_iff.mp rel
    cases e2
    exact ⟨p.k, p.key, by rw [List.getElem?_map, e1]; rfl, rfl⟩
  · obtain ⟨⟨p, u⟩, hz, rfl⟩ := List.mem_map.mp hx
    have hp2 := hp p (List.of_mem_zip hz).1
    have ko := key_of I.hok hp2.2
    obtain ⟨ob, arr, m, h1, h2⟩ := ko
    have lt := Heap.lt_size h1
    exact ⟨ob, arr, m, hk _ _ (Nat.ne_of_lt lt) (by intro z; cases z) h1, h2⟩
  · have hm : (s.heap.objs.size == sysModules) = false := beq_eq_false_iff_ne.mpr (Nat.ne_of_gt I.big)
    have nn := I.hok.fresh (Nat.le_refl s.heap.objs.size)
    have hlen : (mergeT [] (ps.map fun p => (p.k, p.v))).length ≤ sizeLine := by
      have := mergeT_len (ps.map fun p => (p.k, p.v)) []
      rw [List.length_map, List.length_nil] at this
      omega
    obtain ⟨q', es, ep, hq', h2, h3, h4, _, h5⟩ := hd'
    have rel := kt_merge (H := H) (ps := ps) (us := vs) (kvs := []) (xs := []) (fun p hp2 => (hp p hp2).2) lv (fun j p e => let ⟨u, e1, e2, _⟩ := hv j p e; ⟨u, e1, e2⟩) .nil
    exact ⟨.ref s.heap.objs.size, upd H s.heap.objs.size (.dT _), I.laid (t' := tk) (fun b o e => k b o (by intro z; cases z) e) (Nat.le_refl _) (show ObjOk X.prog X.w _ _ _ (.dT _) from ⟨hlen, hm, _, rel.keeps fun c ys ec => by rw [upd_ne (ne_of_none ec nn)]; exact ec, q', es, ep, hq', h2, h3, h4, h5⟩), rfl, q _ nn⟩
end
end HSP
namespace HSP
open PySem PySem.Spec PyProof.Rows L2
/-! ### _law_far -/
def kyT (a b : Nat) : List Key := [Sum.inl (a : Int), Sum.inl (b : Int)]
theorem small1000' {n : Nat} (h : n ≤ 5000) : n < sizeLine := by
  show n < 16777216
  omega
theorem kyT_inj {a b c d : Nat} (h : kyT a b = kyT c d) : a = c ∧ b = d := by
  injection h with h1 h2
  injection h2 with h2 _
  have h1 := Sum.inl.inj h1
  have h2 := Sum.inl.inj h2
  omega
def TblT (kvs : List (List Key × V)) (F : Nat → Nat → Nat) : Prop := ∀ a b, valV kvs (kyT a b) = if F a b = 0 then none else some (natV (F a b))
theorem TblT.some {kvs : List (List Key × V)} {F : Nat → Nat → Nat} (h : TblT kvs F) (a b : Nat) : (valV kvs (kyT a b)).isSome = decide (F a b ≠ 0) := by
  rw [h]
  by_cases c : F a b = 0
  · rw [if_pos c, decide_eq_false fun z => z c]
    rfl
  · rw [if_neg c, decide_eq_true c]
    rfl
theorem TblT.getD {kvs : List (List Key × V)} {F : Nat → Nat → Nat} (h : TblT kvs F) (a b : Nat) : (valV kvs (kyT a b)).getD (V.int 0) = natV (F a b) := by
  rw [h]
  by_cases c : F a b = 0
  · rw [if_pos c, c]
    rfl
  · rw [if_neg c]
    rfl
theorem TblT.put {kvs : List (List Key × V)} {F : Nat → Nat → Nat} (h : TblT kvs F) {m a b : Nat} (h1 : F a m ≠ 0) (h2 : F m b ≠ 0) : TblT (putK kvs (kyT a b) (V.int (if ((F a m : Int) + (F m b : Int)) > (F a b : Int) then ((F a m : Int) + (F m b : Int)) else (F a b : Int)))) (putF F m a b) := fun x y => by
  have e1 : V.int (if ((F a m : Int) + (F m b : Int)) > (F a b : Int) then ((F a m : Int) + (F m b : Int)) else (F a b : Int)) = natV (max (F a b) (F a m + F m b)) := by
    show V.int _ = V.int _
    congr 1
    split <;> omega
  rw [e1, valV_put]
  by_cases c : kyT x y = kyT a b
  · obtain ⟨rfl, rfl⟩ := kyT_inj c
    have e2 : putF F m x y x y = max (F x y) (F x m + F m y) := by
      unfold putF
      rw [if_pos ⟨rfl, rfl, h1, h2⟩]
    rw [if_pos rfl, e2, if_neg (by omega)]
  · rw [if_neg c, h]
    have e2 : putF F m a b x y = F x y := by
      unfold putF
      rw [if_neg]
      rintro ⟨rfl, rfl, _⟩
      exact c rfl
    rw [e2]
theorem putF_not {F : Nat → Nat → Nat} {m a b : Nat} (h : ¬ (F a m ≠ 0 ∧ F m b ≠ 0)) : putF F m a b = F := by
  funext x y
  unfold putF
  rw [if_neg]
  rintro ⟨rfl, rfl, z⟩
  exact h z
def oneT (es : List (Nat × Nat)) (a b : Nat) : Nat := if (a, b) ∈ es then 1 else 0
theorem tbl_start (es : List (Nat × Nat)) : TblT (mergeT [] (es.map fun e => (kyT e.1 e.2, V.int 1))) (oneT es) := fun a b => by
  have all : ∀ (es : List (Nat × Nat)) (kvs : List (List Key × V)), valV (mergeT kvs (es.map fun e => (kyT e.1 e.2, V.int 1))) (kyT a b) = if (a, b) ∈ es then some (V.int 1) else valV kvs (kyT a b) := fun es => by
    induction es with
    | nil => exact fun kvs => by rw [if_neg (by intro z; cases z)]; rfl
    | cons e r ih =>
      intro kvs
      show valV (mergeT (putK kvs (kyT e.1 e.2) (V.int 1)) (r.map fun e => (kyT e.1 e.2, V.int 1))) _ = _
      rw [ih, valV_put]
      by_cases c : (a, b) ∈ r
      · rw [if_pos c, if_pos (List.mem_cons_of_mem _ c)]
      · rw [if_neg c]
        by_cases d : kyT a b = kyT e.1 e.2
        · obtain ⟨h1, h2⟩ := kyT_inj d
          rw [if_pos d, if_pos (by rw [show (a, b) = e from Prod.ext h1 h2]; exact List.mem_cons_self)]
        · rw [if_neg d, if_neg]
          intro z
          rcases List.mem_cons.mp z with z | z
          · exact d (by rw [← z])
          · exact c z
  rw [all]
  unfold oneT
  by_cases c : (a, b) ∈ es
  · rw [if_pos c, if_pos c, if_neg (by decide)]
    rfl
  · rw [if_neg c, if_neg c, if_pos rfl]
    rfl
theorem zip_l {α β : Type} {p : α → β → Prop} : ∀ {as : List α} {bs : List β}, Paired p as bs → (as.zip bs).map Prod.fst = as
  | _, _, .nil => rfl
  | _, _, .cons _ t => by rw [List.zip_cons_cons, List.map_cons, zip_l t]
theorem zip_r {α β : Type} {p : α → β → Prop} : ∀ {as : List α} {bs : List β}, Paired p as bs → (as.zip bs).map Prod.snd = bs
  | _, _, .nil => rfl
  | _, _, .cons _ t => by rw [List.zip_cons_cons, List.map_cons, zip_r t]
theorem zip_in {α β : Type} {p : α → β → Prop} : ∀ {as : List α} {bs : List β}, Paired p as bs → ∀ {z}, z ∈ as.zip bs → p z.1 z.2
  | _, _, .nil, _, h => nomatch h
  | _, _, .cons a t, z, h => by
    rw [List.zip_cons_cons] at h
    rcases List.mem_cons.mp h with rfl | h
    · exact a
    · exact zip_in t h
def prT (z : Addr × (Addr × (Nat × Nat))) : PrT := ⟨z.1, z.2.1, kyT z.2.2.1 z.2.2.2, V.int 1⟩
/-- the table F stands at L behind H0 -/
def StT (H0 H : Hp) (L : Addr) (F : Nat → Nat → Nat) (c : Nat) : Prop := Same H0 H ∧ ∃ kvs, H L = some (.dT kvs) ∧ TblT kvs F ∧ kvs.length ≤ c
def FarT (H : Hp) (L : Addr) (D : Nat → Nat → Nat) : Prop := ∃ kvs, H L = some (.dT kvs) ∧ TblT kvs D
section
variable {P : Program} {w : World} {K : PySem.W.Frag} {mg : Str → Option Value} {base : Heap}
theorem sc_law_far : FnScope n_law_far ["a_tree", "a_wished"] (defScope s_law_far) := ⟨rfl, rfl, rfl, by decide +kernel, rfl, by decide +kernel, by decide +kernel⟩
def spFarT (n : Nat) : Sp := fun vs H Q _ => ∃ (v : V) (t : Tr) (W : Addr) (ws : List Nat), vs = [v, .ref W] ∧ TrAt H v t ∧ t.ht < n ∧ t.size ≤ 10 ∧ H W = some (.lst (ws.map natV)) ∧ ws.Nodup ∧ (∀ x, x ∈ ws → x < t.size) ∧
  ∀ (H' : Hp) (L : Addr) (D : Nat → Nat → Nat), Same H H' → H L = none → FarT H' L D → AllL (EdW t ws) D → Q (.ref L) H'
theorem ok_far {n : Nat} (B : Bl mg) (Dc : mg "dict" = none) (No : Df P w K mg base "_law_nodes_of" (n + 2) ["a_tree", "a_wished"] (spNodes n)) (Ne : Df P w K mg base "_law_near" (n + 2) ["a_tree", "a_wished"] (spNear n)) (a : At K mg "_law_far" s_law_far) : Df P w K mg base "_law_far" (n + 3) ["a_tree", "a_wished"] (spFarT n) := by
  refine Df.mk' a sc_law_far (fun vs H Q E h => ?_) (fun _ _ _ _ _ _ us hl => match us, hl with | [_, _], _ => rfl) (fun f cdv A outer s H vs Q E hr h => ?_)
  · obtain ⟨_, _, _, _, rfl, _⟩ := h
    rfl
  obtain ⟨v, t, W, ws, rfl, ht, hh, hz, eW, nd, lt, q⟩ := h
  refine ⟨_, (pss_cons (ps_set (i := 2) sc_law_far.nd rfl (.inl rfl) (pe_df No hr (pa_cons (pv 0) (pa_cons (pv 1) pa_nil))))
 (pss_cons (ps_set (i := 3) sc_law_far.nd rfl (.inl rfl) (pe_callTy (show CallR _ _ (rDictT K) from cr_dictT rfl hr.units) (by rfl) Dc (by decide +kernel) (pa_cons (pe_lc (own := [("pair", 8)]) (g := (gName 8)) (tt := tYes) (by rfl) sc_law_far.nd (pi_list (pe_df Ne hr (pa_cons (pv 0) (pa_cons (pv 1) pa_nil)))) (blkOk_by (N := n_law_far) (sc := defScope s_law_far) (by decide +kernel)) (fun _ _ _ _ _ => (pg_name (i := 8) sc_law_far.nd rfl (.inl rfl))) (fun _ _ _ _ _ => pts_nil) (fun _ _ _ _ _ => (pe_tup (pa_cons (pv 8) (pa_cons pe_int pa_nil))))) pa_nil)))
 (pss_cons (ps_for PassesOwn.never rfl (pi_list (pv 2)) (pg_name (i := 4) sc_law_far.nd rfl (.inl rfl)) (pss_one (ps_for PassesOwn.never rfl (pi_list (pv 2)) (pg_name (i := 5) sc_law_far.nd rfl (.inl rfl)) (pss_one (ps_for PassesOwn.never rfl (pi_list (pv 2)) (pg_name (i := 6) sc_law_far.nd rfl (.inl rfl)) (pss_one (ps_if (PW.pt (pw_and (pt_cmp (pc_din (hu_of hr) (pe_tup (pa_cons (pv 5) (pa_cons (pv 4) pa_nil))) (pv 3))) (pw_and1 (pt_cmp (pc_din (hu_of hr) (pe_tup (pa_cons (pv 4) (pa_cons (pv 6) pa_nil))) (pv 3)))))) (pss_cons (ps_set (i := 7) sc_law_far.nd rfl (.inl rfl) (pe_op op_add (pe_dget (hu_of hr) (pv 3) (pe_tup (pa_cons (pv 5) (pa_cons (pv 4) pa_nil))) (fun _ _ => rfl)) (pe_dget (hu_of hr) (pv 3) (pe_tup (pa_cons (pv 4) (pa_cons (pv 6) pa_nil))) (fun _ _ => rfl))))
 (pss_one (ps_dput (hu_of hr) (pv 3) (pe_tup (pa_cons (pv 5) (pa_cons (pv 6) pa_nil))) (pe_callB (call_max2 rfl) (by rfl) B.max (by decide +kernel) (pa_cons (pe_dget2 (hu_of hr) (pv 3) (pe_tup (pa_cons (pv 5) (pa_cons (pv 6) pa_nil))) pe_int ⟨rfl, rfl, rfl, rfl⟩) (pa_cons (pv 7) pa_nil))) (by rfl)))) pss_nil)))))))
 (pss_one (ps_ret (pv 3)))))), ?_⟩
  have two : 2 ≤ sizeLine := by show 2 ≤ 16777216; decide
  refine ⟨_, rfl, _, rfl, v, t, W, ws, rfl, ht, hh, by omega, eW, nd, lt, fun H1 Nl N s1 nN eN hN => ?_⟩
  refine ⟨_, rfl, _, rfl, v, t, W, ws, rfl, ht.same s1, hh, hz, s1 _ _ eW, nd, lt, fun H2 Pl es s2 nP pp ndE fewE mem => ?_⟩
  obtain ⟨ads, eP, pE⟩ := pp
  refine ⟨Pl, rfl, ⟨_, .of eP⟩, fun D0 hD0 => ?_⟩
  have lE := Paired.length pE
  have lz : (ads.zip es).length = ads.length := by rw [List.length_zip]; omega
  refine lc_it (walk_list (K := K) (a := Pl) (xs := ads.map V.ref)) (fun i H' => Same H2 H' ∧ ∃ tl : List Addr, H' D0 = some (.lst (tl.map V.ref)) ∧ Paired (fun a (z : Addr × (Nat × Nat)) => H' a = some (.tup [V.ref z.1, V.int 1])) tl ((ads.zip es).take i)) ⟨Same.new hD0, [], upd_same, .nil⟩ (fun i H' _ h' => .of (h'.1 _ _ eP)) (fun i x H3 H4 hi h3 hy => ?_) (fun H3 h3 => ?_)
  · obtain ⟨s3, tl, e3, p3⟩ := h3
    obtain ⟨rfl, hx⟩ := hy
    rw [List.length_map] at hi
    rw [List.getElem?_map] at hx
    obtain ⟨ad, had, rfl⟩ := Option.map_eq_some_iff.mp hx
    obtain ⟨e, he, _⟩ := Paired.getL pE had
    have hz3 : (ads.zip es)[i]? = some (ad, e) := List.getElem?_zip_eq_some.mpr ⟨had, he⟩
    have l3 := Paired.length p3
    rw [List.length_take] at l3
    refine ⟨rfl, ?_⟩
    refine yes_lcA ?_
    refine ⟨_, rfl, two, fun U hU => ?_⟩
    have sU := Same.new (o := .tup [V.ref ad, V.int 1]) hU
    have nU : U ≠ D0 := (ne_of_none e3 hU).symm
    refine ⟨_, sU _ _ e3, ?_, fun b o eb => ?_, tl ++ [U], ?_, ?_⟩
    · rw [List.length_map]
      exact small1000 (by omega)
    · rw [upd_ne (ne_of_none eb hD0)]
      exact sU _ _ (s3 _ _ eb)
    · rw [upd_same, List.map_append]
      rfl
    · rw [List.take_add_one, hz3]
      refine Paired.app (Paired.mapP p3 fun a f h => ?_) (.cons ?_ .nil)
      · rw [upd_ne fun y => by rw [y, e3] at h; cases h]
        exact sU _ _ h
      · rw [upd_ne nU]
        exact upd_same
  obtain ⟨s3, tl, e3, p3⟩ := h3
  rw [List.length_map, ← lz, List.take_length] at p3
  refine ⟨D0, (tl.zip (ads.zip es)).map prT, rfl, ?_, fun p hp => ?_, fun L hL => ?_⟩
  · have := zip_l p3
    rw [List.map_map, show ((fun p : PrT => V.ref p.at_) ∘ prT) = V.ref ∘ Prod.fst from rfl, ← List.map_map, this]
    exact .of e3
  · obtain ⟨z, hz3, rfl⟩ := List.mem_map.mp hp
    exact ⟨.of (zip_in p3 hz3), s3 _ _ (zip_in pE (List.of_mem_zip hz3).2)⟩
  have em : ((tl.zip (ads.zip es)).map prT).map (fun p => (p.k, p.v)) = es.map fun e => (kyT e.1 e.2, V.int 1) := by
    rw [List.map_map, show ((fun p : PrT => (p.k, p.v)) ∘ prT) = (fun e : Nat × Nat => (kyT e.1 e.2, V.int 1)) ∘ (Prod.snd ∘ Prod.snd) from rfl, ← List.map_map, ← List.map_map, zip_r p3, zip_r pE]
  rw [em]
  have lm := mergeT_len (es.map fun e => (kyT e.1 e.2, V.int 1)) []
  rw [List.length_map, List.length_nil] at lm
  have s13 := s2.trans s3
  have f1 : H1 L = none := s13.free hL
  have fL : H L = none := s1.free f1
  have st0 : StT H1 (upd H3 L (.dT (mergeT [] (es.map fun e => (kyT e.1 e.2, V.int 1))))) L (oneT es) 64 := ⟨s13.trans (Same.new hL), _, upd_same, tbl_start es, by omega⟩
  have tab0 : TabF (EdW t ws) (oneT es) fun x => x ∈ N.take 0 := by
    have h := TabF.start (E := EdW t ws) (oneT es) fun a b => by
      unfold oneT
      by_cases c : (a, b) ∈ es
      · rw [if_pos c]
        exact .inl ⟨rfl, (mem _).mp c⟩
      · rw [if_neg c]
        exact .inr ⟨rfl, fun z => c ((mem _).mpr z)⟩
    exact ⟨h.1, fun a b k pk => h.2 a b k (by
      have : (fun x => x ∈ N.take 0) = fun _ : Nat => False := by
        funext x
        rw [List.take_zero]
        exact propext ⟨fun z => (nomatch z), fun z => False.elim z⟩
      rw [this] at pk
      exact pk)⟩
  generalize upd H3 L (.dT (mergeT [] (es.map fun e => (kyT e.1 e.2, V.int 1)))) = H4 at st0 ⊢
  have lN : N.length ≤ 10 := by
    have := few_belowW t.size (hN.1.imp fun {a b} z => Nat.ne_of_lt z) fun x hx => by
      rcases List.mem_append.mp ((hN.2 x).mp hx) with z | z
      · exact lt x z
      · exact anc_in z
    omega
  have lNm : (N.map natV).length = N.length := List.length_map _
  have inE : ∀ a b, EdW t ws a b → a ∈ N ∧ b ∈ N := fun a b e => ⟨(hN.2 _).mpr (edge_in e).1, (hN.2 _).mpr (edge_in e).2⟩
  refine ⟨_, rfl, Nl, rfl, ⟨_, .of (st0.1 _ _ eN)⟩, ?_⟩
  refine for_it (walk_list (K := K) (a := Nl) (xs := N.map natV)) (fun i σ H' => (∃ y4 y5 y6 y7 y8 : Option V, σ = [some v, some (.ref W), some (.ref Nl), some (.ref L), y4, y5, y6, y7, y8]) ∧ ∃ F, StT H1 H' L F (64 + 100 * i) ∧ TabF (EdW t ws) F fun x => x ∈ N.take i) ⟨⟨_, _, _, _, _, rfl⟩, _, st0, tab0⟩ (fun i σ H' _ ⟨_, _, st, _⟩ => .of (st.1 _ _ eN)) (fun i x σ H5 H6 hi h5 hy => ?_) (fun σ H5 h5 => ?_)
  · obtain ⟨⟨y4, y5, y6, y7, y8, rfl⟩, F5, st5, tab5⟩ := h5
    obtain ⟨rfl, hx⟩ := hy
    rw [List.getElem?_map] at hx
    obtain ⟨m, hm, rfl⟩ := Option.map_eq_some_iff.mp hx
    refine ⟨_, rfl, Nl, rfl, ⟨_, .of (st5.1 _ _ eN)⟩, ?_⟩
    refine for_it (walk_list (K := K) (a := Nl) (xs := N.map natV)) (fun j σ H' => (∃ y5 y6 y7 y8 : Option V, σ = [some v, some (.ref W), some (.ref Nl), some (.ref L), some (natV m), y5, y6, y7, y8]) ∧ ∃ F, StT H1 H' L F (64 + 100 * i + 10 * j) ∧ TabF (EdW t ws) F (fun x => x ∈ N.take i) ∧ ∀ a, a ∈ N.take j → ∀ b, b ∈ N → DoneF (EdW t ws) F (fun x => x ∈ N.take i) m a b) ⟨⟨_, _, _, _, rfl⟩, _, st5, tab5, fun _ h => nomatch h⟩ (fun i σ H' _ ⟨_, _, st, _⟩ => .of (st.1 _ _ eN)) (fun j x σ H7 H8 hj h7 hy => ?_) (fun σ H7 h7 => ?_)
    · obtain ⟨⟨y5, y6, y7, y8, rfl⟩, F7, st7, tab7, dn7⟩ := h7
      obtain ⟨rfl, hx⟩ := hy
      rw [List.getElem?_map] at hx
      obtain ⟨o, ho, rfl⟩ := Option.map_eq_some_iff.mp hx
      refine ⟨_, rfl, Nl, rfl, ⟨_, .of (st7.1 _ _ eN)⟩, ?_⟩
      refine for_it (walk_list (K := K) (a := Nl) (xs := N.map natV)) (fun k σ H' => (∃ y6 y7 y8 : Option V, σ = [some v, some (.ref W), some (.ref Nl), some (.ref L), some (natV m), some (natV o), y6, y7, y8]) ∧ ∃ F, StT H1 H' L F (64 + 100 * i + 10 * j + k) ∧ TabF (EdW t ws) F (fun x => x ∈ N.take i) ∧ (∀ a, a ∈ N.take j → ∀ b, b ∈ N → DoneF (EdW t ws) F (fun x => x ∈ N.take i) m a b) ∧ ∀ b, b ∈ N.take k → DoneF (EdW t ws) F (fun x => x ∈ N.take i) m o b) ⟨⟨_, _, _, rfl⟩, _, st7, tab7, dn7, fun _ h => nomatch h⟩ (fun i σ H' _ ⟨_, _, st, _⟩ => .of (st.1 _ _ eN)) (fun k x σ H9 H10 hk h9 hy => ?_) (fun σ H9 h9 => ?_)
      · obtain ⟨⟨y6, y7, y8, rfl⟩, F, ⟨s9, kvs, e9, t9, l9⟩, tab9, dn9, dk9⟩ := h9
        obtain ⟨rfl, hx⟩ := hy
        rw [List.getElem?_map] at hx
        obtain ⟨b, hb, rfl⟩ := Option.map_eq_some_iff.mp hx
        have fin : ∀ (H' : Hp) (kv : List (List Key × V)), Same H1 H' → H' L = some (.dT kv) → TblT kv (putF F m o b) → kv.length ≤ kvs.length + 1 → ∃ F, StT H1 H' L F (64 + 100 * i + 10 * j + (k + 1)) ∧ TabF (EdW t ws) F (fun x => x ∈ N.take i) ∧ (∀ a, a ∈ N.take j → ∀ b, b ∈ N → DoneF (EdW t ws) F (fun x => x ∈ N.take i) m a b) ∧ ∀ b, b ∈ N.take (k + 1) → DoneF (EdW t ws) F (fun x => x ∈ N.take i) m o b := fun H' kv s e tb le => by
          refine ⟨putF F m o b, ⟨s, kv, e, tb, by omega⟩, putF_ok tab9 m o b, fun a ha c hc => (dn9 a ha c hc).mono (putF_le ..), fun c hc => ?_⟩
          rw [List.take_add_one, hb] at hc
          rcases List.mem_append.mp hc with hc | hc
          · exact (dk9 c hc).mono (putF_le ..)
          · rw [List.mem_singleton.mp hc]
            exact putF_done tab9 m o b
        refine ⟨_, rfl, _, rfl, two, fun T1 hT1 => ?_⟩
        have sT1 := Same.new (o := .tup [natV o, natV m]) hT1
        refine ⟨_, rfl, L, _, rfl, .inr ⟨kvs, kyT o m, T1, .inl (sT1 _ _ e9), rfl, upd_same, rfl⟩, decide (F o m ≠ 0), congrArg V.bl (t9.some o m), ?_⟩
        refine ite2 (fun c1 => ?_) (fun c1 => ⟨⟨_, _, _, rfl⟩, fin _ kvs (s9.trans sT1) (sT1 _ _ e9) (by rw [putF_not fun z => c1 (decide_eq_true z.1)]; exact t9) (by omega)⟩)
        have c1 : F o m ≠ 0 := of_decide_eq_true c1
        refine ⟨_, rfl, _, rfl, two, fun T2 hT2 => ?_⟩
        have sT2 := sT1.trans (Same.new (o := .tup [natV m, natV b]) hT2)
        refine ⟨_, rfl, L, _, rfl, .inr ⟨kvs, kyT m b, T2, .inl (sT2 _ _ e9), rfl, upd_same, rfl⟩, decide (F m b ≠ 0), congrArg V.bl (t9.some m b), ?_⟩
        refine ite2 (fun c2 => ?_) (fun c2 => ⟨⟨_, _, _, rfl⟩, fin _ kvs (s9.trans sT2) (sT2 _ _ e9) (by rw [putF_not fun z => c2 (decide_eq_true z.2)]; exact t9) (by omega)⟩)
        have c2 : F m b ≠ 0 := of_decide_eq_true c2
        refine ⟨_, rfl, _, rfl, _, rfl, two, fun T3 hT3 => ?_⟩
        have sT3 := sT2.trans (Same.new (o := .tup [natV o, natV m]) hT3)
        refine ⟨L, natV (F o m), rfl, .inr ⟨kvs, kyT o m, T3, .inl (sT3 _ _ e9), rfl, upd_same, by rw [t9, if_neg c1]⟩, ?_⟩
        refine ⟨_, rfl, _, rfl, _, rfl, two, fun T4 hT4 => ?_⟩
        have sT4 := sT3.trans (Same.new (o := .tup [natV m, natV b]) hT4)
        refine ⟨L, natV (F m b), rfl, .inr ⟨kvs, kyT m b, T4, .inl (sT4 _ _ e9), rfl, upd_same, by rw [t9, if_neg c2]⟩, (F o m : Int), (F m b : Int), rfl, rfl, ?_⟩
        refine ⟨_, rfl, L, rfl, .inr ⟨kvs, .inl (sT4 _ _ e9)⟩, _, rfl, _, rfl, two, fun T5 hT5 => ?_⟩
        have sT5 := sT4.trans (Same.new (o := .tup [natV o, natV b]) hT5)
        refine ⟨_, .inr ⟨kvs, kyT o b, T5, .inl (sT5 _ _ e9), rfl, upd_same, rfl⟩, ?_⟩
        refine ⟨_, rfl, ((F o b : Nat) : Int), (F o m : Int) + (F m b : Int), ?_, ?_⟩
        · exact congrArg (fun z => [z, V.int ((F o m : Int) + (F m b : Int))]) (t9.getD o b)
        refine ⟨_, rfl, _, rfl, _, rfl, two, fun T6 hT6 => ?_⟩
        have sT6 := sT5.trans (Same.new (o := .tup [natV o, natV b]) hT6)
        refine ⟨L, _, rfl, .inr ⟨kvs, kyT o b, T6, sT6 _ _ e9, rfl, upd_same, small1000' (by omega), rfl⟩, ⟨_, _, _, rfl⟩, fin _ _ (fun c u eb => ?_) upd_same (t9.put c1 c2) (length_putK _ _ _)⟩
        rw [upd_ne (ne_of_none eb f1)]
        exact sT6 _ _ (s9 _ _ eb)
      · obtain ⟨⟨y6, y7, y8, rfl⟩, F, ⟨s9, kvs, e9, t9, l9⟩, tab9, dn9, dk9⟩ := h9
        rw [List.length_map, List.take_length] at dk9
        refine ⟨⟨_, _, _, _, rfl⟩, F, ⟨s9, kvs, e9, t9, by omega⟩, tab9, fun a ha b hb => ?_⟩
        rw [List.take_add_one, ho] at ha
        rcases List.mem_append.mp ha with ha | ha
        · exact dn9 a ha b hb
        · rw [List.mem_singleton.mp ha]
          exact dk9 b hb
    · obtain ⟨⟨y5, y6, y7, y8, rfl⟩, F, ⟨s7, kvs, e7, t7, l7⟩, tab7, dn7⟩ := h7
      rw [List.length_map, List.take_length] at dn7
      refine ⟨⟨_, _, _, _, _, rfl⟩, F, ⟨s7, kvs, e7, t7, by omega⟩, tab7.next (N := fun x => x ∈ N) (edge_up lt) inE (fun a b ha hb => dn7 a ha b hb) fun x hx => ?_⟩
      rw [List.take_add_one, hm] at hx
      rcases List.mem_append.mp hx with hx | hx
      · exact .inl hx
      · exact .inr (List.mem_singleton.mp hx)
  · obtain ⟨⟨y4, y5, y6, y7, y8, rfl⟩, F, ⟨s5, kvs, e5, t5, _⟩, tab⟩ := h5
    rw [List.length_map, List.take_length] at tab
    exact ⟨_, rfl, q _ L F (s1.trans s5) fL ⟨kvs, e5, t5⟩ fun a => tab.rows (fun a b e => (inE a b e).1) a⟩
end
end HSP
namespace HSP
open PySem PySem.Spec PyProof.Rows L2
/-! ## distances -/
def kvI (ks : List (Nat × Nat)) : List (Key × V) := ks.map fun p => (Sum.inl (p.1 : Int), natV p.2)
/-- the entries of a row: each node that is led to with its number -/
def RowK (kvs : List (Key × V)) (f : Nat → Nat) : Prop := ∃ ks : List (Nat × Nat), kvs = kvI ks ∧ (ks.map (·.1)).Nodup ∧ ∀ b v, (b, v) ∈ ks ↔ v ≠ 0 ∧ f b = v
theorem RowK.nil : RowK [] fun _ => 0 := ⟨[], rfl, List.nodup_nil, fun _ _ => ⟨fun h => (nomatch h), fun h => absurd h.2.symm h.1⟩⟩
theorem kvI_get : ∀ {ks : List (Nat × Nat)} {b v : Nat}, (ks.map (·.1)).Nodup → (b, v) ∈ ks → valV (kvI ks) (Sum.inl (b : Int)) = some (natV v)
  | [], _, _, _, h => nomatch h
  | (x, y) :: r, b, v, nd, h => by
    rw [List.map_cons, List.nodup_cons] at nd
    show valV ((Sum.inl (x : Int), natV y) :: kvI r) _ = _
    by_cases c : x = b
    · subst c
      rw [valV_pos rfl]
      rcases List.mem_cons.mp h with e | e
      · cases e
        rfl
      · exact absurd (List.mem_map.mpr ⟨(x, v), e, rfl⟩) nd.1
    · rw [valV_neg (fun z => c (by have := Sum.inl.inj z; omega))]
      rcases List.mem_cons.mp h with e | e
      · cases e
        exact absurd rfl c
      · exact kvI_get nd.2 e
theorem kvI_none : ∀ {ks : List (Nat × Nat)} {b : Nat}, b ∉ ks.map (·.1) → valV (kvI ks) (Sum.inl (b : Int)) = none
  | [], _, _ => rfl
  | (y, v) :: r, x, h => by
    have c : ¬ y = x := fun z => h (z ▸ List.mem_cons_self)
    show valV ((Sum.inl (y : Int), natV v) :: kvI r) _ = none
    rw [valV_neg (fun z => c (by have := Sum.inl.inj z; omega))]
    exact kvI_none fun z => h (List.mem_cons_of_mem _ z)
theorem RowK.get {kvs : List (Key × V)} {f : Nat → Nat} (h : RowK kvs f) (b : Nat) : valV kvs (Sum.inl (b : Int)) = if f b = 0 then none else some (natV (f b)) := by
  obtain ⟨ks, rfl, nd, mem⟩ := h
  by_cases c : f b = 0
  · rw [if_pos c]
    refine kvI_none fun z => ?_
    obtain ⟨⟨b', v⟩, hp, rfl⟩ := List.mem_map.mp z
    have := (mem b' v).mp hp
    have c : f b' = 0 := c
    omega
  · rw [if_neg c]
    exact kvI_get nd ((mem b (f b)).mpr ⟨c, rfl⟩)
theorem RowK.getD {kvs : List (Key × V)} {f : Nat → Nat} (h : RowK kvs f) (b : Nat) : (valV kvs (Sum.inl (b : Int))).getD (V.int 0) = natV (f b) := by
  rw [h.get]
  split
  · rename_i c
    rw [c]
    rfl
  · rfl
theorem RowK.put {kvs : List (Key × V)} {f : Nat → Nat} (h : RowK kvs f) (b v : Nat) (hv : v ≠ 0) : RowK (putK kvs (Sum.inl (b : Int)) (natV v)) fun x => if x = b then v else f x := by
  have g := h.get b
  obtain ⟨ks, rfl, nd, mem⟩ := h
  by_cases c : f b = 0
  · rw [if_pos c] at g
    have nb : b ∉ ks.map (·.1) := fun z => by
      obtain ⟨⟨b', w⟩, hp, e⟩ := List.mem_map.mp z
      have e : b' = b := e
      subst e
      have := (mem b' w).mp hp
      omega
    refine ⟨ks ++ [(b, v)], ?_, ?_, fun x y => ?_⟩
    · rw [putK_new _ g]
      unfold kvI
      rw [List.map_append]
      rfl
    · rw [List.map_append]
      exact List.nodup_append.mpr ⟨nd, List.pairwise_singleton _ _, fun a ha d hd z => nb (by have hd : d = b := List.mem_singleton.mp hd; rw [← hd, ← z]; exact ha)⟩
    · show _ ↔ y ≠ 0 ∧ (if x = b then v else f x) = y
      by_cases e : x = b
      · subst e
        rw [if_pos rfl, List.mem_append, List.mem_singleton]
        constructor
        · rintro (z | z)
          · exact absurd (List.mem_map.mpr ⟨_, z, rfl⟩) nb
          · cases z
            exact ⟨hv, rfl⟩
        · rintro ⟨_, rfl⟩
          exact .inr rfl
      · rw [if_neg e, List.mem_append, List.mem_singleton, mem]
        constructor
        · rintro (z | z)
          · exact z
          · cases z
            exact absurd rfl e
        · exact .inl
  · refine ⟨ks.map fun p => if p.1 = b then (b, v) else p, ?_, ?_, fun x y => ?_⟩
    · unfold putK
      have a : ((kvI ks).any fun kv => decide (kv.1 = Sum.inl (b : Int))) = true := by
        rw [valV_any, g, if_neg c]
        rfl
      rw [if_pos a]
      unfold kvI
      rw [List.map_map, List.map_map]
      refine List.map_congr_left fun p _ => ?_
      show (if (Sum.inl (p.1 : Int) : Key) = Sum.inl (b : Int) then (Sum.inl (p.1 : Int), natV v) else (Sum.inl (p.1 : Int), natV p.2)) = (Sum.inl (((if p.1 = b then (b, v) else p).1 : Nat) : Int), natV (if p.1 = b then (b, v) else p).2)
      by_cases e : p.1 = b
      · rw [if_pos (by rw [e]), if_pos e, e]
      · rw [if_neg (fun z => e (by have := Sum.inl.inj z; omega)), if_neg e]
    · rw [List.map_map]
      have e : ks.map ((·.1) ∘ fun p : Nat × Nat => if p.1 = b then (b, v) else p) = ks.map (·.1) := List.map_congr_left fun p _ => by
        show (if p.1 = b then (b, v) else p).1 = p.1
        by_cases e : p.1 = b
        · rw [if_pos e, e]
        · rw [if_neg e]
      rw [e]
      exact nd
    · show _ ↔ y ≠ 0 ∧ (if x = b then v else f x) = y
      rw [List.mem_map]
      by_cases e : x = b
      · subst e
        rw [if_pos rfl]
        constructor
        · rintro ⟨p, hp, z⟩
          split at z
          · cases z
            exact ⟨hv, rfl⟩
          · rename_i c2
            cases z
            exact absurd rfl c2
        · rintro ⟨_, rfl⟩
          exact ⟨(x, f x), (mem _ _).mpr ⟨c, rfl⟩, if_pos rfl⟩
      · rw [if_neg e, ← mem]
        constructor
        · rintro ⟨p, hp, z⟩
          split at z
          · cases z
            exact absurd rfl e
          · rw [← z]
            exact hp
        · intro hp
          exact ⟨(x, y), hp, if_neg e⟩
theorem few_below : ∀ (n : Nat) {l : List Nat}, l.Nodup → (∀ x, x ∈ l → x < n) → l.length ≤ n
  | 0, [], _, _ => Nat.le_refl _
  | 0, a :: _, _, h => absurd (h a List.mem_cons_self) (Nat.not_lt_zero _)
  | n + 1, l, nd, h => by
    have h1 := few_below n (nd.erase n) fun x hx => by
      obtain ⟨h2, h3⟩ := nd.mem_erase_iff.mp hx
      have := h x h3
      omega
    rw [List.length_erase] at h1
    split at h1 <;> omega
theorem RowK.len {kvs : List (Key × V)} {f : Nat → Nat} {n : Nat} (h : RowK kvs f) (lt : ∀ b, f b ≠ 0 → b < n) : kvs.length ≤ n := by
  obtain ⟨ks, rfl, nd, mem⟩ := h
  have := few_below n (l := ks.map (·.1)) nd fun b hb => by
    obtain ⟨⟨b', v⟩, hp, rfl⟩ := List.mem_map.mp hb
    have := (mem b' v).mp hp
    exact lt b' (by rw [this.2]; exact this.1)
  rw [List.length_map] at this
  unfold kvI
  rw [List.length_map]
  exact this
theorem RowK.put1 {kvs : List (Key × V)} {f : Nat → Nat} (h : RowK kvs f) (m : Nat) : RowK (putK kvs (Sum.inl (m : Int)) (V.int (if (1 : Int) > (f m : Int) then 1 else (f m : Int)))) (put1 f m) := by
  have e1 : V.int (if (1 : Int) > (f m : Int) then 1 else (f m : Int)) = natV (max (f m) 1) := by
    show V.int _ = V.int _
    congr 1
    split <;> omega
  have e2 : HSP.put1 f m = fun x => if x = m then max (f m) 1 else f x := by
    funext x
    unfold HSP.put1
    by_cases c : x = m
    · rw [if_pos c, if_pos c, c]
    · rw [if_neg c, if_neg c]
  rw [e1, e2]
  exact h.put m _ (by omega)
theorem RowK.putR {kvs : List (Key × V)} {f g : Nat → Nat} {ks : List (Nat × Nat)} (nd : (ks.map (·.1)).Nodup) {k b v : Nat} (hk : ks[k]? = some (b, v)) (hv : v ≠ 0) (hg : g b = v) (h : RowK kvs (putR f g fun x => decide (x ∈ (ks.take k).map (·.1)))) :
    RowK (putK kvs (Sum.inl (b : Int)) (V.int (if 1 + (v : Int) > (HSP.putR f g (fun x => decide (x ∈ (ks.take k).map (·.1))) b : Int) then 1 + (v : Int) else (HSP.putR f g (fun x => decide (x ∈ (ks.take k).map (·.1))) b : Int)))) (HSP.putR f g fun x => decide (x ∈ (ks.take (k + 1)).map (·.1))) := by
  have out : b ∉ (ks.take k).map (·.1) := by
    rw [List.map_take]
    exact take_new nd (by rw [List.getElem?_map, hk]; rfl)
  have fb : HSP.putR f g (fun x => decide (x ∈ (ks.take k).map (·.1))) b = f b := by
    unfold HSP.putR
    rw [if_neg]
    rintro ⟨_, z⟩
    exact out (of_decide_eq_true z)
  rw [fb]
  have e1 : V.int (if 1 + (v : Int) > (f b : Int) then 1 + (v : Int) else (f b : Int)) = natV (max (f b) (1 + v)) := by
    show V.int _ = V.int _
    congr 1
    split <;> omega
  have e2 : HSP.putR f g (fun x => decide (x ∈ (ks.take (k + 1)).map (·.1))) = fun x => if x = b then max (f b) (1 + v) else HSP.putR f g (fun x => decide (x ∈ (ks.take k).map (·.1))) x := by
    funext x
    have mem : x ∈ (ks.take (k + 1)).map (·.1) ↔ x ∈ (ks.take k).map (·.1) ∨ x = b := by
      rw [List.take_add_one, hk, List.map_append, List.mem_append]
      show _ ∨ x ∈ [b] ↔ _
      rw [List.mem_singleton]
    by_cases c : x = b
    · subst c
      rw [if_pos rfl]
      unfold HSP.putR
      rw [if_pos ⟨by omega, decide_eq_true (mem.mpr (.inr rfl))⟩, hg]
    · rw [if_neg c]
      unfold HSP.putR
      have e : decide (x ∈ (ks.take (k + 1)).map (·.1)) = decide (x ∈ (ks.take k).map (·.1)) := by
        by_cases d : x ∈ (ks.take k).map (·.1)
        · rw [decide_eq_true d, decide_eq_true (mem.mpr (.inl d))]
        · rw [decide_eq_false d, decide_eq_false fun z => (mem.mp z).elim d c]
      show (if g x ≠ 0 ∧ decide (x ∈ (ks.take (k + 1)).map (·.1)) = true then _ else _) = _
      simp only [e]
  rw [e1, e2]
  exact h.put b _ (by omega)
theorem putR_none (f g : Nat → Nat) : putR f g (fun x => decide (x ∈ ([] : List Nat))) = f := by
  funext x
  unfold putR
  rw [if_neg]
  rintro ⟨_, z⟩
  cases of_decide_eq_true z
theorem putR_full {f g : Nat → Nat} {l : List Nat} (h : ∀ x, g x ≠ 0 → x ∈ l) : putR f g (fun x => decide (x ∈ l)) = putR f g fun _ => true := by
  funext x
  unfold putR
  by_cases c : g x = 0
  · rw [if_neg fun z => z.1 c, if_neg fun z => z.1 c]
  · rw [if_pos ⟨c, decide_eq_true (h x c)⟩, if_pos ⟨c, rfl⟩]
theorem nodes_few {t : Tr} {ws N : List Nat} (h : NodesW t ws N) (lt : ∀ x, x ∈ ws → x < t.size) : N.length ≤ t.size :=
  few_below t.size (h.1.imp fun {a b} z => Nat.ne_of_lt z) fun x hx => by
    rcases List.mem_append.mp ((h.2 x).mp hx) with z | z
    · exact lt x z
    · exact anc_in z
theorem down_done {N : List Nat} (h : N.Pairwise (· < ·)) {i c m : Nat} (hc : N.reverse[i]? = some c) (hm : m ∈ N) (lt : c < m) : m ∈ N.reverse.take i := by
  obtain ⟨j, hj, e⟩ := List.getElem_of_mem (List.mem_reverse.mpr hm)
  obtain ⟨hi, ei⟩ := List.getElem?_eq_some_iff.mp hc
  have hd : N.reverse.Pairwise (· > ·) := List.pairwise_reverse.mpr (h.imp fun {a b} z => z)
  have ji : j < i := by
    rcases Nat.lt_trichotomy j i with z | z | z
    · exact z
    · subst z
      omega
    · have := (List.pairwise_iff_getElem.mp hd) i j hi hj z
      omega
  have e2 : (N.reverse.take i)[j]? = some m := by
    rw [List.getElem?_take_of_lt ji, List.getElem?_eq_getElem hj, e]
  exact List.mem_of_getElem? e2
theorem pth_end {t : Tr} {ws : List Nat} (lt : ∀ x, x ∈ ws → x < t.size) {a b k : Nat} (p : Pth (EdW t ws) a b k) : b < t.size := by
  induction p with
  | one e =>
    rcases List.mem_append.mp (edge_in e).2 with z | z
    · exact lt _ z
    · exact anc_in z
  | cons _ _ ih => exact ih
theorem putR_le (f g : Nat → Nat) (p : Nat → Bool) (b : Nat) : putR f g p b ≤ putR f g (fun _ => true) b := by
  unfold putR
  by_cases c : g b ≠ 0 ∧ p b = true
  · rw [if_pos c, if_pos ⟨c.1, rfl⟩]
    exact Nat.le_refl _
  · rw [if_neg c]
    by_cases d : g b = 0
    · rw [if_neg fun z => z.1 d]
      exact Nat.le_refl _
    · rw [if_pos ⟨d, rfl⟩]
      exact Nat.le_max_left _ _
/-- sorted downwards -/
theorem down_eq : ∀ {xs ys : List Int}, xs.Perm ys → xs.Pairwise (· ≥ ·) → ys.Pairwise (· > ·) → xs = ys := fun {xs ys} p h1 h2 =>
  List.Perm.eq_of_pairwise (fun a b _ _ h1 h2 => Int.le_antisymm h2 h1) h1 (h2.imp fun {a b} z => Int.le_of_lt z) p
/-- the distances: a dict of rows that stay -/
def FarAt (H : Hp) (F : Addr) (M : List Nat) (D : Nat → Nat → Nat) : Prop := ∃ prs : List (Nat × Addr), H F = some (.dK (kvN prs)) ∧ prs.map (·.1) = M ∧ ∀ p, p ∈ prs → ∃ o kvs, H p.2 = some (.frz o (.dK kvs)) ∧ RowK kvs (D p.1)
section
variable {P : Program} {w : World} {K : PySem.W.Frag} {mg : Str → Option Value} {base : Heap}
theorem sc_distances : FnScope n_distances ["tree", "wished"] (defScope s_distances) := ⟨rfl, rfl, rfl, by decide +kernel, rfl, by decide +kernel, by decide +kernel⟩
def spDist : Sp := fun vs H Q _ => ∃ (v : V) (t : Tr) (W : Addr) (ws : List Nat), vs = [v, .ref W] ∧ TrAt H v t ∧ t.size ≤ 30 ∧ H W = some (.lst (ws.map natV)) ∧ ws.length ≤ t.size ∧ (∀ x, x ∈ ws → x < t.size) ∧
  ∀ (H' : Hp) (F : Addr) (N : List Nat) (D : Nat → Nat → Nat), Same H H' → H F = none → NodesW t ws N → AllL (EdW t ws) D → FarAt H' F N.reverse D → Q (.ref F) H'
theorem ok_dist (B : Bl mg) (Gr : Df P w K mg base "greater_nodes" 4 ["tree", "wished"] spGreater) (a : At K mg "distances" s_distances) : Df P w K mg base "distances" 5 ["tree", "wished"] spDist := by
  refine Df.mk' a sc_distances (fun vs H Q E h => ?_) (fun _ _ _ _ _ _ us hl => match us, hl with | [_, _], _ => rfl) (fun f cdv A outer s H vs Q E hr h => ?_)
  · obtain ⟨_, _, _, _, rfl, _⟩ := h
    rfl
  obtain ⟨v, t, W, ws, rfl, ht, hz, eW, lw, lt, q⟩ := h
  have zero : 0 ≤ sizeLine := Nat.zero_le _
  refine ⟨_, (pss_cons (ps_set (i := 2) sc_distances.nd rfl (.inl rfl) (pe_df Gr hr (pa_cons (pv 0) (pa_cons (pv 1) pa_nil))))
 (pss_cons (ps_set (i := 3) sc_distances.nd rfl (.inl rfl) pe_dnewK)
 (pss_cons (ps_for PassesOwn.never rfl (pi_list (pe_callBK (show CallRK _ _ _ rSortedDR from cr_sortedDR rfl) (by rfl) B.sorted (by decide +kernel) (pa_cons (pv 2) pa_nil) (pk_cons pe_bl pk_nil))) (pg_name (i := 4) sc_distances.nd rfl (.inl rfl)) (pss_cons (ps_set (i := 5) sc_distances.nd rfl (.inl rfl) pe_dnewK)
 (pss_cons (ps_for PassesOwn.never rfl (pi_list (pe_dget (hu_of hr) (pv 2) (pv 4) (fun _ _ => rfl))) (pg_name (i := 6) sc_distances.nd rfl (.inl rfl)) (pss_cons (ps_dput (hu_of hr) (pv 5) (pv 6) (pe_callB (call_max2 rfl) (by rfl) B.max (by decide +kernel) (pa_cons (pe_dget2 (hu_of hr) (pv 5) (pv 6) pe_int ⟨rfl, rfl, rfl, rfl⟩) (pa_cons pe_int pa_nil))) (by rfl))
 (pss_one (ps_for PassesOwn.never rfl (pi_items (pe_dget (hu_of hr) (pv 3) (pv 6) (fun _ _ => rfl))) (pg_tup rfl (pgs_cons (pg_name (i := 7) sc_distances.nd rfl (.inl rfl)) (pgs_cons (pg_name (i := 8) sc_distances.nd rfl (.inl rfl)) pgs_nil))) (pss_one (ps_dput (hu_of hr) (pv 5) (pv 7) (pe_callB (call_max2 rfl) (by rfl) B.max (by decide +kernel) (pa_cons (pe_dget2 (hu_of hr) (pv 5) (pv 7) pe_int ⟨rfl, rfl, rfl, rfl⟩) (pa_cons (pe_op op_add pe_int (pv 8)) pa_nil))) (by rfl)))))))
 (pss_one (ps_dput (hu_of hr) (pv 3) (pv 4) (pe_lockD (pv 5)) (by rfl))))))
 (pss_one (ps_ret (pv 3)))))), ?_⟩
  refine ⟨_, rfl, _, rfl, v, t, W, ws, rfl, ht, hz, eW, lw, lt, fun H1 G N s1 nG hN gG => ?_⟩
  obtain ⟨prs, eG, kG, ndA, lG⟩ := gG
  refine fun F hF => ?_
  have sF := Same.new (o := .dK []) hF
  have fF : H F = none := s1.free hF
  have lN : N.length ≤ t.size := nodes_few hN lt
  have lprs : prs.length = N.length := by rw [← kG, List.length_map]
  refine ⟨_, rfl, G, kvN prs, N.map Int.ofNat, rfl, rfl, .of (sF _ _ eG), ?_, ?_, fun ys S perm desc hS => ?_⟩
  · rw [← kG]
    unfold kvN
    rw [List.map_map, List.map_map, List.map_map]
    rfl
  · rw [List.length_map]
    omega
  have ndN : N.Nodup := hN.1.imp fun {a b} z => Nat.ne_of_lt z
  obtain rfl : ys = N.reverse.map Int.ofNat := down_eq (perm.trans ((List.reverse_perm N).symm.map _)) desc (by
    rw [List.pairwise_map, List.pairwise_reverse]
    exact hN.1.imp fun {a b} z => Int.ofNat_lt.mpr z)
  have eS : (upd (upd H1 F (.dK [])) S (.lst ((N.reverse.map Int.ofNat).map V.int))) S = some (.lst (N.reverse.map natV)) := by
    rw [upd_same, List.map_map]
    rfl
  have eF : (upd (upd H1 F (.dK [])) S (.lst ((N.reverse.map Int.ofNat).map V.int))) F = some (.dK []) := Same.new hS _ _ upd_same
  have s2 := sF.trans (Same.new (o := .lst ((N.reverse.map Int.ofNat).map V.int)) hS)
  generalize upd (upd H1 F (.dK [])) S (.lst ((N.reverse.map Int.ofNat).map V.int)) = H2 at eS eF s2 ⊢
  refine ⟨S, rfl, ⟨_, .of eS⟩, ?_⟩
  refine for_it (walk_list (K := K) (a := S) (xs := N.reverse.map natV)) (fun i σ H' => (∃ y4 y5 y6 y7 y8 : Option V, σ = [some v, some (.ref W), some (.ref G), some (.ref F), y4, y5, y6, y7, y8]) ∧ Same H1 H' ∧ H' S = some (.lst (N.reverse.map natV)) ∧ ∃ D, FarAt H' F (N.reverse.take i) D ∧ ∀ a, a ∈ N.reverse.take i → RowL (EdW t ws) a (D a)) ⟨⟨_, _, _, _, _, rfl⟩, s2, eS, fun _ _ => 0, ⟨[], eF, rfl, fun _ h => (nomatch h)⟩, fun _ h => nomatch h⟩ (fun i σ H' _ h' => .of h'.2.2.1) (fun i x σ H3 H4 hi h3 hy => ?_) (fun σ H3 h3 => ?_)
  · obtain ⟨⟨y4, y5, y6, y7, y8, rfl⟩, s3, e3, D, ⟨qrs, eq3, kq, rq⟩, rowD⟩ := h3
    obtain ⟨rfl, hx⟩ := hy
    rw [List.getElem?_map] at hx
    obtain ⟨c, hc, rfl⟩ := Option.map_eq_some_iff.mp hx
    have cN : c ∈ N := List.mem_reverse.mp (List.mem_of_getElem? hc)
    have cout : c ∉ N.reverse.take i := take_new (List.pairwise_reverse.mpr (ndN.imp fun {a b} z => Ne.symm z)) hc
    obtain ⟨ag, hag, vag⟩ := kvN_get (prs := prs) (x := c) (by rw [kG]; exact cN)
    have eag := s3 _ _ (lG _ hag)
    have eG3 := s3 _ _ eG
    have later : ∀ m, EdW t ws c m → m ∈ N.reverse.take i := fun m hm => down_done hN.1 hc ((hN.2 m).mpr (edge_in hm).2) (edge_up lt _ _ hm)
    refine fun St hSt => ?_
    have sSt := Same.new (o := .dK []) hSt
    refine ⟨_, rfl, _, rfl, G, _, rfl, .inl ⟨kvN prs, Sum.inl (c : Int), .inl (sSt _ _ eG3), rfl, vag.symm⟩, ?_⟩
    refine ⟨ag, rfl, ⟨_, .of (sSt _ _ eag)⟩, ?_⟩
    have eSt : (upd H4 St (.dK [])) St = some (.dK []) := upd_same
    generalize upd H4 St (.dK []) = H5 at sSt eSt ⊢
    refine for_it (walk_list (K := K) (a := ag) (xs := (grE (edgesW t ws) c).map natV)) (fun j σ H' => (∃ y6 y7 y8 : Option V, σ = [some v, some (.ref W), some (.ref G), some (.ref F), some (natV c), some (.ref St), y6, y7, y8]) ∧ Same H4 H' ∧ ∃ kvs f, H' St = some (.dK kvs) ∧ RowK kvs f ∧ RowS (EdW t ws) c f ((grE (edgesW t ws) c).take j)) ⟨⟨_, _, _, rfl⟩, sSt, [], fun _ => 0, eSt, .nil, RowS.nil _ _⟩ (fun j σ H' _ h' => .of (h'.2.1 _ _ eag)) (fun j x σ H6 H7 hj h6 hy => ?_) (fun σ H6 h6 => ?_)
    · obtain ⟨⟨y6, y7, y8, rfl⟩, s6, kvs, f1, e6, r6, w6⟩ := h6
      obtain ⟨rfl, hx2⟩ := hy
      rw [List.getElem?_map] at hx2
      obtain ⟨m, hm, rfl⟩ := Option.map_eq_some_iff.mp hx2
      have em : EdW t ws c m := grE_mem.mp (List.mem_of_getElem? hm)
      have mdone := later m em
      obtain ⟨am, ham, vam⟩ := kvN_get (prs := qrs) (x := m) (by rw [kq]; exact mdone)
      obtain ⟨om, kvm, eam, rm⟩ := rq _ ham
      have gm := rowD m mdone
      obtain ⟨ks, rfl, ndk, memk⟩ := rm
      have small : ∀ b, f1 b ≠ 0 → b < t.size := fun b hb => by
        exact pth_end lt (w6.1 b hb)
      have lk : kvs.length ≤ t.size := r6.len small
      refine ⟨_, rfl, St, rfl, .inl ⟨_, .inl e6⟩, _, rfl, _, .inl ⟨kvs, Sum.inl (m : Int), .inl e6, rfl, rfl⟩, (f1 m : Int), 1, ?_, ?_⟩
      · rw [r6.getD]
        rfl
      refine ⟨_, rfl, _, rfl, St, _, rfl, DPut.k (k := Sum.inl (m : Int)) e6 (small1000 (by omega)), ?_⟩
      have stay : ∀ {H' : Hp} {u : HO}, Same H4 H' → Same H4 (upd H' St u) := fun {H' u} s b o eb => by
        rw [upd_ne (ne_of_none eb hSt)]
        exact s _ _ eb
      have s7 := stay (u := .dK (putK kvs (Sum.inl (m : Int)) (V.int (if (1 : Int) > (f1 m : Int) then 1 else (f1 m : Int))))) s6
      have e7 : (upd H7 St (.dK (putK kvs (Sum.inl (m : Int)) (V.int (if (1 : Int) > (f1 m : Int) then 1 else (f1 m : Int)))))) St = some (.dK (putK kvs (Sum.inl (m : Int)) (V.int (if (1 : Int) > (f1 m : Int) then 1 else (f1 m : Int))))) := upd_same
      have r7 := r6.put1 m
      generalize upd H7 St (.dK (putK kvs (Sum.inl (m : Int)) (V.int (if (1 : Int) > (f1 m : Int) then 1 else (f1 m : Int))))) = H8 at s7 e7 ⊢
      generalize putK kvs (Sum.inl (m : Int)) (V.int (if (1 : Int) > (f1 m : Int) then 1 else (f1 m : Int))) = kvs7 at e7 r7
      have more := w6.more em gm
      refine ⟨_, rfl, _, rfl, F, _, rfl, .inl ⟨kvN qrs, Sum.inl (m : Int), .inl (s7 _ _ eq3), rfl, vam.symm⟩, ?_⟩
      refine ⟨am, om, kvI ks, rfl, s7 _ _ eam, ?_⟩
      have lks : ∀ b, putR (put1 f1 m) (D m) (fun _ => true) b ≠ 0 → b < t.size := fun b hb => pth_end lt (more.1 b hb)
      refine for_it (walk_items (d := am) (o := om) (kvs := kvI ks)) (fun k σ H' => (∃ y7 y8 : Option V, σ = [some v, some (.ref W), some (.ref G), some (.ref F), some (natV c), some (.ref St), some (natV m), y7, y8]) ∧ Same H4 H' ∧ ∃ kvs, H' St = some (.dK kvs) ∧ RowK kvs (putR (put1 f1 m) (D m) fun x => decide (x ∈ (ks.take k).map (·.1)))) ⟨⟨_, _, rfl⟩, s7, kvs7, e7, by rw [show (fun x => decide (x ∈ (ks.take 0).map (·.1))) = fun x => decide (x ∈ ([] : List Nat)) from rfl, putR_none]; exact r7⟩ (fun k σ H' _ h' => h'.2.1 _ _ eam) (fun k x σ H9 H10 hk h9 hy => ?_) (fun σ H9 h9 => ?_)
      · obtain ⟨⟨y7, y8, rfl⟩, s9, kvs9, e9, r9⟩ := h9
        obtain ⟨T, x1, x2, rfl, nT, rfl, g1, g2⟩ := hy
        rw [show (kvI ks).length = ks.length from List.length_map _] at hk
        obtain ⟨⟨b, vb⟩, hb⟩ : ∃ z, ks[k]? = some z := ⟨_, List.getElem?_eq_getElem hk⟩
        have hkv : (kvI ks)[k]? = some (Sum.inl (b : Int), natV vb) := by
          unfold kvI
          rw [List.getElem?_map, hb]
          rfl
        have g1 : ((kvI ks)[k]?.map fun kv => kV kv.1) = some x1 := g1
        have g2 : (kvI ks)[k]?.map Prod.snd = some x2 := g2
        rw [hkv] at g1 g2
        cases g1
        cases g2
        have mb := (memk b vb).mp (List.mem_of_getElem? hb)
        have sT := Same.new (o := .tup [natV b, natV vb]) nT
        have nSt : T ≠ St := (ne_of_none e9 nT).symm
        have e10 := sT _ _ e9
        have s10 := s9.trans sT
        refine ⟨T, _, rfl, .of upd_same, rfl, _, _, rfl, _, [], rfl, rfl, ?_⟩
        have l9 : kvs9.length ≤ t.size := r9.len fun b hb => lks b (by
          intro z
          apply hb
          have := putR_le (put1 f1 m) (D m) (fun x => decide (x ∈ (ks.take k).map (·.1))) b
          omega)
        refine ⟨_, rfl, St, rfl, .inl ⟨_, .inl e10⟩, _, rfl, _, .inl ⟨kvs9, Sum.inl (b : Int), .inl e10, rfl, rfl⟩, _, rfl, 1, (vb : Int), rfl, rfl, ((putR (put1 f1 m) (D m) (fun x => decide (x ∈ (ks.take k).map (·.1))) b : Nat) : Int), 1 + (vb : Int), ?_, ?_⟩
        · exact congrArg (fun z => [z, V.int (1 + (vb : Int))]) (r9.getD b)
        refine ⟨_, rfl, _, rfl, St, _, rfl, DPut.k (k := Sum.inl (b : Int)) e10 (small1000 (by omega)), ⟨_, _, rfl⟩, stay s10, _, upd_same, r9.putR ndk hb mb.1 mb.2⟩
      · obtain ⟨⟨y7, y8, rfl⟩, s9, kvs9, e9, r9⟩ := h9
        rw [show (kvI ks).length = ks.length from List.length_map _, List.take_length, putR_full fun x hx => List.mem_map.mpr ⟨(x, D m x), (memk _ _).mpr ⟨hx, rfl⟩, rfl⟩] at r9
        refine ⟨⟨_, _, _, rfl⟩, s9, kvs9, _, e9, r9, ?_⟩
        rw [List.take_add_one, hm]
        exact more
    · obtain ⟨⟨y6, y7, y8, rfl⟩, s6, kvs, f1, e6, r6, w6⟩ := h6
      rw [List.length_map, List.take_length] at w6
      have row := w6.row fun m em => grE_mem.mpr em
      refine ⟨_, rfl, St, kvs, rfl, e6, fun o => ?_⟩
      have stF : St ≠ F := (ne_of_none eq3 hSt).symm
      have s7 : Same H4 (upd H6 St (.frz o (.dK kvs))) := fun b u eb => by
        rw [upd_ne (ne_of_none eb hSt)]
        exact s6 _ _ eb
      have e7 : (upd H6 St (.frz o (.dK kvs))) St = some (.frz o (.dK kvs)) := upd_same
      generalize upd H6 St (.frz o (.dK kvs)) = H7 at s7 e7 ⊢
      have fSt : H1 St = none := s3.free hSt
      have lq : (kvN qrs).length < sizeLine := by
        have l1 : qrs.length = (N.reverse.take i).length := by rw [← kq, List.length_map]
        have l2 : (N.reverse.take i).length ≤ N.length := by rw [List.length_take, List.length_reverse]; omega
        unfold kvN
        rw [List.length_map]
        exact small1000 (by omega)
      refine ⟨_, rfl, _, rfl, F, _, rfl, DPut.k (k := Sum.inl (c : Int)) (s7 _ _ eq3) lq, ⟨_, _, _, _, _, rfl⟩, fun b u eb => ?_, ?_, fun x => if x = c then f1 else D x, ⟨qrs ++ [(c, St)], ?_, ?_, fun p hp => ?_⟩, fun x hx => ?_⟩
      · rw [upd_ne (ne_of_none eb hF)]
        exact s7 _ _ (s3 _ _ eb)
      · rw [upd_ne (fun z => by rw [z, eq3] at e3; cases e3)]
        exact s7 _ _ e3
      · rw [upd_same, putK_new _ (kvN_none (by rw [kq]; exact cout))]
        unfold kvN
        rw [List.map_append]
        rfl
      · rw [List.map_append, kq, List.take_add_one, hc]
        rfl
      · rcases List.mem_append.mp hp with hp | hp
        · obtain ⟨o2, kv2, ep, rp⟩ := rq p hp
          refine ⟨o2, kv2, ?_, ?_⟩
          · rw [upd_ne (fun z => by rw [z, eq3] at ep; cases ep)]
            exact s7 _ _ ep
          · show RowK kv2 (if p.1 = c then f1 else D p.1)
            rw [if_neg fun z : p.1 = c => cout (by rw [← z, ← kq]; exact List.mem_map.mpr ⟨p, hp, rfl⟩)]
            exact rp
        · rw [List.mem_singleton.mp hp]
          refine ⟨o, kvs, ?_, ?_⟩
          · rw [upd_ne stF]
            exact e7
          · show RowK kvs (if c = c then f1 else D c)
            rw [if_pos rfl]
            exact r6
      · rw [List.take_add_one, hc] at hx
        show RowL (EdW t ws) x (if x = c then f1 else D x)
        by_cases e : x = c
        · subst e
          rw [if_pos rfl]
          exact row
        · rw [if_neg e]
          rcases List.mem_append.mp hx with hx | hx
          · exact rowD x hx
          · exact absurd (List.mem_singleton.mp hx) e
  · obtain ⟨⟨y4, y5, y6, y7, y8, rfl⟩, s3, e3, D, ⟨qrs, eq3, kq, rq⟩, rowD⟩ := h3
    rw [List.length_map, List.take_length] at kq rowD
    refine ⟨_, rfl, q _ _ N (fun x => if x ∈ N then D x else fun _ => 0) (s1.trans s3) fF hN (fun a => ?_) ⟨qrs, eq3, kq, fun p hp => ?_⟩⟩
    · show RowL (EdW t ws) a (if a ∈ N then D a else fun _ => 0)
      by_cases c : a ∈ N
      · rw [if_pos c]
        exact rowD a (List.mem_reverse.mpr c)
      · rw [if_neg c]
        refine ⟨fun b hb => absurd rfl hb, fun b k p => absurd ?_ c⟩
        cases p with
        | one e => exact (hN.2 _).mpr (edge_in e).1
        | cons e _ => exact (hN.2 _).mpr (edge_in e).1
    · obtain ⟨o2, kv2, ep, rp⟩ := rq p hp
      refine ⟨o2, kv2, ep, ?_⟩
      show RowK kv2 (if p.1 ∈ N then D p.1 else fun _ => 0)
      rw [if_pos (List.mem_reverse.mp (by rw [← kq]; exact List.mem_map.mpr ⟨p, hp, rfl⟩))]
      exact rp
end
end HSP
namespace HSP
open PySem PySem.Spec PyProof.Rows L2
/-! ## conflicts -/
/-- the nodes in conflict behind a node, rising -/
def confOf (D : Nat → Nat → Nat) (v : Nat → Int) (n a : Nat) : List Nat := (List.range n).filter fun b => decide (D a b ≠ 0) && decide (v b < v a + (D a b : Int))
theorem confOf_mem {D : Nat → Nat → Nat} {v : Nat → Int} {n a b : Nat} : b ∈ confOf D v n a ↔ b < n ∧ D a b ≠ 0 ∧ v b < v a + (D a b : Int) := by
  unfold confOf
  rw [List.mem_filter, List.mem_range, Bool.and_eq_true, decide_eq_true_iff, decide_eq_true_iff]
def RowsW (H : Hp) (R : Addr) (M : List Nat) (row : Nat → List Nat) : Prop := ∃ prs : List (Nat × Addr), H R = some (.dK (kvN prs)) ∧ prs.map (·.1) = M ∧ ∀ p, p ∈ prs → H p.2 = some (.lst ((row p.1).map natV))
/-- the sorted keys of a row of distances -/
theorem rowK_sorted {kvs : List (Key × V)} {f : Nat → Nat} (h : RowK kvs f) {n : Nat} (lt : ∀ b, f b ≠ 0 → b < n) : ∃ ks : List (Nat × Nat), kvs = kvI ks ∧ ∀ ys : List Int, ys.Perm (ks.map fun p => (p.1 : Int)) → ys.Pairwise (· ≤ ·) → ys = ((List.range n).filter fun b => decide (f b ≠ 0)).map Int.ofNat := by
  obtain ⟨ks, rfl, nd, mem⟩ := h
  refine ⟨ks, rfl, fun ys perm up => ?_⟩
  have p1 : (ks.map (·.1)).Perm ((List.range n).filter fun b => decide (f b ≠ 0)) := by
    refine (List.perm_ext_iff_of_nodup nd (List.nodup_range.filter _)).mpr fun b => ?_
    rw [List.mem_filter, List.mem_range, decide_eq_true_iff]
    constructor
    · intro hb
      obtain ⟨⟨b', v⟩, hp, rfl⟩ := List.mem_map.mp hb
      have := (mem b' v).mp hp
      have nz : f b' ≠ 0 := by rw [this.2]; exact this.1
      exact ⟨lt b' nz, nz⟩
    · rintro ⟨_, nz⟩
      exact List.mem_map.mpr ⟨(b, f b), (mem _ _).mpr ⟨nz, rfl⟩, rfl⟩
  have p2 : ys.Perm (((List.range n).filter fun b => decide (f b ≠ 0)).map Int.ofNat) := by
    refine perm.trans ?_
    have := p1.map Int.ofNat
    rw [List.map_map] at this
    exact this
  refine List.Perm.eq_of_pairwise (fun a b _ _ h1 h2 => Int.le_antisymm h1 h2) up ?_ p2
  rw [List.pairwise_map]
  exact (List.pairwise_lt_range.filter _).imp fun {a b} z => Int.ofNat_le.mpr (Nat.le_of_lt z)
section
variable {P : Program} {w : World} {K : PySem.W.Frag} {mg : Str → Option Value} {base : Heap}
theorem sc_conflicts : FnScope n_conflicts ["tree", "values", "wished"] (defScope s_conflicts) := ⟨rfl, rfl, rfl, by decide +kernel, rfl, by decide +kernel, by decide +kernel⟩
def spConf : Sp := fun vs H Q _ => ∃ (v : V) (t : Tr) (a W : Addr) (ns : List Int) (ws : List Nat), vs = [v, .ref a, .ref W] ∧ TrAt H v t ∧ t.size ≤ 30 ∧ H a = some (.lst (ns.map V.int)) ∧ ns.length = t.size ∧ H W = some (.lst (ws.map natV)) ∧ ws.length ≤ t.size ∧ (∀ x, x ∈ ws → x < t.size) ∧
  ∀ (H' : Hp) (R : Addr) (N : List Nat) (D : Nat → Nat → Nat), Same H H' → H R = none → NodesW t ws N → AllL (EdW t ws) D → RowsW H' R N.reverse (confOf D (valAt ns) t.size) → Q (.ref R) H'
theorem ok_conf (B : Bl mg) (Di : Df P w K mg base "distances" 5 ["tree", "wished"] spDist) (a : At K mg "conflicts" s_conflicts) : Df P w K mg base "conflicts" 6 ["tree", "values", "wished"] spConf := by
  refine Df.mk' a sc_conflicts (fun vs H Q E h => ?_) (fun _ _ _ _ _ _ us hl => match us, hl with | [_, _, _], _ => rfl) (fun f cdv A outer s H vs Q E hr h => ?_)
  · obtain ⟨_, _, _, _, _, _, rfl, _⟩ := h
    rfl
  obtain ⟨v, t, av, W, ns, ws, rfl, ht, hz, ea, la, eW, lw, lt, q⟩ := h
  refine ⟨_, (pss_cons (ps_set (i := 3) sc_conflicts.nd rfl (.inl rfl) pe_dnewK)
 (pss_cons (ps_for PassesOwn.never rfl (pi_items (pe_lockD (pe_df Di hr (pa_cons (pv 0) (pa_cons (pv 2) pa_nil))))) (pg_tup rfl (pgs_cons (pg_name (i := 4) sc_conflicts.nd rfl (.inr rfl)) (pgs_cons (pg_name (i := 5) sc_conflicts.nd rfl (.inr rfl)) pgs_nil))) (pss_one (ps_dput (hu_of hr) (pv 3) (pv 4) (pe_lc (own := [("other", 6)]) (g := (gName 6)) (by rfl) sc_conflicts.nd (pi_list (pe_callB (call_sortedDI rfl) (by rfl) B.sorted (by decide +kernel) (pa_cons (pv 5) pa_nil))) (blkOk_by (N := n_conflicts) (sc := defScope s_conflicts) (by decide +kernel)) (fun _ _ _ _ _ => (pg_name (i := 6) sc_conflicts.nd rfl (.inl rfl))) (fun _ _ _ _ _ => (pts_one (pt_cmpR op_lt (pe_ix (show IxR _ (rIxL K) from ix_list) (pv 1) (pv 6) (fun _ _ => rfl)) (pe_op op_add (pe_ix (show IxR _ (rIxL K) from ix_list) (pv 1) (pv 4) (fun _ _ => rfl)) (pe_dget (hu_of hr) (pv 5) (pv 6) (fun _ _ => rfl))) (nomark _)))) (fun _ _ _ _ _ => (pv 6))) (by rfl))))
 (pss_one (ps_ret (pv 3))))), ?_⟩
  refine fun R hR => ?_
  have sR := Same.new (o := .dK []) hR
  refine ⟨_, rfl, _, rfl, v, t, W, ws, rfl, ht.same sR, hz, sR _ _ eW, lw, lt, fun H1 F N D s1 nF hN aD fF => ?_⟩
  obtain ⟨prs, eF, kF, rF⟩ := fF
  refine ⟨F, kvN prs, rfl, eF, fun o => ?_⟩
  have fr0 : H F = none := sR.free nF
  have eR1 : H1 R = some (.dK []) := s1 _ _ upd_same
  have nRF : R ≠ F := fun z => by rw [← z, upd_same] at nF; cases nF
  have s01 := sR.trans s1
  have lN : N.length ≤ t.size := nodes_few hN lt
  have ndN : N.Nodup := hN.1.imp fun {a b} z => Nat.ne_of_lt z
  have lp : prs.length = N.length := by
    have := congrArg List.length kF
    rw [List.length_map, List.length_reverse] at this
    exact this
  have s2 : Same H (upd H1 F (.frz o (.dK (kvN prs)))) := fun b u eb => by
    rw [upd_ne (ne_of_none eb fr0)]
    exact s01 _ _ eb
  have eF2 : (upd H1 F (.frz o (.dK (kvN prs)))) F = some (.frz o (.dK (kvN prs))) := upd_same
  have eR2 : (upd H1 F (.frz o (.dK (kvN prs)))) R = some (.dK []) := by
    rw [upd_ne nRF]
    exact eR1
  have rF2 : ∀ p, p ∈ prs → ∃ o2 kvs, (upd H1 F (.frz o (.dK (kvN prs)))) p.2 = some (.frz o2 (.dK kvs)) ∧ RowK kvs (D p.1) := fun p hp => by
    obtain ⟨o2, kvs, e, r⟩ := rF p hp
    exact ⟨o2, kvs, by rw [upd_ne fun z => by rw [z, eF] at e; cases e]; exact e, r⟩
  generalize upd H1 F (.frz o (.dK (kvN prs))) = H2 at s2 eF2 eR2 rF2 ⊢
  refine ⟨F, o, kvN prs, rfl, eF2, ?_⟩
  refine for_it (walk_items (d := F) (o := o) (kvs := kvN prs)) (fun i σ H' => (∃ y4 y5 y6 : Option V, σ = [some v, some (.ref av), some (.ref W), some (.ref R), y4, y5, y6]) ∧ Same H H' ∧ H' F = some (.frz o (.dK (kvN prs))) ∧ (∀ p, p ∈ prs → ∃ o2 kvs, H' p.2 = some (.frz o2 (.dK kvs)) ∧ RowK kvs (D p.1)) ∧ RowsW H' R (N.reverse.take i) (confOf D (valAt ns) t.size)) ⟨⟨_, _, _, rfl⟩, s2, eF2, rF2, [], eR2, rfl, fun _ h => nomatch h⟩ (fun i σ H' _ h' => h'.2.2.1) (fun i x σ H3 H4 hi h3 hy => ?_) (fun σ H3 h3 => ?_)
  · obtain ⟨⟨y4, y5, y6, rfl⟩, s3, eF3, rF3, qrs, eR3, kR3, rR3⟩ := h3
    obtain ⟨T, x1, x2, rfl, nT, rfl, g1, g2⟩ := hy
    rw [show (kvN prs).length = prs.length from List.length_map _] at hi
    obtain ⟨⟨c, Sa⟩, hb⟩ : ∃ z, prs[i]? = some z := ⟨_, List.getElem?_eq_getElem hi⟩
    have hkv : (kvN prs)[i]? = some (Sum.inl (c : Int), V.ref Sa) := by
      unfold kvN
      rw [List.getElem?_map, hb]
      rfl
    have g1 : ((kvN prs)[i]?.map fun kv => kV kv.1) = some x1 := g1
    have g2 : (kvN prs)[i]?.map Prod.snd = some x2 := g2
    rw [hkv] at g1 g2
    obtain rfl : natV c = x1 := Option.some.inj g1
    obtain rfl : V.ref Sa = x2 := Option.some.inj g2
    have cN : N.reverse[i]? = some c := by rw [← kF, List.getElem?_map, hb]; rfl
    have cs : c < t.size := by
      rcases List.mem_append.mp ((hN.2 c).mp (List.mem_reverse.mp (List.mem_of_getElem? cN))) with z | z
      · exact lt c z
      · exact anc_in z
    have cout : c ∉ N.reverse.take i := take_new (List.pairwise_reverse.mpr (ndN.imp fun {a b} z => Ne.symm z)) cN
    obtain ⟨o2, kvs, eSa, rk⟩ : ∃ o2 kvs, H3 Sa = some (.frz o2 (.dK kvs)) ∧ RowK kvs (D c) := rF3 _ (List.mem_of_getElem? hb)
    have ltD : ∀ b, D c b ≠ 0 → b < t.size := fun b hb => pth_end lt ((aD c).1 b hb)
    have lk : kvs.length ≤ t.size := rk.len ltD
    have rk' := rk
    obtain ⟨ks, rfl, srt⟩ := rowK_sorted rk ltD
    have sT := Same.new (o := .tup [natV c, V.ref Sa]) nT
    refine ⟨T, _, rfl, .of upd_same, rfl, _, _, rfl, _, [], rfl, rfl, ?_⟩
    refine ⟨_, rfl, Sa, kvI ks, ks.map (fun p => (p.1 : Int)), rfl, .inr ⟨o2, sT _ _ eSa⟩, ?_, ?_, fun ys S perm up hS => ?_⟩
    · unfold kvI
      rw [List.map_map, List.map_map]
      rfl
    · unfold kvI at lk
      rw [List.length_map] at lk
      rw [List.length_map]
      omega
    obtain rfl := srt ys perm up
    have sS := Same.new (o := .lst ((((List.range t.size).filter fun b => decide (D c b ≠ 0)).map Int.ofNat).map V.int)) hS
    have eS : (upd (upd H3 T (.tup [natV c, V.ref Sa])) S (.lst ((((List.range t.size).filter fun b => decide (D c b ≠ 0)).map Int.ofNat).map V.int))) S = some (.lst (((List.range t.size).filter fun b => decide (D c b ≠ 0)).map natV)) := by
      rw [upd_same, List.map_map]
      rfl
    have s5 := sT.trans sS
    generalize upd (upd H3 T (.tup [natV c, V.ref Sa])) S (.lst ((((List.range t.size).filter fun b => decide (D c b ≠ 0)).map Int.ofNat).map V.int)) = H5 at s5 eS ⊢
    refine ⟨S, rfl, ⟨_, .of eS⟩, fun L hL => ?_⟩
    have eL : (upd H5 L (.lst [])) L = some (.lst []) := upd_same
    have sL := Same.new (o := .lst []) hL
    refine lc_it (walk_list (K := K) (a := S) (xs := ((List.range t.size).filter fun b => decide (D c b ≠ 0)).map natV)) (fun j H' => Same H5 H' ∧ H' L = some (.lst (((((List.range t.size).filter fun b => decide (D c b ≠ 0)).take j).filter fun b => decide (valAt ns b < valAt ns c + (D c b : Int))).map natV))) ⟨sL, eL⟩ (fun j H' _ h' => .of (h'.1 _ _ eS)) (fun j x H6 H7 hj h6 hy => ?_) (fun H6 h6 => ?_)
    · obtain ⟨s6, e6⟩ := h6
      obtain ⟨rfl, hx2⟩ := hy
      rw [List.getElem?_map] at hx2
      obtain ⟨b, hb2, rfl⟩ := Option.map_eq_some_iff.mp hx2
      have bin := List.mem_filter.mp (List.mem_of_getElem? hb2)
      have bs : b < t.size := List.mem_range.mp bin.1
      have bD : D c b ≠ 0 := of_decide_eq_true bin.2
      have s7 := s5.trans s6
      have ea7 := s7 _ _ (s3 _ _ ea)
      have few : (((List.range t.size).filter fun b => decide (D c b ≠ 0)).take j).length ≤ t.size := by
        rw [List.length_take]
        have := List.length_filter_le (fun b => decide (D c b ≠ 0)) (List.range t.size)
        rw [List.length_range] at this
        omega
      refine ⟨rfl, ?_⟩
      refine ⟨_, rfl, _, rfl, av, _, _, _, rfl, rfl, .of ea7, atI_nat (valAt_get (by omega)), _, rfl, _, rfl, av, _, _, _, rfl, rfl, .of ea7, atI_nat (valAt_get (by omega)), _, rfl, _, rfl, Sa, _, rfl, .inl ⟨kvI ks, Sum.inl (b : Int), .inr ⟨o2, s7 _ _ eSa⟩, rfl, by rw [rk'.get, if_neg bD]⟩, ?_⟩
      have next : ((((List.range t.size).filter fun b => decide (D c b ≠ 0)).take (j + 1)).filter fun b => decide (valAt ns b < valAt ns c + (D c b : Int))) = ((((List.range t.size).filter fun b => decide (D c b ≠ 0)).take j).filter fun b => decide (valAt ns b < valAt ns c + (D c b : Int))) ++ [b].filter fun b => decide (valAt ns b < valAt ns c + (D c b : Int)) := by
        rw [List.take_add_one, hb2, List.filter_append]
        rfl
      refine ⟨_, _, rfl, rfl, _, _, rfl, rfl, _, rfl, ?_⟩
      by_cases lc : valAt ns b < valAt ns c + (D c b : Int)
      · rw [decide_eq_true lc]
        refine iteT ?_
        refine ⟨_, rfl, _, e6, ?_, fun x u eb => ?_, ?_⟩
        · have := List.length_filter_le (fun b => decide (valAt ns b < valAt ns c + (D c b : Int))) (((List.range t.size).filter fun b => decide (D c b ≠ 0)).take j)
          rw [List.length_map]
          exact small1000 (by omega)
        · rw [upd_ne (ne_of_none eb hL)]
          exact s6 _ _ eb
        · rw [upd_same, next, List.filter_cons, if_pos (decide_eq_true lc), List.filter_nil, List.map_append]
          rfl
      · rw [decide_eq_false lc]
        refine iteF ?_
        refine ⟨s6, ?_⟩
        rw [next, List.filter_cons, if_neg (by rw [decide_eq_false lc]; decide), List.filter_nil, List.append_nil]
        exact e6
    · obtain ⟨s6, e6⟩ := h6
      rw [List.length_map, List.take_length, List.filter_filter] at e6
      have s36 := s5.trans s6
      have e6 : H6 L = some (.lst ((confOf D (valAt ns) t.size c).map natV)) := by
        rw [e6]
        unfold confOf
        congr 3
        refine List.filter_congr fun b _ => ?_
        rw [Bool.and_comm]
      have nLR : L ≠ R := fun z => by rw [z, s5 _ _ eR3] at hL; cases hL
      have lq : (kvN qrs).length < sizeLine := by
        have l1 := congrArg List.length kR3
        rw [List.length_map, List.length_take, List.length_reverse] at l1
        unfold kvN
        rw [List.length_map]
        exact small1000 (by omega)
      refine ⟨_, rfl, _, rfl, R, _, rfl, DPut.k (k := Sum.inl (c : Int)) (s36 _ _ eR3) lq, ⟨_, _, _, rfl⟩, fun b u eb => ?_, ?_, fun p hp => ?_, qrs ++ [(c, L)], ?_, ?_, fun p hp => ?_⟩
      · rw [upd_ne (ne_of_none eb hR)]
        exact s36 _ _ (s3 _ _ eb)
      · rw [upd_ne (fun z => by rw [z, eR3] at eF3; cases eF3)]
        exact s36 _ _ eF3
      · obtain ⟨o3, kv3, e, r⟩ := rF3 p hp
        refine ⟨o3, kv3, ?_, r⟩
        rw [upd_ne (fun z => by rw [z, eR3] at e; cases e)]
        exact s36 _ _ e
      · rw [upd_same, putK_new _ (kvN_none (by rw [kR3]; exact cout))]
        unfold kvN
        rw [List.map_append]
        rfl
      · rw [List.map_append, kR3, List.take_add_one, cN]
        rfl
      · rcases List.mem_append.mp hp with hp | hp
        · have e := rR3 p hp
          rw [upd_ne (fun z => by rw [z, eR3] at e; cases e)]
          exact s36 _ _ e
        · rw [List.mem_singleton.mp hp, upd_ne nLR]
          exact e6
  · obtain ⟨⟨y4, y5, y6, rfl⟩, s3, eF3, rF3, rows⟩ := h3
    rw [show (kvN prs).length = N.reverse.length from by rw [List.length_reverse, ← lp]; exact List.length_map _, List.take_length] at rows
    exact ⟨_, rfl, q _ _ N D s3 hR hN aD rows⟩
end
end HSP
set_option maxHeartbeats 2000000
namespace HSP
open PySem PySem.Spec PyProof.Rows L2
/-! ### try: body, except (A, B) as n: suite -/
section
variable {X : Cx}
/-- a class's name is read, the state stays -/
theorem ld_name {x : Str} {c : Value} {pins : List (Addr × Obj)} {s : Shared} {σ : L2.St} {H : Hp} {q0 : Pos} {Q : Value → Shared → Prop} {E : Value → Shared → Prop} (hc : Names X x c) (I : Inv X pins σ H s) (q : Q c s) : wpAny (model X.prog X.w) X.A (eval (.Name x q0) X.env) Q E s := by
  obtain ⟨g, nd, m | ⟨m, v, n⟩⟩ := hc
  · exact ld_glob I g m q nd
  · exact ld_blt I g m v q n nd
/-- (A, B) is made anew, the heap grows by it alone -/
theorem ld_pair {x1 x2 : Str} {c1 c2 : Value} {pins : List (Addr × Obj)} {s : Shared} {σ : L2.St} {H : Hp} {p1 p2 p3 : Pos} {kk : Nat} {Q : Value → Shared → Prop} {E : Value → Shared → Prop} (h1 : Names X x1 c1) (h2 : Names X x2 c2) (I : Inv X pins σ H s)
    (q : Q (.ref s.heap.objs.size) { s with heap := s.heap.push { cls := .type "tuple", data := .seq [c1, c2].toArray } }) : wpAny (model X.prog X.w) X.A (eval (.Tuple [.Name x1 p1, .Name x2 p2] kk p3) X.env) Q E s := by
  refine wpAny_Tuple_spliced ?_
  show wpAny _ _ (spliced ((false, eval (.Name x1 p1) X.env) :: backTo p3 (starEach [.Name x2 p2] X.env))) _ _ s
  refine Calls.spliced_cons (ld_name h1 I ?_)
  show wpAny _ _ (spliced ((false, eval (.Name x2 p2) X.env) :: backTo p3 (starEach [] X.env))) _ _ s
  refine Calls.spliced_cons (ld_name h2 I ?_)
  exact Calls.spliced_nil ⟨(by show 2 ≤ sizeLine; decide), q⟩
theorem flying_push {B : Heap} {l : List Env} {e : Addr} {Z : Obj → Prop} {h : Heap} (o : Obj) (f : HandSPX.FlyingZ B l e Z h) : HandSPX.FlyingZ B l e Z (h.push o) := by
  obtain ⟨f1, f2, f3, oe, vs, T, oT, ts, g1, g2, g3, g4, g5, g6, g7, g8, g9⟩ := f
  exact ⟨fun b u z => Heap.get?_push_of_some _ (f1 b u z), f2, Heap.FunFrames.of_keeps (fun b u z _ => ⟨u, Heap.get?_push_of_some _ z, rfl⟩) f3, oe, vs, T, oT, ts, Heap.get?_push_of_some _ g1, g2, g3, g4, g5, g6, Heap.get?_push_of_some _ g7, g8, g9⟩
end
/-- a caught exception that is kept: its class, its dict -/
def exK (cls : Value) (d : Option Addr) (e : Addr) : HO := .ext fun h => ∃ (o : Obj) (vs : Array Value), h.get? e = some o ∧ Zc cls d o ∧ o.data = .fields vs
theorem exK_ok {P : Program} {w : World} {H : Hp} {h : Heap} {e : Addr} {cls : Value} {d : Option Addr} {o : Obj} {vs : Array Value} (g : h.get? e = some o) (z : Zc cls d o) (f : o.data = .fields vs) : ObjOk P w H h e (exK cls d e) :=
  ⟨⟨o, vs, g, z, f⟩, ⟨o, g⟩, fun h1 h2 q same => by
    obtain ⟨o1, v1, g1, z1, f1⟩ := q
    exact ⟨o1, v1, same o1 g1, z1, f1⟩⟩
theorem exK_at {P : Program} {w : World} {H : Hp} {h : Heap} {e : Addr} {cls : Value} {d : Option Addr} (ok : HOk P w H h) (q : H e = some (exK cls d e)) : ∃ (o : Obj) (vs : Array Value), h.get? e = some o ∧ Zc cls d o ∧ o.data = .fields vs := (ok e _ q).1
/-- what the clause wishes, the exception kept in the heap -/
def wKeep2 (K : PySem.W.Frag) (c1 c2 : Value) (i : Nat) (ts : Addr → TS) (Wo : WX) (D : Ends) : WX := fun cls d σ H =>
  ∃ b, PySem.W.exmAny K cls [c1, c2] = some b ∧
    (b = true → ∀ a, H a = none → ts a ⟨fun τ G => D.nx (τ.set i none) G, D.rt, fun τ G => D.bk (τ.set i none) G, fun τ G => D.ct (τ.set i none) G⟩ (σ.set i (some (.ref a))) (upd H a (exK cls d a))) ∧ (b = false → Wo cls d σ H)
section
variable {X : Cx} {pins : List (Addr × Obj)} {σ : L2.St} {H : Hp} {s s' sI : Shared} {B : Heap}
theorem _root_.L2.Inv.bareSuite (I : L2.Inv X pins σ H s) (e : Addr) : L2.Inv (X.suite e (X.pn ++ pins)) [] σ H s :=
  ⟨I.ok.suite _ _, I.os, I.bare, I.base, I.loc, I.cell, I.free, I.freeC, fun p hp => I.pin p (by rw [List.append_nil] at hp; exact hp), I.hok, I.len⟩
theorem _root_.L2.Inv.offSuite {e : Addr} {pn' : List (Addr × Obj)} (I : L2.Inv (X.suite e (X.pn ++ pins)) pn' σ H s) (ok : X.Ok) : L2.Inv X pins σ H s :=
  ⟨ok, I.os, I.bare, I.base, I.loc, I.cell, I.free, I.freeC, fun p hp => I.pin p (List.mem_append_left _ hp), I.hok, I.len⟩
/-- back on the ground, and the exception is of our heap -/
theorem _root_.L2.Inv.keptNew {e : Addr} {o : HO} (I : L2.Inv X pins σ H sI) (nb : ∀ b u, sI.heap.get? b = some u → b ∉ frs X.stack → B.get? b = some u) (st : B.StaysIn s'.heap) (up : sI.heap.UpToSlots s'.heap) (os : s'.os = sI.os) (ag : AllBare s'.gens)
    (new : sI.heap.get? e = none) (ne : H e = none) (k : ObjOk X.prog X.w (upd H e o) s'.heap e o) : L2.Inv X pins σ (upd H e o) s' := by
  have frame : ∀ b ∈ frs X.stack, ∀ u, sI.heap.get? b = some u → ∃ sl, s'.heap.get? b = some { u with slots := sl } := fun b m u g => by
    obtain ⟨_, u', g', plain⟩ := I.stack.mem m
    rw [g] at g'
    cases g'
    exact up b u g plain
  have other : ∀ b u, sI.heap.get? b = some u → b ≠ e := fun b u g z => by rw [z, new] at g; cases g
  have was : HOk X.prog X.w H s'.heap := (I.inGround nb).kept st
  have J := I.call (ch := []) (h' := s'.heap) (g' := s'.gens) (t' := s'.toks) (d' := s'.drawn) (H' := upd H e o)
    ⟨fun b u g _ m _ => st b u (nb b u g m), fun b u g _ m _ => frame b m u g, fun b u g n _ => by rw [upd_ne (other b u g)]; exact n, fun b u g _ => by
      by_cases m : b ∈ frs X.stack
      · exact ⟨_, (frame b m u g).choose_spec⟩
      · exact ⟨u, st b u (nb b u g m)⟩, fun b xs q => by rw [upd_ne (ne_of_none q ne)]; exact q, fun b u xs q => by rw [upd_ne (ne_of_none q ne)]; exact q, fun b ps q => ⟨#[], by rw [upd_ne (ne_of_none q ne), q]; simp⟩⟩
    (was.laidN (fun _ _ q => q) ne k) ag (fun _ z => nomatch z)
  obtain ⟨a1, a2, a3, a4, a5⟩ := s'
  have e5 : a5 = sI.os := os
  subst e5
  exact J
end
section
variable {X : Cx}
variable {x1 x2 n : Str} {c1 c2 : Value} {i kk : Nat} {body suite : List Stmt} {b₀ : Stmt} {p1 p2 p3 pos pos' : Pos} {tb : WX → TS} {ts : Addr → TS} {Wo : WX}
theorem ps_try_keep2 (stk : X.stack = X.env :: X.outer) (fr : X.env.frame = some X.env.locals) (nod : X.N.Nodup) (at_i : X.N[i]? = some n) (lc : X.env.kindOf n = some .local) (nm1 : Names X x1 c1) (nm2 : Names X x2 c2) (out : Takes X Wo)
    (does : ∀ (W : WX) (pn : List (Addr × Obj)) (xe : Value → Shared → Prop), Takes (X.tr pn xe) W → PassesOwn (model X.prog X.w) X.A X.env xe → PSs (X.tr pn xe) body (tb W))
    (then_ : ∀ (e : Addr) (pn : List (Addr × Obj)), PSs (X.suite e pn) (b₀ :: suite) (ts e)) :
    PS X (.Try body [.ExceptHandler (some (.Tuple [.Name x1 p1, .Name x2 p2] kk p3)) (some n) (b₀ :: suite) pos'] [] [] pos) (fun D σ H => tb (wKeep2 X.K c1 c2 i ts Wo D) D σ H) := by
  refine ⟨fun pins s σ H D I rd => ?_⟩
  have okX := I.ok
  have frs0 : X.A.frames = some (X.env :: X.outer) := okX.frames.trans (congrArg some stk)
  refine wpAny_Try_except ?_
  have run := (does (wKeep2 X.K c1 c2 i ts Wo D) (X.pn ++ pins) (fun v z => wpAny (model X.prog X.w) X.A (noteFrame v X.env) (fun _ z2 => wpAny (model X.prog X.w) X.A (setFlight v none) (fun _ z3 =>
    wpAny (model X.prog X.w) X.A (handleBy v X.env [.ExceptHandler (some (.Tuple [.Name x1 p1, .Name x2 p2] kk p3)) (some n) (b₀ :: suite) pos']) (SP X pins D) X.xe z3) X.xe z2) X.xe z)
    (fun u z flown => ?caught) PassesOwn.looking).run [] s σ H D (I.toTry _) rd
  case caught =>
    obtain ⟨e, B, z0, pins', τ, G, cls, d, rfl, J0, nb, up0, sky0, ne, os0, bare0, b, hit, yes, no⟩ := flown
    have J := J0.ofTry okX
    rw [show (X.tr (X.pn ++ pins) _).stack = X.env :: X.outer from stk] at sky0
    refine Sky.land Zc.steady frs0 fr sky0 fun g fl upg => ?_
    have Jg := J.landed (s' := { z with heap := g }) nb fl.1 (up0.trans upg) os0 bare0
    obtain ⟨o3, v3, got3, z3, dat3⟩ := fl.there
    have off : ∀ {h : Heap} {o : Obj} {vs : Array Value}, h.FunFrames B (X.env :: X.outer) → h.get? e = some o → o.data = .fields vs → ¬ e ∈ frs (X.env :: X.outer) := fun {h o vs} ff ge dd m => by
      obtain ⟨_, o', ge', bad⟩ := ff.mem m
      rw [ge] at ge'
      cases ge'
      exact bad vs dd
    have none_of := off fl.2.2.1 got3 dat3
    have n1 : e ≠ X.env.locals := fun z => none_of (List.mem_filterMap.mpr ⟨X.env, List.mem_cons_self, fr.trans (congrArg some z.symm)⟩)
    have n2 : e ∉ X.fs := fun m => by
      obtain ⟨y, my, ey⟩ := List.mem_filterMap.mp m
      exact none_of (List.mem_filterMap.mpr ⟨y, List.mem_cons_of_mem _ my, ey⟩)
    have Sg := Jg.suite got3 dat3 ne n1 n2
    refine wpAny_handleBy_cons (codeAny_handlers_test ?_) (fun q => by cases q)
    refine ld_pair (X := X.suite e ((e, o3) :: (X.pn ++ pins))) nm1 nm2 Sg ?_
    have keeps : ∀ b o, g.get? b = some o → (g.push { cls := .type "tuple", data := .seq [c1, c2].toArray }).get? b = some o := fun b o q => Heap.get?_push_of_some _ q
    have fl' := flying_push { cls := .type "tuple", data := .seq [c1, c2].toArray } fl
    have upg' : z.heap.UpToSlots (g.push { cls := .type "tuple", data := .seq [c1, c2].toArray }) := upg.trans (fun b o q _ => ⟨o.slots, keeps b o q⟩)
    have looks : PySem.W.Looks (model X.prog X.w) (g.push { cls := .type "tuple", data := .seq [c1, c2].toArray }) (typeOf (.ref e)) cls := fun _ _ _ _ k q => wpAny_typeOf_ref (k _ _ (keeps _ _ got3)) (by rw [z3.1]; exact q)
    have hits := PySem.W.exm_tup2 (M := model X.prog X.w) (Jg.kIn.keeps keeps) looks (Heap.get?_push_size _ rfl) hit
    refine hits.here ?_
    generalize g.push { cls := .type "tuple", data := .seq [c1, c2].toArray } = g' at keeps fl' upg' hits ⊢
    cases b with
    | true =>
      refine codeAny_handlers_suite_as ?_
      refine HandSPX.lands_againZ fl' fun g4 fl4 up4 => ?_
      have J4 := J.landed (s' := { z with heap := g4 }) nb fl4.1 ((up0.trans upg').trans up4) os0 bare0
      obtain ⟨o4, v4, got4, z4, dat4⟩ := fl4.there
      have new0 : z0.heap.get? e = none := by
        cases q : z0.heap.get? e with
        | none => rfl
        | some o =>
          have := nb e o q (by rw [show (X.tr (X.pn ++ pins) _).stack = X.env :: X.outer from stk]; exact none_of)
          rw [fl.2.1] at this
          cases this
      have K4 := J.keptNew (s' := { z with heap := g4 }) nb fl4.1 ((up0.trans upg').trans up4) os0 bare0 new0 ne (exK_ok got4 z4 dat4)
      have S4 := K4.bareSuite e
      refine store_ok (X := X.suite e (X.pn ++ pins)) (v := .ref e) S4 nod at_i (.inl lc) rfl (fun z5 S5 => ?_) (.inr lc)
      refine wpAny_mono ((then_ e (X.pn ++ pins)).run [] z5 _ (upd G e (exK cls d e)) _ S5 (yes rfl e ne)) (fun fw z6 fin => ?_) (fun _ _ q => q.elim)
      have over : ∀ {τ6 : L2.St} {G6 : Hp} {Q : Shared → Prop}, L2.Inv (X.suite e (X.pn ++ pins)) [] τ6 G6 z6 → (∀ z7, L2.Inv X pins (τ6.set i none) G6 z7 → Q z7) → wpAny (model X.prog X.w) X.A (do bindName X.env n .none; unbindBehindTheSuite X.env n pos') (fun _ z7 => Q z7) X.xe z6 :=
        fun {τ6 G6 Q} S6 q => gone_ok (S6.offSuite okX) nod at_i lc q
      cases fw with
      | ret u =>
        obtain ⟨v6, τ6, G6, S6, r6, q6⟩ := fin
        exact over S6 fun z7 J7 => ⟨_, _, _, J7, r6, q6⟩
      | _ =>
        obtain ⟨τ6, G6, S6, q6⟩ := fin
        exact over S6 fun z7 J7 => ⟨_, _, J7, q6⟩
    | false =>
      show wpAny _ X.A (handleBy (.ref e) X.env []) _ _ _
      refine wpAny_handleBy_nil ?_
      obtain ⟨_, _, _, o5, v5, T, oT, w5, got5, _, dat5, tr5, _⟩ := id fl'
      unfold PySem.passOn
      refine wpAny_bind (wpAny_field got5 dat5 tr5 ?_)
      rw [if_neg (by simp : ¬ ((Value.ref T == Value.none) = true))]
      have flies : wpAny (model X.prog X.w) X.A (setFlight (.ref e) X.env.frame) (fun _ z4 => wpAny (model X.prog X.w) X.A (throw (.ref e) : Sem Flow) (SP X pins D) X.xe z4) X.xe { z with heap := g' } := by
        rw [fr]
        exact HandSPX.setFlight_upZ fl' fun g4 held up4 => wpAny_throw (out _ _ ⟨e, B, z0, pins, τ, G, cls, d, rfl, J, nb, (up0.trans upg').trans up4, .inr (.inr (by rw [stk]; exact held)), ne, os0, bare0, no rfl⟩)
      first
        | exact wpAny_bind (wpAny_pure (wpAny_bind flies))
        | exact wpAny_bind flies
  refine wpAny_mono run (fun fw z6 fin => ?_) (fun v z6 q => q)
  cases fw with
  | next =>
    obtain ⟨τ, G, J, q⟩ := fin
    exact wpAny_execs_nil ⟨τ, G, J.ofTry okX, q⟩
  | ret u =>
    obtain ⟨v, τ, G, J, r, q⟩ := fin
    exact ⟨v, τ, G, J.ofTry okX, r, q⟩
  | _ =>
    obtain ⟨τ, G, J, q⟩ := fin
    exact ⟨τ, G, J.ofTry okX, q⟩
end
end HSP
set_option maxHeartbeats 2000000
namespace HSP
open PySem PySem.Spec PyProof.Rows L2
/-! ### a kept exception: its fields, its class -/
/-! the class of an exception that has its dict -/
section
open PySem.W PySem.Calls
variable {prog : Program} {w : World} {A : Around} {E : Value → Shared → Prop} {z : Shared} {K : Frag} {x D : Addr} {o : Obj} {od : Option Obj}
theorem found_class (C : ExcC K D) : findObj K D od "__class__" = some (.bind (.builtin "getset_descriptor.__get__") (.builtin "object.__class__")) := by
  obtain ⟨cd, hc, _⟩ := any_some C.hd
  unfold findObj
  rw [hc, Option.bind_some, C.ha, Option.bind_some]
  dsimp only
  rw [C.hn, Option.bind_some]
  dsimp only
  rw [C.ht, Option.bind_some]
theorem asked_class {Q : Option Value → Shared → Prop} (C : ExcC K D) (I : K.In z.heap) (J : InstAt z.heap x o D od) (q : Q (some (.ref D)) { z with toks := z.toks + 1 }) : wpAny (model prog w) A (getAttr? (.ref x) "__class__") Q E z := by
  have found := found_class (od := od) C
  obtain ⟨h, gs, dr, tk, os⟩ := z
  have type := J.type (M := model prog w)
  have by1 := looks_findIn (M := model prog w) I C.hg
  have by2 := looks_findIn (M := model prog w) I C.hk
  have by3 := looks_find (M := model prog w) I J found
  have isExc : Looks (model prog w) h (isInstance (.ref x) (.type "BaseException")) true := type.andThen (looks_subIn I C.hs)
  have no1 : (Value.builtin "BaseException.__getattribute__" == Value.builtin "object.__getattribute__") = false := by decide +kernel
  have no2 : (onTheHeap (Value.ref D) && Value.builtin "BaseException.__getattribute__" == Value.builtin "object.__getattribute__") = false := by rw [no1] <;> rfl
  have no3 : (false && onTheHeap (Value.builtin "BaseException.__getattribute__")) = false := rfl
  unfold getAttr? getAttrBy? getAttrBy
  refine wpAny_bind (wpAny_mkText (wpAny_bind (wpAny_attempt (wpAny_holding (wpAny_bind (type.at (wpAny_bind (by1.at ?_))))))))
  show wpAny _ _ (if (onTheHeap (Value.ref D) && Value.builtin "BaseException.__getattribute__" == Value.builtin "object.__getattribute__") = true then _ else _) _ _ _
  rw [no2, if_neg (fun q => nomatch q)]
  unfold getAttrByItsOwn hookBefore
  refine wpAny_bind ?_
  rw [if_pos (by rfl : onTheHeap (Value.ref D) = true)]
  refine by2.at (wpAny_bind (wpAny_attempt (wpAny_holding ?_)))
  unfold callGetattribute
  rw [no3, if_neg (fun q => nomatch q)]
  unfold boundAndCalled
  rw [PySem.F.excAttr_ValueError.ga.bind (Value.ref x)]
  refine wpAny_bind (wpAny_pure (show wpAny _ _ (call (.builtin "BaseException.__getattribute__") [.ref x, .str "__class__" tk]) _ _ _ from wpAny_call (codeAny_call_builtin PySem.F.excAttr_ValueError.ga.plain PySem.F.entry_bexc_ga ?_)))
  have kind := PySem.F.args_bexc_ga (.ref x) (.str "__class__" tk)
  refine @check_slot (model prog w) _ _ ⟨h, gs, dr, tk + 1, os⟩
    "BaseException.__getattribute__" "BaseException"
    "__getattribute__" (.ref x)
    [.str "__class__" tk] [] _ (by decide +kernel) (by decide +kernel)
    isExc kind ?_
  unfold Builtin.«object.__getattribute__»
  refine wpAny_bind (wpAny_of_eq (a := ((Value.ref x : Value), [Value.str "__class__" tk])) (by first | rfl | (simp only [slotArgs]; rfl)) (wpAny_bind (wpAny_pure (wpAny_bind (type.at (wpAny_bind (by3.at ?_)))))))
  show wpAny _ _ (holding [Value.builtin "object.__class__"] (call (.builtin "getset_descriptor.__get__") [.builtin "object.__class__", .ref x, .ref D]) >>= ret) _ _ _
  refine wpAny_bind (wpAny_holding (wpAny_call (class_get (s := ⟨h, gs, dr, tk + 1, os⟩) (ox := o) (od := od) I J C.hm (wpAny_pure ?_))))
  show wpAny _ _ (handedOut (.ref D)) _ _ _
  rw [handedOut_of (v := Value.ref D) rfl]
  first
    | exact wpAny_pure (wpAny_pure q)
    | exact wpAny_pure q
    | exact wpAny_pure (wpAny_bind (wpAny_pure (wpAny_pure q)))
theorem kitK (C : ExcC K D) : KitX K (.ref x) (.ref D) (fun h => InstAt h x o D od) where
  ty := fun _ _ _ J => J.type
  it := fun _ _ I _ => by
    obtain ⟨cd, is, _⟩ := any_some C.hd
    unfold clsIn at is
    split at is
    case h_2 => cases is
    case h_1 there =>
      intro A0 Q0 E0 s0 k q
      unfold isType loadHead
      exact wpAny_bind (wpAny_loadPart (k _ _ (I _ _ there)) (wpAny_pure q))
  ne := (handS_kitx_exc (x := x) (ox := o) C.hg C.hk C.hs C.hd C.ha C.hn C.ht C.hm).ne
  ca := fun I J q => asked_class C I J q
end
section
variable {X : Cx}
/-- e.f of a kept exception of the class C -/
def tXfK (K : PySem.W.Frag) (f : Str) (te : TE) : TE := fun σ H Q => te σ H fun x G => ∃ (e C dd : Addr) (fs : List (Str × V)) (v : V), x = .ref e ∧ G e = some (exK (.ref C) (some dd) e) ∧ XfC K C ∧ PySem.W.findIn K (.ref C) f = some none ∧ G dd = some (.xd fs) ∧ fs.lookup f = some v ∧ Q v G
theorem pe_xfK {b : Expr} {te : TE} {pos : Pos} {f : Str} (hb : PE X b te) (base : attributeBase b f X.env (eval b X.env) = eval b X.env := by rfl) : PE X (.Attribute b f pos) (tXfK X.K f te) := by
  refine ⟨fun pins s σ H Q I rd => ?_⟩
  refine attr_of base (thn (hb.run pins s σ H _ I rd) fun u z got => ?_)
  obtain ⟨x, G, J, ru, e, C, dd, fs, v, rfl, here, T, free, own, has, q⟩ := got
  cases (show u = Value.ref e from ru)
  obtain ⟨o, vs, go, ⟨cl, di⟩, da⟩ := exK_at J.hok here
  obtain ⟨mA, ns, vals⟩ : ObjOk X.prog X.w G z.heap dd (.xd fs) := J.hok dd _ own
  obtain ⟨od, god, look⟩ := lookIn_ns ns
  obtain ⟨y, ey, ry⟩ := RelO.some_of (v := v) (o := mA f) (has ▸ vals f)
  have inst : PySem.W.InstAt z.heap e o C (some od) := ⟨go, cl, by unfold PySem.W.notCls; rw [da] <;> rfl, by rw [di]; exact god⟩
  exact HandSPX.exc_get J.kIn inst T.ga T.gg T.exC (PySem.W.findObj_own T.hdC free rfl ((look f).trans (congrArg some ey))) (handed_of ry) ⟨v, G, J.tok _, ry, q⟩
/-- isinstance(e, c) of a kept exception of the class D; a dict that it has is in our heap -/
def rIsK (K : PySem.W.Frag) : List V → Hp → VK → Prop := fun xs H Q => ∃ (e D : Addr) (c : V) (cv : Value) (b : Bool), xs = [.ref e, c] ∧ (∃ d, H e = some (exK (.ref D) d e) ∧ ∀ dd, d = some dd → ∃ fs, H dd = some (.xd fs)) ∧ ExcC K D ∧ (∀ u, RelV c u → u = cv) ∧ PySem.W.kitOne K (.ref D) cv = some b ∧ Q (.bl b) H
theorem call_isK : CallR X (.builtin "isinstance") (rIsK X.K) := by
  intro pins s σ H xs us Q I r rd
  obtain ⟨e, D, c, cv, b, rfl, ⟨d, here, own⟩, C, only, says, q⟩ := rd
  obtain ⟨u1, u2, rfl, r1, r2⟩ := vals2 r
  cases (show u1 = Value.ref e from r1)
  cases only _ r2
  obtain ⟨o, vs, go, ⟨cl, di⟩, da⟩ := exK_at I.hok here
  obtain ⟨od, inst⟩ : ∃ od, PySem.W.InstAt s.heap e o D od := by
    cases d with
    | none => exact ⟨none, go, cl, by unfold PySem.W.notCls; rw [da] <;> rfl, by rw [di]; trivial⟩
    | some dd =>
      obtain ⟨fs, has⟩ := own dd rfl
      obtain ⟨mA, ns, _⟩ : ObjOk X.prog X.w H s.heap dd (.xd fs) := I.hok dd _ has
      obtain ⟨od, god, _⟩ := lookIn_ns ns
      exact ⟨some od, go, cl, by unfold PySem.W.notCls; rw [da] <;> rfl, by rw [di]; exact god⟩
  exact PySem.W.kia_one (kitK C) I.kIn inst says (fun z => nomatch z) fun tk => ⟨.bl b, H, I.kept (t' := tk) fun _ _ z => z, rfl, q⟩
end
end HSP
namespace HSP
open PySem PySem.Spec PyProof.Rows L2
/-! ## a def that may raise, called by its name -/
structure DfX (P : Program) (w : World) (K : PySem.W.Frag) (mg : Str → Option Value) (base : Heap) (x : Str) (n : Nat) (ps : List Str) (sp : Sp) : Prop where
  ex : ∃ (f : Addr) (fd : FuncData), mg x = some (.ref f) ∧ PySem.W.keepIn K (.ref f) = true ∧ Binds K fd ps [] ∧ FnOk P w K mg base (L2.CX P w) n f fd ps sp
section
variable {P : Program} {w : World} {K : PySem.W.Frag} {mg : Str → Option Value} {base : Heap}
theorem DfX.mk' {x : Str} {st : Stmt} {N ps : List Str} {k : Nat} {sp : Sp} (a : At K mg x st) (S : FnScope N ps (defScope st)) (len : ∀ vs H Q E, sp vs H Q E → vs.length = ps.length)
    (hb : ∀ (kV doc pm : Value) (an : Option Addr) (cdv ct : Value) (us : List Value), us.length = ps.length → bindArgs (PySem.W.fnOf x x (defArgs st) (defBody st) (defScope st) .none kV doc pm an cdv ct) ⟨us, []⟩ = pure (ps.zip us))
    (body : ∀ (f : Addr) (cdv : Value) (A : Around) (outer : List Env) (s : Shared) (H : Hp) (vs : List V) (Q : VK) (E : XK), Room k (A.deeper (envOfC x (defScope st) s.heap.objs.size f cdv)) → sp vs H Q E →
      ∃ t, PSs (cxOf (L2.CX P w) P w K mg base N x (defScope st) f cdv A outer s H E) (defBody st) t ∧ t { nx := fun _ H' => Q .non H', rt := Q } (start N vs) H) : DfX P w K mg base x (k + 1) ps sp := by
  obtain ⟨f, fd, named, F⟩ := a
  exact ⟨f, fd, named, F.kp, F.binds hb, F.okX S len (body f)⟩
theorem DfX.mono {x : Str} {j k : Nat} {ps : List Str} {sp : Sp} (D : DfX P w K mg base x j ps sp) (h : j ≤ k) : DfX P w K mg base x k ps sp := by
  obtain ⟨f, fd, a, b, c, d⟩ := D.ex
  exact ⟨f, fd, a, b, c, d.mono h⟩
end
section
variable {X : Cx} {k : Nat} {ps : List Str} {sp : Sp} {x : Str} {p pos : Pos} {e : Expr} {es : List Expr} {t : TA} {W : WX}
theorem pe_dfX (D : DfX X.prog X.w X.K X.mg X.base x k ps sp) (hr : Room k X.A) (tk : Takes X W) (ha : PA X (e :: es) t) (hg : Gl X x := by rfl) (hdb : (x == ("__debug__" : Str)) = false := by decide)
    (he : starEach (e :: es) X.env = (false, eval e X.env) :: starEach es X.env := by rfl) (hpl : (backTo pos (starEach es X.env)).any (·.1) = false := by rfl) : PE X (.Call (.Name x p) (e :: es) [] pos) (tCallS sp (WE W) t) := by
  obtain ⟨f, fd, named, kept, binds, F⟩ := D.ex
  exact pe_callS F hr hg named kept binds (fun σ => passAt tk σ) ha hdb he hpl
end
end HSP
namespace HSP
open PySem PySem.Spec PyProof.Rows L2
/-! ### is_tree of anything -/
/-- a thing: None; a pair of things; anything else -/
inductive Th where
  | nil
  | bad
  | nod (l r : Th)
def Th.size : Th → Nat
  | .nil => 0
  | .bad => 0
  | .nod l r => l.size + 1 + r.size
def Th.good : Th → Bool
  | .nil => true
  | .bad => false
  | .nod l r => l.good && r.good
def BadV (K : PySem.W.Frag) (H : Hp) (v : V) : Prop := v ≠ .non ∧ ((∃ t, TyX K H v t ∧ PySem.W.kitOne K t (.type "tuple") = some false) ∨ ∃ a xs, v = .ref a ∧ H a = some (.tup xs) ∧ xs.length ≠ 2)
theorem TyX.same {K : PySem.W.Frag} {H H' : Hp} {v : V} {t : Value} (s : Same H H') (h : TyX K H v t) : TyX K H' v t := by
  cases h with
  | base b =>
    refine .base ?_
    cases b with
    | non => exact .non
    | bl x => exact .bl x
    | int x => exact .int x
    | str x => exact .str x
    | flt x => exact .flt x
    | lst e => exact .lst (s _ _ e)
    | frz e => exact .frz (s _ _ e)
    | tup e => exact .tup (s _ _ e)
    | dK e => exact .dK (s _ _ e)
    | dT e => exact .dT (s _ _ e)
    | ins e a b c d f => exact .ins (s _ _ e) a b c d f
  | byt b => exact .byt b
  | set e => exact .set (s _ _ e)
  | kList e c => exact .kList e c
  | kTuple e c => exact .kTuple e c
  | kDict e c => exact .kDict e c
  | fTuple e => exact .fTuple (s _ _ e)
  | fDict e => exact .fDict (s _ _ e)
inductive ThAt (K : PySem.W.Frag) (H : Hp) : V → Th → Prop
  | nil : ThAt K H .non .nil
  | bad {v : V} (b : BadV K H v) : ThAt K H v .bad
  | nod {a : Addr} {x y : V} {l r : Th} : H a = some (.tup [x, y]) → ThAt K H x l → ThAt K H y r → ThAt K H (.ref a) (.nod l r)
inductive WaitT (K : PySem.W.Frag) (H : Hp) : List V → List Th → Prop
  | nil : WaitT K H [] []
  | cons {v : V} {t : Th} {vs : List V} {ts : List Th} : ThAt K H v t → WaitT K H vs ts → WaitT K H (v :: vs) (t :: ts)
def sizesT : List Th → Nat
  | [] => 0
  | t :: r => t.size + sizesT r
def turnsT : List Th → Nat
  | [] => 0
  | t :: r => 2 * t.size + 1 + turnsT r
section
variable {P : Program} {w : World} {K : PySem.W.Frag} {mg : Str → Option Value} {base : Heap}
def spTreeX (K : PySem.W.Frag) : Sp := fun vs H Q _ => ∃ (v : V) (t : Th), vs = [v] ∧ ThAt K H v t ∧ t.size ≤ 1000 ∧ ∀ H', Same H H' → Q (.bl t.good) H'
theorem sc_treeX : FnScope n_is_tree ["thing"] (defScope s_is_tree) := ⟨rfl, rfl, rfl, by decide +kernel, rfl, by decide +kernel, by decide +kernel⟩
theorem ok_treeX (B : Bl mg) (a : At K mg "is_tree" s_is_tree) : Df P w K mg base "is_tree" 1 ["thing"] (spTreeX K) := by
  refine Df.mk' a sc_treeX (fun vs H Q E h => ?_) (fun _ _ _ _ _ _ us hl => match us, hl with | [_], _ => rfl) (fun f cdv A outer s H vs Q E hr h => ?_)
  · obtain ⟨v, t, rfl, _⟩ := h
    rfl
  obtain ⟨v, t, rfl, ht, hz, q⟩ := h
  refine ⟨_, (pss_cons (ps_set (i := 1) sc_treeX.nd rfl (.inl rfl) (pe_lst (pa_cons (pv 0) pa_nil)))
 (pss_cons (ps_while PassesOwn.never (pt_truth (pv 1) (by intro _; rfl)) (pss_cons (ps_set (i := 2) sc_treeX.nd rfl (.inl rfl) (pe_bm0 PySem.F.plainAttrs_list PySem.F.slot_list_pop PySem.F.type_list_pop mt_pop (pv 1)))
 (pss_one (ps_if (pt_cmpR op_notN (pv 2) pe_non (nomark _)) (pss_cons (ps_if (PW.pt (pw_or (pt_not (pt_val (pe_callB call_isi (by rfl) B.isinstance (by decide +kernel) (pa_cons (pv 2) (pa_cons (pe_bltn (v := .ty "tuple") (by rfl) B.tuple (by decide +kernel) rfl) pa_nil))))) (pw_or1 (pt_cmpR op_ne (pe_callB call_len_seq (by rfl) B.len PySem.boot_len (pa_cons (pv 2) pa_nil)) pe_int (nomark _))))) (pss_one (ps_ret pe_bl)) pss_nil)
 (pss_cons (ps_expr (pe_bm PySem.F.plainAttrs_list PySem.F.slot_list_append PySem.F.type_list_append mt_append (pv 1) (pa_cons (pe_ix ix_tup (pv 2) pe_int (fun _ _ => rfl)) pa_nil)))
 (pss_one (ps_expr (pe_bm PySem.F.plainAttrs_list PySem.F.slot_list_append PySem.F.type_list_append mt_append (pv 1) (pa_cons (pe_ix ix_tup (pv 2) pe_int (fun _ _ => rfl)) pa_nil)))))) pss_nil))))
 (pss_one (ps_ret pe_bl)))), ?_⟩
  refine ⟨v, rfl, (by show 1 ≤ sizeLine; decide), fun l hl => ?_⟩
  have s0 : Same H (upd H l (.lst [v])) := Same.new hl
  refine ⟨fun m σ H1 => ∃ (vs : List V) (ts : List Th) (n : Nat) (y : Option V), σ = [some v, some (.ref l), y] ∧ Same H H1 ∧ H1 l = some (.lst vs.reverse) ∧ WaitT K H vs ts ∧ n + sizesT ts = t.size ∧ vs.length ≤ n + 1 ∧ ts.all Th.good = t.good ∧ m = turnsT ts,
    ⟨_, [v], [t], 0, none, rfl, s0, upd_same, .cons ht .nil, by show 0 + (t.size + 0) = t.size; omega, by show 1 ≤ 0 + 1; omega, by show (t.good && true) = t.good; rw [Bool.and_true], rfl⟩, fun m σ H1 hW => ?_⟩
  obtain ⟨vs, ts, n, y, rfl, sm, el, hw, hn, hlen, good, rfl⟩ := hW
  refine ⟨.ref l, rfl, !vs.reverse.isEmpty, .inl ⟨_, .of el, rfl⟩, ?_⟩
  rw [rev_empty]
  cases hw with
  | nil =>
    rw [← good] at q
    exact iteF (q _ sm)
  | @cons x u xs us hx hxs =>
    refine iteT ⟨fun σ' H' => ∃ m', m' < turnsT (u :: us) ∧ ∃ (vs : List V) (ts : List Th) (n : Nat) (y : Option V), σ' = [some v, some (.ref l), y] ∧ Same H H' ∧ H' l = some (.lst vs.reverse) ∧ WaitT K H vs ts ∧ n + sizesT ts = t.size ∧ vs.length ≤ n + 1 ∧ ts.all Th.good = t.good ∧ m' = turnsT ts,
      fun σ' H' hN => hN, ?_⟩
    refine ⟨.ref l, rfl, .inl ⟨rfl, _, .of el⟩, l, _, x, rfl, rfl, el, last_rev, ?_⟩
    rw [drop_rev]
    have sm2 : Same H (upd H1 l (.lst xs.reverse)) := fun b o e => by rw [upd_ne (ne_of_none e hl)]; exact sm b o e
    refine ⟨x, rfl, rfl, _, rfl, ?_⟩
    cases hx with
    | nil =>
      refine iteF ?_
      refine ⟨_, ?_, xs, us, n, _, rfl, sm2, upd_same, hxs, ?_, ?_, good, rfl⟩
      · show turnsT us < 2 * 0 + 1 + turnsT us; omega
      · have : 0 + sizesT us = sizesT (Th.nil :: us) := rfl
        omega
      · rw [List.length_cons] at hlen; omega
    | bad b =>
      have is : t.good = false := good.symm
      rw [is] at q
      obtain ⟨not, b⟩ := b
      rw [show (!decide (x = V.non)) = true by rw [decide_eq_false not]; rfl]
      refine iteT ?_
      rcases b with ⟨ty, k, no⟩ | ⟨a, xs2, rfl, e, two⟩
      · refine ⟨_, rfl, _, _, _, _, false, rfl, .ty "tuple", TyX.same sm2 k, no, false, rfl, iteT ?_⟩
        exact q _ sm2
      · refine ⟨_, rfl, _, _, _, _, true, rfl, .ty "tuple", .base (.tup (sm2 _ _ e)), rfl, true, rfl, iteF ?_⟩
        refine ⟨_, rfl, a, _, rfl, .inr (.of (sm2 _ _ e)), rfl, _, rfl, ?_⟩
        rw [show (!decide (V.int ((xs2.length : Nat) : Int) = V.int 2)) = true by rw [decide_eq_false (fun z => two (by have := V.int.inj z; omega))]; rfl]
        exact iteT (q _ sm2)
    | @nod a x1 y1 l1 r1 ea hl1 hr1 =>
      refine iteT ?_
      have e2 : (upd H1 l (.lst xs.reverse)) a = some (.tup [x1, y1]) := sm2 _ _ ea
      refine ⟨_, rfl, _, _, _, _, true, rfl, .ty "tuple", .base (.tup e2), rfl, true, rfl, iteF ?_⟩
      refine ⟨_, rfl, a, _, rfl, .inr (.of e2), rfl, _, rfl, iteF ?_⟩
      refine ⟨_, rfl, .inl ⟨rfl, _, .of upd_same⟩, _, rfl, a, _, _, y1, rfl, rfl, .of e2, atI_nat (j := 1) rfl, l, _, _, rfl, rfl, upd_same, ?_, ?_⟩
      · rw [List.length_reverse]
        rw [List.length_cons] at hlen
        exact small1000 (by omega)
      refine ⟨_, rfl, .inl ⟨rfl, _, .of upd_same⟩, _, rfl, a, _, _, x1, rfl, rfl, .of (by rw [upd_ne (ne_of_none ea hl)]; exact e2), atI_nat (xs := [x1, y1]) (j := 0) rfl, l, _, _, rfl, rfl, upd_same, ?_, ?_⟩
      · rw [List.length_append, List.length_reverse, List.length_singleton]
        rw [List.length_cons] at hlen
        have e1 : sizesT (Th.nod l1 r1 :: us) = (l1.size + 1 + r1.size) + sizesT us := rfl
        exact small1000 (by omega)
      rw [rev_push, rev_push]
      refine ⟨_, ?_, x1 :: y1 :: xs, l1 :: r1 :: us, n + 1, _, rfl, fun b o e => ?_, upd_same, .cons hl1 (.cons hr1 hxs), ?_, ?_, ?_, rfl⟩
      · show 2 * l1.size + 1 + (2 * r1.size + 1 + turnsT us) < 2 * (l1.size + 1 + r1.size) + 1 + turnsT us
        omega
      · rw [upd_ne (ne_of_none e hl), upd_ne (ne_of_none e hl)]
        exact sm2 b o e
      · have e1 : sizesT (Th.nod l1 r1 :: us) = (l1.size + 1 + r1.size) + sizesT us := rfl
        show n + 1 + (l1.size + (r1.size + sizesT us)) = t.size
        omega
      · rw [List.length_cons, List.length_cons]
        rw [List.length_cons] at hlen
        omega
      · rw [← good]
        show (l1.good && (r1.good && us.all Th.good)) = ((l1.good && r1.good) && us.all Th.good)
        rw [Bool.and_assoc]
end
end HSP
namespace HSP
open PySem PySem.Spec PyProof.Rows L2
/-! ### is_whole of anything -/
section
variable {P : Program} {w : World} {K : PySem.W.Frag} {mg : Str → Option Value} {base : Heap}
/-- whether a thing is a whole number -/
def WholeV (K : PySem.W.Frag) (H : Hp) (x : V) (b : Bool) : Prop := ∃ (t : Value) (b1 b2 : Bool), TyX K H x t ∧ PySem.W.kitOne K t (.type "int") = some b1 ∧ PySem.W.kitOne K t (.type "bool") = some b2 ∧ b = (b1 && !b2)
def spWholeX (K : PySem.W.Frag) : Sp := fun vs H Q _ => ∃ (x : V) (b : Bool), vs = [x] ∧ WholeV K H x b ∧ Q (.bl b) H
theorem sc_wholeX : FnScope n_is_whole ["thing"] (defScope s_is_whole) := ⟨rfl, rfl, rfl, by decide +kernel, rfl, by decide +kernel, by decide +kernel⟩
theorem ok_wholeX (B : Bl mg) (a : At K mg "is_whole" s_is_whole) : Df P w K mg base "is_whole" 1 ["thing"] (spWholeX K) := by
  refine Df.mk' a sc_wholeX (fun vs H Q E h => ?_) (fun _ _ _ _ _ _ us hl => match us, hl with | [_], _ => rfl) (fun f cdv A outer s H vs Q E hr h => ?_)
  · obtain ⟨x, b, rfl, _⟩ := h
    rfl
  obtain ⟨x, b, rfl, ⟨t, b1, b2, ty, k1, k2, rfl⟩, q⟩ := h
  refine ⟨_, (pss_one (ps_ret (pe_and (pe_callB call_isi (by rfl) B.isinstance (by decide +kernel) (pa_cons (pv 0) (pa_cons (pe_bltn (v := .ty "int") (by rfl) B.int (by decide +kernel) rfl) pa_nil))) (pe_one (pe_not (pe_callB call_isi (by rfl) B.isinstance (by decide +kernel) (pa_cons (pv 0) (pa_cons (pe_bltn (v := .ty "bool") (by rfl) B.bool (by decide +kernel) rfl) pa_nil)))))))), ?_⟩
  refine ⟨_, rfl, _, _, _, _, b1, rfl, .ty "int", ty, k1, ?_⟩
  cases b1 with
  | false => exact ⟨false, rfl, iteF q⟩
  | true =>
    refine ⟨true, rfl, iteT ?_⟩
    refine ⟨_, rfl, _, _, _, _, b2, rfl, .ty "bool", ty, k2, b2, rfl, ?_⟩
    exact q
theorem WholeV.same {H H' : Hp} {x : V} {b : Bool} (s : Same H H') (h : WholeV K H x b) : WholeV K H' x b := by
  obtain ⟨t, b1, b2, ty, k⟩ := h
  exact ⟨t, b1, b2, TyX.same s ty, k⟩
end
end HSP
namespace HSP
open PySem PySem.Spec PyProof.Rows L2
/-! ## check_wishes, can_keep -/
section
variable {P : Program} {w : World} {K : PySem.W.Frag} {mg : Str → Option Value} {base : Heap}
theorem sc_check_wishes : FnScope n_check_wishes ["tree", "values", "wished"] (defScope s_check_wishes) := ⟨rfl, rfl, rfl, by decide +kernel, rfl, by decide +kernel, by decide +kernel⟩
def spChkWs : Sp := fun vs H Q _ => ∃ (v : V) (t : Tr) (a W : Addr) (ns : List Int) (ws : List Nat), vs = [v, .ref a, .ref W] ∧ TrAt H v t ∧ t.size ≤ 30 ∧ H a = some (.lst (ns.map V.int)) ∧ ns.length = t.size ∧ H W = some (.lst (ws.map natV)) ∧ ws.Nodup ∧ (∀ x, x ∈ ws → x < t.size) ∧ ∀ H', Same H H' → Q .non H'
theorem ok_chkWs (Cv : Df P w K mg base "check_values" 3 ["tree", "values"] spChkV) (Cw : Df P w K mg base "check_wished" 3 ["tree", "wished"] spChkWd) (a : At K mg "check_wishes" s_check_wishes) : Df P w K mg base "check_wishes" 4 ["tree", "values", "wished"] spChkWs := by
  refine Df.mk' a sc_check_wishes (fun vs H Q E h => ?_) (fun _ _ _ _ _ _ us hl => match us, hl with | [_, _, _], _ => rfl) (fun f cdv A outer s H vs Q E hr h => ?_)
  · obtain ⟨_, _, _, _, _, _, rfl, _⟩ := h
    rfl
  obtain ⟨v, t, av, W, ns, ws, rfl, ht, hz, ea, la, eW, nd, lt, q⟩ := h
  refine ⟨_, (pss_cons (ps_expr (pe_df Cv hr (pa_cons (pv 0) (pa_cons (pv 1) pa_nil))))
 (pss_one (ps_expr (pe_df Cw hr (pa_cons (pv 0) (pa_cons (pv 2) pa_nil)))))), ?_⟩
  refine ⟨_, rfl, _, rfl, v, t, av, ns, rfl, ht, by omega, ea, la, fun H1 s1 => ?_⟩
  exact ⟨_, rfl, _, rfl, v, t, W, ws, rfl, ht.same s1, by omega, s1 _ _ eW, nd, lt, fun H2 s2 => q H2 (s1.trans s2)⟩
theorem NodesW.uniq {t : Tr} {ws N M : List Nat} (h : NodesW t ws N) (g : NodesW t ws M) : N = M :=
  List.Perm.eq_of_pairwise (fun a b _ _ h1 h2 => absurd h1 (Nat.lt_asymm h2)) h.1 g.1 ((List.perm_ext_iff_of_nodup (h.1.imp fun {a b} z => Nat.ne_of_lt z) (g.1.imp fun {a b} z => Nat.ne_of_lt z)).mpr fun x => (h.2 x).trans (g.2 x).symm)
theorem kvN_noneZ : ∀ {prs : List (Nat × Addr)} {z : Int}, (∀ n : Nat, n ∈ prs.map (·.1) → (n : Int) ≠ z) → valV (kvN prs) (Sum.inl z) = none
  | [], _, _ => rfl
  | (y, b) :: r, z, h => by
    show valV ((Sum.inl (y : Int), V.ref b) :: kvN r) _ = none
    rw [valV_neg (fun e => h y List.mem_cons_self (Sum.inl.inj e))]
    exact kvN_noneZ fun n hn => h n (List.mem_cons_of_mem _ hn)
theorem whole_intW {H : Hp} {i : Int} : WholeV K H (.int i) true := ⟨.type "int", true, false, .base (.int i), kit_ty (by decide +kernel), kit_ty (by decide +kernel), rfl⟩
/-- not a list -/
def NotLw (K : PySem.W.Frag) (H : Hp) (y : V) : Prop := ∃ t, TyX K H y t ∧ PySem.W.kitOne K t (.type "list") = some false
theorem NotLw.same {H H' : Hp} {y : V} (s : Same H H') (h : NotLw K H y) : NotLw K H' y := by
  obtain ⟨t, ty, k⟩ := h
  exact ⟨t, TyX.same s ty, k⟩
/-- what is asked to be kept: no list; nodes of N, each once, up to the first that is none; all nodes -/
def KeptAt (K : PySem.W.Frag) (H : Hp) (kp : V) (N : List Nat) (due : List Nat → Bool) (b : Bool) : Prop :=
  (NotLw K H kp ∧ b = false) ∨ ∃ (k : Addr) (ks : List Nat), kp = .ref k ∧ ks.length ≤ 60 ∧ ks.Nodup ∧ (∀ x, x ∈ ks → x ∈ N) ∧
    ((H k = some (.lst (ks.map natV)) ∧ b = due ks) ∨ ∃ (x : V) (r : List V), H k = some (.lst (ks.map natV ++ x :: r)) ∧ b = false ∧
      (WholeV K H x false ∨ ∃ z : Int, x = .int z ∧ ((∀ n : Nat, n ∈ N → (n : Int) ≠ z) ∨ ∃ n : Nat, n ∈ ks ∧ (n : Int) = z)))
/-- no two of them in conflict -/
def freeOf (D : Nat → Nat → Nat) (v : Nat → Int) (n : Nat) (ks : List Nat) : Bool := !(ks.any fun a => ks.any fun b => decide (b ∈ confOf D v n a))
theorem sc_can_keep : FnScope n_can_keep ["tree", "values", "wished", "kept"] (defScope s_can_keep) := ⟨rfl, rfl, rfl, by decide +kernel, rfl, by decide +kernel, by decide +kernel⟩
def spCanKeep (K : PySem.W.Frag) : Sp := fun vs H Q _ => ∃ (v : V) (t : Tr) (a W : Addr) (ns : List Int) (ws : List Nat) (kp : V) (N : List Nat) (D : Nat → Nat → Nat) (b : Bool), vs = [v, .ref a, .ref W, kp] ∧ TrAt H v t ∧ t.size ≤ 30 ∧ H a = some (.lst (ns.map V.int)) ∧ ns.length = t.size ∧ H W = some (.lst (ws.map natV)) ∧ ws.Nodup ∧ (∀ x, x ∈ ws → x < t.size) ∧
  NodesW t ws N ∧ AllL (EdW t ws) D ∧ KeptAt K H kp N (freeOf D (valAt ns) t.size) b ∧ ∀ H', Same H H' → Q (.bl b) H'
theorem okB_canKeep (B : Bl mg) (An : mg "any" = none) (Cs : Df P w K mg base "check_wishes" 4 ["tree", "values", "wished"] spChkWs) (Co : Df P w K mg base "conflicts" 6 ["tree", "values", "wished"] spConf) (Wh : Df P w K mg base "is_whole" 1 ["thing"] (spWholeX K)) (a : At K mg "can_keep" s_can_keep) : DfB P w K mg base "can_keep" 7 ["tree", "values", "wished", "kept"] ["kept", "wished", "values", "tree"] (spCanKeep K) := by
  refine DfB.mk' a sc_can_keep (fun vs H Q E h => ?_) (fun _ _ _ _ _ _ us hl => match us, hl with | [_, _, _, _], _ => rfl) (fun _ _ _ _ _ _ us hl => match us, hl with | [_, _, _, _], _ => rfl) (fun f cdv A outer s H vs Q E hr h => ?_)
  · obtain ⟨_, _, _, _, _, _, _, _, _, _, rfl, _⟩ := h
    rfl
  obtain ⟨v, t, av, W, ns, ws, kp, N, D, b, rfl, ht, hz, ea, la, eW, nd, lt, hN, aD, hk, q⟩ := h
  have lw : ws.length ≤ t.size := few_below t.size nd lt
  refine ⟨_, (pss_cons (ps_expr (pe_df Cs (hr.mono (by decide)) (pa_cons (pv 0) (pa_cons (pv 1) (pa_cons (pv 2) pa_nil)))))
 (pss_cons (ps_set (i := 4) sc_can_keep.nd rfl (.inr rfl) (pe_df Co hr (pa_cons (pv 0) (pa_cons (pv 1) (pa_cons (pv 2) pa_nil)))))
 (pss_cons (ps_if (pt_not (pt_val (pe_callB call_isi (by rfl) B.isinstance (by decide +kernel) (pa_cons (pv 3) (pa_cons (pe_bltn (v := .ty "list") (by rfl) B.list (by decide +kernel) rfl) pa_nil))))) (pss_one (ps_ret pe_bl)) pss_nil)
 (pss_cons (ps_for PassesOwn.never rfl (pi_enum (by rfl) B.enumerate (pa_cons (pv 3) pa_nil)) (pg_tup rfl (pgs_cons (pg_name (i := 5) sc_can_keep.nd rfl (.inl rfl)) (pgs_cons (pg_name (i := 6) sc_can_keep.nd rfl (.inl rfl)) pgs_nil))) (pss_one (ps_if (PW.pt (pw_or (pt_not (pt_val (pe_df Wh (hr.mono (by decide)) (pa_cons (pv 6) pa_nil)))) (pw_or (pt_cmp (pc_dnotin (hu_of hr) (pv 6) (pv 4))) (pw_or1 (pt_cmpR (show OpR _ (compareOp .In) (rIn K false) from op_in_seq) (pv 6) (pe_slice sl_list (pv 3) po_none (po_some (pv 5))) (by rfl)))))) (pss_one (ps_ret pe_bl)) pss_nil)))
 (pss_one (ps_ret (pe_not (pe_callB (cr_any rfl) (by rfl) An (by decide +kernel) (pa_cons (pe_lc2 (own := [("one", 7), ("other", 8)]) (vs1 := [8]) (g := (gName 7)) (g1 := (gName 8)) (tt := tYes) (tt1 := tYes) (by rfl) sc_can_keep.nd (show PI _ _ _ (iList K _) from pi_list (pv 3)) (blkOk_by (N := n_can_keep) (sc := defScope s_can_keep) (by decide +kernel)) (by decide) (fun _ _ _ _ _ => (pg_name (i := 7) sc_can_keep.nd rfl (.inl rfl))) (fun _ _ _ _ _ => pts_nil) (fun _ _ _ _ _ => by exact (show PI _ _ _ (iList K _) from pi_list (pv 3))) (fun _ _ _ _ _ => (pg_name (i := 8) sc_can_keep.nd rfl (.inl rfl))) (fun _ _ _ _ _ => pts_nil) (fun _ _ _ _ _ => (pe_cmpR (show OpR _ (compareOp .In) (rIn K false) from op_in_seq) (pv 8) (pe_dget (hu_of hr) (pv 4) (pv 7) (fun _ _ => rfl)) (by rfl)))) pa_nil))))))))), ?_⟩
  refine ⟨_, rfl, _, rfl, _, rfl, v, t, av, W, ns, ws, rfl, ht, hz, ea, la, eW, nd, lt, fun H1 s1 => ?_⟩
  refine ⟨_, rfl, _, rfl, _, rfl, v, t, av, W, ns, ws, rfl, ht.same s1, hz, s1 _ _ ea, la, s1 _ _ eW, lw, lt, fun H2 R N2 D2 s2 nR hN2 aD2 rows => ?_⟩
  obtain rfl := hN2.uniq hN
  have eD : confOf D2 (valAt ns) t.size = confOf D (valAt ns) t.size := by
    funext a
    unfold confOf
    refine List.filter_congr fun b _ => ?_
    rw [(aD2 a).uniq (aD a) b]
  rw [eD] at rows
  obtain ⟨prs, eR, kR, rR⟩ := rows
  have s02 := s1.trans s2
  rcases hk with ⟨nl, rfl⟩ | ⟨k, ks, rfl, l60, ndk, inN, hk⟩
  · obtain ⟨ty, hty, kit⟩ := nl.same s02
    exact ⟨_, rfl, _, _, _, _, false, rfl, .ty "list", hty, kit, false, rfl, iteT (q _ s02)⟩
  obtain ⟨xs, rest, ek, rfl⟩ : ∃ xs rest, H k = some (.lst xs) ∧ xs = ks.map natV ++ rest := by
    rcases hk with ⟨e, _⟩ | ⟨x, r, e, _⟩
    · exact ⟨_, [], e, by rw [List.append_nil]⟩
    · exact ⟨_, _, e, rfl⟩
  have ek2 := s02 _ _ ek
  refine ⟨_, rfl, _, _, _, _, true, rfl, .ty "list", .base (.lst ek2), rfl, true, rfl, iteF ?_⟩
  refine ⟨_, rfl, k, _, rfl, .of ek2, for_it (walk_enum (K := K) (a := k) (xs := ks.map natV ++ rest)) (fun i σ H' => (∃ y5 y6 : Option V, σ = [some v, some (.ref av), some (.ref W), some (.ref k), some (.ref R), y5, y6, none, none]) ∧ Same H2 H' ∧ i ≤ ks.length) ⟨⟨_, _, rfl⟩, .refl _, Nat.zero_le _⟩ (fun i σ H' _ h' => .of (h'.2.1 _ _ ek2)) (fun i x σ H3 H4 hi h3 hy => ?_) (fun σ H3 h3 => ?_)⟩
  · obtain ⟨⟨y5, y6, rfl⟩, s3, li⟩ := h3
    obtain ⟨T, x1, x2, rfl, nT, rfl, g1, g2⟩ := hy
    obtain rfl : V.int ((i : Nat) : Int) = x1 := Option.some.inj g1
    have g2 : (ks.map natV ++ rest)[i]? = some x2 := g2
    have sT := Same.new (o := .tup [V.int ((i : Nat) : Int), x2]) nT
    have s04 := s02.trans (s3.trans sT)
    have eR4 := sT _ _ (s3 _ _ eR)
    have ek4 := s04 _ _ ek
    refine ⟨T, _, rfl, .of upd_same, rfl, _, _, rfl, _, [], rfl, rfl, ?_⟩
    by_cases c : i < ks.length
    · rw [List.getElem?_append_left (by rw [List.length_map]; exact c), List.getElem?_map, List.getElem?_eq_getElem c] at g2
      obtain rfl : natV ks[i] = x2 := Option.some.inj g2
      have hm := List.getElem_mem c
      have nin := take_new (List.pairwise_iff_getElem.mpr (List.pairwise_iff_getElem.mp ndk)) (List.getElem?_eq_getElem c)
      generalize ks[i] = x at hm nin eR4 ek4 s04 sT ⊢
      obtain ⟨ad, had, vad⟩ := kvN_get (prs := prs) (x := x) (by rw [kR]; exact List.mem_reverse.mpr (inN x hm))
      refine ⟨_, rfl, natV x, true, rfl, whole_intW, true, rfl, iteF ?_⟩
      refine ⟨_, rfl, _, rfl, R, some (V.ref ad), rfl, .inl ⟨kvN prs, Sum.inl (x : Int), .inl eR4, rfl, vad.symm⟩, false, rfl, iteF ?_⟩
      refine ⟨_, rfl, _, rfl, _, rfl, _, rfl, k, _, rfl, .of ek4, fun S nS => ?_⟩
      have eS : cutV (ks.map natV ++ rest) none (some ((i : Nat) : Int)) = (ks.take i).map natV := by
        rw [cut_to, List.take_append_of_le_length (by rw [List.length_map]; omega), List.map_take]
      rw [eS]
      refine ⟨S, _, rfl, .inl (.of upd_same), rfl, flat_nats _, _, rfl, ?_⟩
      rw [show (if false = true then !inV (natV x) ((ks.take i).map natV) else inV (natV x) ((ks.take i).map natV)) = decide (x ∈ ks.take i) from inV_nat x _, decide_eq_false nin]
      exact iteF ⟨⟨_, _, rfl⟩, s3.trans (sT.trans (Same.new nS)), c⟩
    · have ei : i = ks.length := by omega
      subst ei
      rcases hk with ⟨e, _⟩ | ⟨x, r, e, rfl, bad⟩
      · exfalso
        rw [ek] at e
        have := congrArg List.length (HO.lst.inj (Option.some.inj e))
        rw [this, List.length_map] at hi
        omega
      rw [ek] at e
      have e2 := HO.lst.inj (Option.some.inj e)
      rw [e2, List.getElem?_append_right (by rw [List.length_map]; exact Nat.le_refl _), List.length_map, Nat.sub_self] at g2
      obtain rfl : x = x2 := Option.some.inj g2
      rcases bad with wh | ⟨z, rfl, bad⟩
      · exact ⟨_, rfl, x, false, rfl, wh.same s04, false, rfl, iteT (q _ s04)⟩
      · refine ⟨_, rfl, V.int z, true, rfl, whole_intW, true, rfl, iteF ?_⟩
        by_cases inz : ∃ n : Nat, n ∈ N2 ∧ (n : Int) = z
        · obtain ⟨n, hn, rfl⟩ := inz
          obtain ⟨m, hm, em⟩ := bad.resolve_left fun h => h n hn rfl
          obtain rfl : m = n := by omega
          obtain ⟨ad, had, vad⟩ := kvN_get (prs := prs) (x := m) (by rw [kR]; exact List.mem_reverse.mpr hn)
          refine ⟨_, rfl, _, rfl, R, some (V.ref ad), rfl, .inl ⟨kvN prs, Sum.inl (m : Int), .inl eR4, rfl, vad.symm⟩, false, rfl, iteF ?_⟩
          refine ⟨_, rfl, _, rfl, _, rfl, _, rfl, k, _, rfl, .of ek4, fun S nS => ?_⟩
          have eS : cutV (ks.map natV ++ rest) none (some ((ks.length : Nat) : Int)) = ks.map natV := by
            rw [cut_to, List.take_append_of_le_length (by rw [List.length_map]; exact Nat.le_refl _), List.take_of_length_le (by rw [List.length_map]; exact Nat.le_refl _)]
          rw [eS]
          refine ⟨S, _, rfl, .inl (.of upd_same), rfl, flat_nats _, _, rfl, ?_⟩
          rw [show (if false = true then !inV (V.int (m : Int)) (ks.map natV) else inV (V.int (m : Int)) (ks.map natV)) = decide (m ∈ ks) from inV_nat m _, decide_eq_true hm]
          exact iteT (q _ (s04.trans (Same.new nS)))
        · refine ⟨_, rfl, _, rfl, R, none, rfl, .inl ⟨kvN prs, Sum.inl z, .inl eR4, rfl, (kvN_noneZ fun n hn en => inz ⟨n, List.mem_reverse.mp (by rw [← kR]; exact hn), en⟩).symm⟩, true, rfl, iteT (q _ s04)⟩
  · obtain ⟨⟨y5, y6, rfl⟩, s3, li⟩ := h3
    have er : rest = [] := by
      rw [List.length_append, List.length_map] at li
      exact List.length_eq_zero_iff.mp (by omega)
    subst er
    rw [List.append_nil] at ek ek2
    have eb : b = freeOf D (valAt ns) t.size ks := by
      rcases hk with ⟨_, e⟩ | ⟨x, r, e, _⟩
      · exact e
      · exfalso
        rw [ek] at e
        have := congrArg List.length (HO.lst.inj (Option.some.inj e))
        rw [List.length_append, List.length_cons] at this
        omega
    have ek3 := s3 _ _ ek2
    have eR3 := s3 _ _ eR
    refine ⟨_, rfl, k, rfl, ⟨_, .of ek3⟩, fun L hL => ?_⟩
    refine lc2_it (walk_list (K := K) (a := k) (xs := ks.map natV)) (fun i H' => Same H3 H' ∧ H' L = some (.lst (((ks.take i).flatMap fun a => ks.map fun b => decide (b ∈ confOf D (valAt ns) t.size a)).map V.bl))) ⟨Same.new hL, upd_same⟩ (fun i H' _ h' => .of (h'.1 _ _ ek3)) (fun i x H4 H5 hi h4 hy => ?_) (fun H4 h4 => ?_)
    · obtain ⟨s4, e4⟩ := h4
      obtain ⟨rfl, hx⟩ := hy
      rw [List.getElem?_map] at hx
      obtain ⟨c, hc, rfl⟩ := Option.map_eq_some_iff.mp hx
      have cN := inN c (List.mem_of_getElem? hc)
      obtain ⟨ad, had, vad⟩ := kvN_get (prs := prs) (x := c) (by rw [kR]; exact List.mem_reverse.mpr cN)
      have ead := rR _ had
      have et : ((ks.take (i + 1)).flatMap fun a => ks.map fun b => decide (b ∈ confOf D (valAt ns) t.size a)) = ((ks.take i).flatMap fun a => ks.map fun b => decide (b ∈ confOf D (valAt ns) t.size a)) ++ ks.map fun b => decide (b ∈ confOf D (valAt ns) t.size c) := by
        rw [List.take_add_one, hc, List.flatMap_append]
        congr 1
        show [c].flatMap _ = _
        rw [List.flatMap_cons, List.flatMap_nil, List.append_nil]
      have lf : ∀ l : List Nat, (l.flatMap fun a => ks.map fun b => decide (b ∈ confOf D (valAt ns) t.size a)).length ≤ l.length * ks.length := fun l => by
        induction l with
        | nil => exact Nat.zero_le _
        | cons a r ih =>
          rw [List.flatMap_cons, List.length_append, List.length_map, List.length_cons, Nat.succ_mul]
          omega
      have l1 := lf (ks.take i)
      have l2 : (ks.take i).length ≤ 60 := by rw [List.length_take]; omega
      have l3 : (ks.take i).length * ks.length ≤ 60 * 60 := Nat.mul_le_mul l2 l60
      refine ⟨rfl, ?_⟩
      refine yes_lcA ?_
      refine ⟨_, rfl, k, rfl, ⟨_, .of (s4 _ _ ek3)⟩, ?_⟩
      refine in_it (walk_list (K := K) (a := k) (xs := ks.map natV)) (fun j H' => Same H3 H' ∧ H' L = some (.lst ((((ks.take i).flatMap fun a => ks.map fun b => decide (b ∈ confOf D (valAt ns) t.size a)) ++ (ks.take j).map fun b => decide (b ∈ confOf D (valAt ns) t.size c)).map V.bl))) ⟨s4, by rw [List.take_zero, List.map_nil, List.append_nil]; exact e4⟩ (fun j H' _ h' => .of (h'.1 _ _ ek3)) (fun j x H6 H7 hj h6 hy => ?_) (fun H6 h6 => ?_)
      · obtain ⟨s6, e6⟩ := h6
        obtain ⟨rfl, hx2⟩ := hy
        rw [List.getElem?_map] at hx2
        obtain ⟨d, hd, rfl⟩ := Option.map_eq_some_iff.mp hx2
        refine ⟨rfl, yes_lcA ?_⟩
        refine ⟨_, rfl, _, rfl, _, rfl, R, V.ref ad, rfl, .inl ⟨kvN prs, Sum.inl (c : Int), .inl (s6 _ _ eR3), rfl, vad.symm⟩, ?_⟩
        refine ⟨ad, _, rfl, .inl (.of (s6 _ _ (s3 _ _ ead))), rfl, flat_nats _, ?_⟩
        rw [show (if false = true then !inV (natV d) ((confOf D (valAt ns) t.size c).map natV) else inV (natV d) ((confOf D (valAt ns) t.size c).map natV)) = decide (d ∈ confOf D (valAt ns) t.size c) from inV_nat d _]
        refine ⟨_, e6, ?_, fun b o eb => ?_, ?_⟩
        · rw [List.length_map, List.length_append, List.length_map, List.length_take]
          show _ < 16777216
          omega
        · rw [upd_ne (ne_of_none eb hL)]
          exact s6 _ _ eb
        · simp only [upd_same, List.take_add_one, hd, Option.toList, List.map_append, List.append_assoc, List.map_cons, List.map_nil]
      · obtain ⟨s6, e6⟩ := h6
        rw [List.length_map, List.take_length, ← et] at e6
        exact ⟨s6, e6⟩
    · obtain ⟨s4, e4⟩ := h4
      rw [List.length_map, List.take_length] at e4
      refine ⟨L, _, rfl, .of e4, ?_⟩
      have ev : (!((ks.flatMap fun a => ks.map fun b => decide (b ∈ confOf D (valAt ns) t.size a)).any id)) = b := by
        rw [eb, List.any_flatMap]
        unfold freeOf
        congr 2
        funext a
        rw [List.any_map]
        rfl
      exact ⟨_, rfl, by rw [ev]; exact q _ (s02.trans (s3.trans s4))⟩
end
end HSP
namespace HSP
open PySem PySem.Spec PyProof.Rows L2
/-! ### _law_keeps -/
def OkP (D : Nat → Nat → Nat) (v : Nat → Int) (a b : Nat) : Prop := ¬ (D a b ≠ 0 ∧ v b < v a + (D a b : Int))
theorem freeOf_iff {D : Nat → Nat → Nat} {v : Nat → Int} {n : Nat} {ks : List Nat} (lt : ∀ x, x ∈ ks → x < n) : freeOf D v n ks = true ↔ ∀ a, a ∈ ks → ∀ b, b ∈ ks → OkP D v a b := by
  unfold freeOf
  rw [Bool.not_eq_true', ← Bool.not_eq_true, List.any_eq_true]
  constructor
  · intro h a ha b hb z
    exact h ⟨a, ha, List.any_eq_true.mpr ⟨b, hb, decide_eq_true (confOf_mem.mpr ⟨lt b hb, z.1, z.2⟩)⟩⟩
  · rintro h ⟨a, ha, h2⟩
    obtain ⟨b, hb, h3⟩ := List.any_eq_true.mp h2
    have := confOf_mem.mp (of_decide_eq_true h3)
    exact h a ha b hb this.2
section
variable {P : Program} {w : World} {K : PySem.W.Frag} {mg : Str → Option Value} {base : Heap}
theorem sc_law_keeps : FnScope n_law_keeps ["far", "a_values", "a_kept"] (defScope s_law_keeps) := ⟨rfl, rfl, rfl, by decide +kernel, rfl, by decide +kernel, by decide +kernel⟩
def spKeeps : Sp := fun vs H Q _ => ∃ (L va Kp : Addr) (D : Nat → Nat → Nat) (ns : List Int) (ks : List Nat), vs = [.ref L, .ref va, .ref Kp] ∧ FarT H L D ∧ H va = some (.lst (ns.map V.int)) ∧ H Kp = some (.lst (ks.map natV)) ∧ (∀ x, x ∈ ks → x < ns.length) ∧ ∀ H', Same H H' → Q (.bl (freeOf D (valAt ns) ns.length ks)) H'
theorem ok_keeps (B : Bl mg) (a : At K mg "_law_keeps" s_law_keeps) : Df P w K mg base "_law_keeps" 1 ["far", "a_values", "a_kept"] spKeeps := by
  refine Df.mk' a sc_law_keeps (fun vs H Q E h => ?_) (fun _ _ _ _ _ _ us hl => match us, hl with | [_, _, _], _ => rfl) (fun f cdv A outer s H vs Q E hr h => ?_)
  · obtain ⟨_, _, _, _, _, _, rfl, _⟩ := h
    rfl
  obtain ⟨L, va, Kp, D, ns, ks, rfl, ⟨kvs, eL, tb⟩, ea, ek, lt, q⟩ := h
  have two : 2 ≤ sizeLine := by show 2 ≤ 16777216; decide
  refine ⟨_, (pss_cons (ps_for PassesOwn.never rfl (pi_list (pv 2)) (pg_name (i := 3) sc_law_keeps.nd rfl (.inl rfl)) (pss_one (ps_for PassesOwn.never rfl (pi_list (pv 2)) (pg_name (i := 4) sc_law_keeps.nd rfl (.inl rfl)) (pss_one (ps_if (PW.pt (pw_and (pt_cmp (pc_din (hu_of hr) (pe_tup (pa_cons (pv 3) (pa_cons (pv 4) pa_nil))) (pv 0))) (pw_and1 (pt_cmpR op_lt (pe_op op_sub (pe_ix (show IxR _ (rIxL K) from ix_list) (pv 1) (pv 4) (fun _ _ => rfl)) (pe_ix (show IxR _ (rIxL K) from ix_list) (pv 1) (pv 3) (fun _ _ => rfl))) (pe_dget (hu_of hr) (pv 0) (pe_tup (pa_cons (pv 3) (pa_cons (pv 4) pa_nil))) (fun _ _ => rfl)) (nomark _))))) (pss_one (ps_ret pe_bl)) pss_nil)))))
 (pss_one (ps_ret pe_bl))), ?_⟩
  refine ⟨_, rfl, Kp, rfl, ⟨_, .of ek⟩, ?_⟩
  refine for_it (walk_list (K := K) (a := Kp) (xs := ks.map natV)) (fun i σ H' => (∃ y3 y4 : Option V, σ = [some (.ref L), some (.ref va), some (.ref Kp), y3, y4]) ∧ Same H H' ∧ ∀ a, a ∈ ks.take i → ∀ b, b ∈ ks → OkP D (valAt ns) a b) ⟨⟨_, _, rfl⟩, .refl _, fun _ h => nomatch h⟩ (fun i σ H' _ h' => .of (h'.2.1 _ _ ek)) (fun i x σ H3 H4 hi h3 hy => ?_) (fun σ H3 h3 => ?_)
  · obtain ⟨⟨y3, y4, rfl⟩, s3, dn3⟩ := h3
    obtain ⟨rfl, hx⟩ := hy
    rw [List.getElem?_map] at hx
    obtain ⟨c, hc, rfl⟩ := Option.map_eq_some_iff.mp hx
    have cm := List.mem_of_getElem? hc
    refine ⟨_, rfl, Kp, rfl, ⟨_, .of (s3 _ _ ek)⟩, ?_⟩
    refine for_it (walk_list (K := K) (a := Kp) (xs := ks.map natV)) (fun j σ H' => (∃ y4 : Option V, σ = [some (.ref L), some (.ref va), some (.ref Kp), some (natV c), y4]) ∧ Same H H' ∧ ∀ b, b ∈ ks.take j → OkP D (valAt ns) c b) ⟨⟨_, rfl⟩, s3, fun _ h => nomatch h⟩ (fun j σ H' _ h' => .of (h'.2.1 _ _ ek)) (fun j x σ H5 H6 hj h5 hy => ?_) (fun σ H5 h5 => ?_)
    · obtain ⟨⟨y4, rfl⟩, s5, dn5⟩ := h5
      obtain ⟨rfl, hx⟩ := hy
      rw [List.getElem?_map] at hx
      obtain ⟨b, hb, rfl⟩ := Option.map_eq_some_iff.mp hx
      have bm := List.mem_of_getElem? hb
      have next : OkP D (valAt ns) c b → ∀ x, x ∈ ks.take (j + 1) → OkP D (valAt ns) c x := fun ok x hx => by
        rw [List.take_add_one, hb] at hx
        rcases List.mem_append.mp hx with hx | hx
        · exact dn5 x hx
        · rw [List.mem_singleton.mp hx]
          exact ok
      refine ⟨_, rfl, _, rfl, two, fun T1 hT1 => ?_⟩
      have sT1 := Same.new (o := .tup [natV c, natV b]) hT1
      have s6 := s5.trans sT1
      refine ⟨_, rfl, L, _, rfl, .inr ⟨kvs, kyT c b, T1, .inl (s6 _ _ eL), rfl, upd_same, rfl⟩, decide (D c b ≠ 0), congrArg V.bl (tb.some c b), ?_⟩
      refine ite2 (fun c1 => ?_) (fun c1 => ⟨⟨_, rfl⟩, s6, next fun z => c1 (decide_eq_true z.1)⟩)
      have c1 : D c b ≠ 0 := of_decide_eq_true c1
      refine ⟨_, rfl, _, rfl, va, _, _, _, rfl, rfl, .of (s6 _ _ ea), atI_nat (valAt_get (lt b bm)), _, rfl, _, rfl, va, _, _, _, rfl, rfl, .of (s6 _ _ ea), atI_nat (valAt_get (lt c cm)), _, _, rfl, rfl, ?_⟩
      refine ⟨_, rfl, _, rfl, _, rfl, two, fun T2 hT2 => ?_⟩
      have s7 := s6.trans (Same.new (o := .tup [natV c, natV b]) hT2)
      refine ⟨L, natV (D c b), rfl, .inr ⟨kvs, kyT c b, T2, .inl (s7 _ _ eL), rfl, upd_same, by rw [tb, if_neg c1]⟩, _, _, rfl, rfl, _, rfl, ?_⟩
      refine ite2 (fun c2 => ?_) (fun c2 => ⟨⟨_, rfl⟩, s7, next fun z => c2 (decide_eq_true (by omega))⟩)
      have c2 := of_decide_eq_true c2
      have no : freeOf D (valAt ns) ns.length ks = false := by
        cases e : freeOf D (valAt ns) ns.length ks with
        | false => rfl
        | true => exact absurd ⟨c1, by omega⟩ ((freeOf_iff lt).mp e c cm b bm)
      have q7 := q _ s7
      rw [no] at q7
      exact q7
    · obtain ⟨⟨y4, rfl⟩, s5, dn5⟩ := h5
      rw [List.length_map, List.take_length] at dn5
      refine ⟨⟨_, _, rfl⟩, s5, fun a ha b hb => ?_⟩
      rw [List.take_add_one, hc] at ha
      rcases List.mem_append.mp ha with ha | ha
      · exact dn3 a ha b hb
      · rw [List.mem_singleton.mp ha]
        exact dn5 b hb
  · obtain ⟨⟨y3, y4, rfl⟩, s3, dn3⟩ := h3
    rw [List.length_map, List.take_length] at dn3
    have q3 := q _ s3
    rw [(freeOf_iff lt).mpr dn3] at q3
    exact q3
end
end HSP
namespace HSP
open PySem PySem.Spec PyProof.Rows L2
/-! ## xs == [], xs != [], whatever xs holds -/
section
variable {X : Cx}
def rNeN (K : PySem.W.Frag) : R2 := fun x y H Q => ∃ (a b : Addr) (xs : List V), x = .ref a ∧ y = .ref b ∧ SqL K H a xs ∧ SqL K H b [] ∧ Q (.bl (!xs.isEmpty)) H
def rEqN (K : PySem.W.Frag) : R2 := fun x y H Q => ∃ (a b : Addr) (xs : List V), x = .ref a ∧ y = .ref b ∧ SqL K H a xs ∧ SqL K H b [] ∧ Q (.bl xs.isEmpty) H
theorem op_neN (hu : X.A.units < cLine) : OpR X (compareOp .NotEq) (rNeN X.K) := by
  intro pins s σ H x y v u Q I rx ry h
  obtain ⟨a, b, xs, rfl, rfl, hx, hy, q⟩ := h
  cases rx
  cases ry
  obtain ⟨i1, r1, p1, _⟩ := I.list hx
  obtain ⟨i2, r2, p2, _⟩ := I.list hy
  cases r2
  cases r1 with
  | nil => exact PySem.SeqAt.RcNeAt.lists (e := fun _ => true) p1.isList p2.isList rfl hu (fun j h => absurd h (by simp)) X.prog X.w _ _ ⟨.bl false, H, I, rfl, q⟩
  | cons _ _ => exact PySem.SeqAt.RcNeAt.lists_lengths p1.isList p2.isList (by simp) hu X.prog X.w _ _ ⟨.bl true, H, I, rfl, q⟩
theorem op_eqN (hu : X.A.units < cLine) : OpR X (compareOp .Eq) (rEqN X.K) := by
  intro pins s σ H x y v u Q I rx ry h
  obtain ⟨a, b, xs, rfl, rfl, hx, hy, q⟩ := h
  cases rx
  cases ry
  obtain ⟨i1, r1, p1, _⟩ := I.list hx
  obtain ⟨i2, r2, p2, _⟩ := I.list hy
  cases r2
  cases r1 with
  | nil => exact PySem.SeqAt.RcAt.lists (e := fun _ => true) p1.isList p2.isList rfl hu (fun j h => absurd h (by simp)) X.prog X.w _ _ ⟨.bl true, H, I, rfl, q⟩
  | cons _ _ => exact PySem.SeqAt.RcAt.lists_lengths p1.isList p2.isList (by simp) hu X.prog X.w _ _ ⟨.bl false, H, I, rfl, q⟩
end
end HSP
namespace HSP
open PySem PySem.Spec PyProof.Rows L2
/-! ### _law_filled -/
/-- how great a filled value may be -/
def BndV (D : Nat → Nat → Nat) (v : Nat → Int) (ks : List Nat) (least : Int) (x j : Nat) (y : Int) : Prop := (∃ k, k ∈ ks ∧ (k = x ∧ y ≤ v k ∨ D k x ≠ 0 ∧ y ≤ v k + (D k x : Int))) ∨ y ≤ least + (j : Int)
theorem bnd_step {E : Nat → Nat → Prop} {D : Nat → Nat → Nat} (aD : AllL E D) {v : Nat → Int} {ks : List Nat} {least : Int} {o x i j : Nat} {y : Int} (h : BndV D v ks least o i y) (d : D o x ≠ 0) (lt : i < j) : BndV D v ks least x j (y + 1) := by
  rcases h with ⟨k, hk, h⟩ | h
  · refine .inl ⟨k, hk, .inr ?_⟩
    rcases h with ⟨rfl, h⟩ | ⟨d1, h⟩
    · exact ⟨d, by omega⟩
    · have := aD.add d1 d
      exact ⟨by omega, by omega⟩
  · exact .inr (by omega)
theorem bnd_fail {E : Nat → Nat → Prop} {D : Nat → Nat → Nat} (aD : AllL E D) {v : Nat → Int} {ks : List Nat} {least : Int} {o x i n : Nat} {y : Int} (h : BndV D v ks least o i y) (d : D o x ≠ 0) (lt : i < n) (gr : v x < y + 1) (le : least + (n : Int) ≤ v x) : ∃ k, k ∈ ks ∧ D k x ≠ 0 ∧ v x < v k + (D k x : Int) := by
  rcases h with ⟨k, hk, h⟩ | h
  · refine ⟨k, hk, ?_⟩
    rcases h with ⟨rfl, h⟩ | ⟨d1, h⟩
    · exact ⟨d, by omega⟩
    · have := aD.add d1 d
      exact ⟨by omega, by omega⟩
  · omega
theorem ite_cg {α : Type} {p q : Prop} [Decidable p] [Decidable q] {a b : α} (h : p ↔ q) : (if p then a else b) = if q then a else b := by
  by_cases c : p
  · rw [if_pos c, if_pos (h.mp c)]
  · rw [if_neg c, if_neg fun z => c (h.mpr z)]
/-- what told holds -/
def TldK (kvs : List (Key × V)) (w : Nat → Int) (S : Nat → Prop) [DecidablePred S] : Prop := ∀ x : Nat, valV kvs (Sum.inl (x : Int)) = if S x then some (V.int (w x)) else none
theorem tld_start (v : Nat → Int) (ks : List Nat) : TldK (mergeK [] (ks.map fun k : Nat => (Sum.inl (k : Int), V.int (v k)))) v fun x => x ∈ ks := fun x => by
  have all : ∀ (ks : List Nat) (kvs : List (Key × V)), valV (mergeK kvs (ks.map fun k : Nat => (Sum.inl (k : Int), V.int (v k)))) (Sum.inl (x : Int)) = if x ∈ ks then some (V.int (v x)) else valV kvs (Sum.inl (x : Int)) := fun ks => by
    induction ks with
    | nil => exact fun kvs => by rw [if_neg (by intro z; cases z)]; rfl
    | cons e r ih =>
      intro kvs
      show valV (mergeK (putK kvs (Sum.inl (e : Int)) (V.int (v e))) (r.map fun k : Nat => (Sum.inl (k : Int), V.int (v k)))) _ = _
      rw [ih, valV_put]
      by_cases c : x ∈ r
      · rw [if_pos c, if_pos (List.mem_cons_of_mem _ c)]
      · rw [if_neg c]
        by_cases d : x = e
        · subst d
          rw [if_pos rfl, if_pos List.mem_cons_self]
        · rw [if_neg (fun z => d (by have := Sum.inl.inj z; omega)), if_neg]
          intro z
          rcases List.mem_cons.mp z with z | z
          · exact d z
          · exact c z
  rw [all]
  rfl
section
variable {P : Program} {w : World} {K : PySem.W.Frag} {mg : Str → Option Value} {base : Heap}
theorem sc_law_filled : FnScope n_law_filled ["far", "a_values", "a_kept", "nodes"] (defScope s_law_filled) := ⟨rfl, rfl, rfl, by decide +kernel, rfl, by decide +kernel, by decide +kernel⟩
def spFilled : Sp := fun vs H Q _ => ∃ (E : Nat → Nat → Prop) (L va Kp Nl : Addr) (D : Nat → Nat → Nat) (ns : List Int) (ks N : List Nat), vs = [.ref L, .ref va, .ref Kp, .ref Nl] ∧ FarT H L D ∧ AllL E D ∧ Up E ∧ H va = some (.lst (ns.map V.int)) ∧ H Kp = some (.lst (ks.map natV)) ∧ H Nl = some (.lst (N.map natV)) ∧ (∀ x, x ∈ ks → x ∈ N) ∧ (∀ x, x ∈ N → x < ns.length) ∧ N.Pairwise (· < ·) ∧ (∀ a b, E a b → a ∈ N ∧ b ∈ N) ∧ N.length ≤ 10 ∧ ks.length ≤ 10 ∧ ∀ H', Same H H' → Q (.bl (freeOf D (valAt ns) ns.length ks)) H'
theorem ok_filled (B : Bl mg) (Dc : mg "dict" = none) (a : At K mg "_law_filled" s_law_filled) : Df P w K mg base "_law_filled" 1 ["far", "a_values", "a_kept", "nodes"] spFilled := by
  refine Df.mk' a sc_law_filled (fun vs H Q E h => ?_) (fun _ _ _ _ _ _ us hl => match us, hl with | [_, _, _, _], _ => rfl) (fun f cdv A outer s H vs Q E' hr h => ?_)
  · obtain ⟨_, _, _, _, _, _, _, _, _, rfl, _⟩ := h
    rfl
  obtain ⟨E, L, va, Kp, Nl, D, ns, ks, N, rfl, ⟨kvF, eL, tb⟩, aD, up, ea, ek, eN, inN, lt, srt, hEN, lN, lk, q⟩ := h
  have two : 2 ≤ sizeLine := by show 2 ≤ 16777216; decide
  refine ⟨_, (pss_cons (ps_set (i := 5) sc_law_filled.nd rfl (.inr rfl) (pe_callTy (call_dictP rfl) (by rfl) Dc (by decide +kernel) (pa_cons (pe_lc (own := [("node", 4)]) (g := (gName 4)) (tt := tYes) (by rfl) sc_law_filled.nd (pi_list (pv 2)) (blkOk_by (N := n_law_filled) (sc := defScope s_law_filled) (by decide +kernel)) (fun _ _ _ _ _ => (pg_name (i := 4) sc_law_filled.nd rfl (.inl rfl))) (fun _ _ _ _ _ => pts_nil) (fun _ _ _ _ _ => (pe_tup (pa_cons (pv 4) (pa_cons (pe_ix (show IxR _ (rIxL K) from ix_list) (pv 1) (pv 4) (fun _ _ => rfl)) pa_nil))))) pa_nil)))
 (pss_cons (ps_set (i := 6) sc_law_filled.nd rfl (.inl rfl) (pe_op op_sub (pe_callB (cr_min rfl) (by rfl) B.min (by decide +kernel) (pa_cons (pe_op op_cat (pe_lc (own := [("node", 4)]) (g := (gName 4)) (tt := tYes) (by rfl) sc_law_filled.nd (pi_list (pv 2)) (blkOk_by (N := n_law_filled) (sc := defScope s_law_filled) (by decide +kernel)) (fun _ _ _ _ _ => (pg_name (i := 4) sc_law_filled.nd rfl (.inl rfl))) (fun _ _ _ _ _ => pts_nil) (fun _ _ _ _ _ => (pe_ix (show IxR _ (rIxL K) from ix_list) (pv 1) (pv 4) (fun _ _ => rfl)))) (pe_lst (pa_cons pe_int pa_nil))) pa_nil)) (pe_callB call_len_seq (by rfl) B.len PySem.boot_len (pa_cons (pv 3) pa_nil))))
 (pss_cons (ps_for PassesOwn.never rfl (pi_list (pv 3)) (pg_name (i := 4) sc_law_filled.nd rfl (.inr rfl)) (pss_cons (ps_setLc (i := 7) (own := [("one", 8)]) (g := (gName 8)) (by rfl) sc_law_filled.nd rfl rfl (sw_true rfl rfl rfl (by decide +kernel)) (pi_list (pv 3)) (blkOk_by (N := n_law_filled) (sc := defScope s_law_filled) (by decide +kernel)) (fun _ _ _ _ _ => (pg_name (i := 8) sc_law_filled.nd rfl (.inl rfl))) (fun _ _ _ _ _ => (pts_one (PW.pt (pw_and (pt_cmpR op_lt (pv 8) (pv 4) (nomark _)) (pw_and1 (pt_cmp (pc_din (hu_of hr) (pe_tup (pa_cons (pv 8) (pa_cons (pv 4) pa_nil))) (pv 0)))))))) (fun _ _ _ _ _ => (pe_op op_add (pe_dget (hu_of hr) (pv 5) (pv 8) (fun _ _ => rfl)) pe_int)))
 (pss_one (ps_if (pt_cmp (pc_dnotin (hu_of hr) (pv 4) (pv 5))) (pss_one (ps_dput (hu_of hr) (pv 5) (pv 4) (pe_callB (cr_max rfl) (by rfl) B.max (by decide +kernel) (pa_cons (pe_op op_cat (pv 7) (pe_lst (pa_cons (pv 6) pa_nil))) pa_nil)) (by rfl))) (pss_one (ps_if (pt_cmpR (op_neN (Nat.lt_of_succ_lt (hu_of hr))) (pe_lc (own := [("number", 9)]) (g := (gName 9)) (by rfl) sc_law_filled.nd (pi_list (pv 7)) (blkOk_by (N := n_law_filled) (sc := defScope s_law_filled) (by decide +kernel)) (fun _ _ _ _ _ => (pg_name (i := 9) sc_law_filled.nd rfl (.inl rfl))) (fun _ _ _ _ _ => (pts_one (pt_cmpR op_gt (pv 9) (pe_dget (hu_of hr) (pv 5) (pv 4) (fun _ _ => rfl)) (nomark _)))) (fun _ _ _ _ _ => (pv 9))) (pe_lst pa_nil) (nomark _)) (pss_one (ps_ret pe_bl)) pss_nil))))))
 (pss_one (ps_ret pe_bl))))), ?_⟩
  have fewK : ∀ i, (ks.take i).length ≤ 10 := fun i => by rw [List.length_take]; omega
  refine ⟨_, rfl, Kp, rfl, ⟨_, .of ek⟩, fun D0 hD0 => ?_⟩
  refine lc_it (walk_list (K := K) (a := Kp) (xs := ks.map natV)) (fun i H' => Same H H' ∧ ∃ tl : List Addr, H' D0 = some (.lst (tl.map V.ref)) ∧ Paired (fun a (k : Nat) => H' a = some (.tup [natV k, V.int (valAt ns k)])) tl (ks.take i)) ⟨Same.new hD0, [], upd_same, .nil⟩ (fun i H' _ h' => .of (h'.1 _ _ ek)) (fun i x H3 H4 hi h3 hy => ?_) (fun H3 h3 => ?_)
  · obtain ⟨s3, tl, e3, p3⟩ := h3
    obtain ⟨rfl, hx⟩ := hy
    rw [List.getElem?_map] at hx
    obtain ⟨c, hc, rfl⟩ := Option.map_eq_some_iff.mp hx
    have cl := lt c (inN c (List.mem_of_getElem? hc))
    have l3 := Paired.length p3
    have f3 := fewK i
    refine ⟨rfl, ?_⟩
    refine yes_lcA ?_
    refine ⟨_, rfl, _, rfl, _, rfl, va, _, _, _, rfl, rfl, .of (s3 _ _ ea), atI_nat (valAt_get cl), two, fun U hU => ?_⟩
    have sU := Same.new (o := .tup [natV c, V.int (valAt ns c)]) hU
    have nU : U ≠ D0 := (ne_of_none e3 hU).symm
    refine ⟨_, sU _ _ e3, ?_, fun b o eb => ?_, tl ++ [U], ?_, ?_⟩
    · rw [List.length_map]
      exact small1000 (by omega)
    · rw [upd_ne (ne_of_none eb hD0)]
      exact sU _ _ (s3 _ _ eb)
    · rw [upd_same, List.map_append]
      rfl
    · rw [List.take_add_one, hc]
      refine Paired.app (Paired.mapP p3 fun a f h => ?_) (.cons ?_ .nil)
      · rw [upd_ne fun y => by rw [y, e3] at h; cases h]
        exact sU _ _ h
      · rw [upd_ne nU]
        exact upd_same
  obtain ⟨s3, tl, e3, p3⟩ := h3
  rw [List.length_map, List.take_length] at p3
  refine ⟨D0, tl, ks.map fun k : Nat => (Sum.inl (k : Int), V.int (valAt ns k)), rfl, .of e3, paired_map (Paired.mapP p3 fun _ _ h => .of h), fun T hT => ?_⟩
  have fT : H T = none := s3.free hT
  have tld0 := tld_start (valAt ns) ks
  have len0 : (mergeK [] (ks.map fun k : Nat => (Sum.inl (k : Int), V.int (valAt ns k)))).length ≤ 10 := by
    have := length_mergeK (ks.map fun k : Nat => ((Sum.inl (k : Int) : Key), V.int (valAt ns k))) []
    rw [List.length_map, List.length_nil] at this
    omega
  have s4 := s3.trans (Same.new (o := .dK (mergeK [] (ks.map fun k : Nat => (Sum.inl (k : Int), V.int (valAt ns k))))) hT)
  have eT : (upd H3 T (.dK (mergeK [] (ks.map fun k : Nat => (Sum.inl (k : Int), V.int (valAt ns k)))))) T = some (.dK (mergeK [] (ks.map fun k : Nat => (Sum.inl (k : Int), V.int (valAt ns k))))) := upd_same
  generalize upd H3 T (.dK (mergeK [] (ks.map fun k : Nat => (Sum.inl (k : Int), V.int (valAt ns k))))) = H4 at s4 eT ⊢
  generalize mergeK [] (ks.map fun k : Nat => (Sum.inl (k : Int), V.int (valAt ns k))) = kv0 at tld0 len0 eT
  refine ⟨_, rfl, Kp, rfl, ⟨_, .of (s4 _ _ ek)⟩, fun D1 hD1 => ?_⟩
  refine lc_it (walk_list (K := K) (a := Kp) (xs := ks.map natV)) (fun i H' => Same H4 H' ∧ H' D1 = some (.lst (((ks.take i).map (valAt ns)).map V.int))) ⟨Same.new hD1, upd_same⟩ (fun i H' _ h' => .of (h'.1 _ _ (s4 _ _ ek))) (fun i x H5 H6 hi h5 hy => ?_) (fun H5 h5 => ?_)
  · obtain ⟨s5, e5⟩ := h5
    obtain ⟨rfl, hx⟩ := hy
    rw [List.getElem?_map] at hx
    obtain ⟨c, hc, rfl⟩ := Option.map_eq_some_iff.mp hx
    have cl := lt c (inN c (List.mem_of_getElem? hc))
    have f3 := fewK i
    refine ⟨rfl, ?_⟩
    refine yes_lcA ?_
    refine ⟨_, rfl, _, rfl, va, _, _, _, rfl, rfl, .of (s5 _ _ (s4 _ _ ea)), atI_nat (valAt_get cl), _, e5, ?_, fun b o eb => ?_, ?_⟩
    · rw [List.length_map, List.length_map]
      exact small1000 (by omega)
    · rw [upd_ne (ne_of_none eb hD1)]
      exact s5 _ _ eb
    · rw [upd_same, List.take_add_one, hc, List.map_append, List.map_append]
      rfl
  obtain ⟨s5, e5⟩ := h5
  rw [List.length_map, List.take_length] at e5
  refine ⟨by show 1 ≤ 16777216; decide, fun Z hZ => ?_⟩
  have sZ := Same.new (o := .lst [V.int 0]) hZ
  refine ⟨D1, Z, _, _, rfl, rfl, sZ _ _ e5, upd_same, ?_, fun C hC => ?_⟩
  · rw [List.length_map, List.length_map]
    exact Nat.le_of_lt (small1000 (n := ks.length + 1) (by omega))
  have s6 := s5.trans (sZ.trans (Same.new (o := .lst ((ks.map (valAt ns)).map V.int ++ [V.int 0])) hC))
  have eC : (upd (upd H5 Z (.lst [V.int 0])) C (.lst ((ks.map (valAt ns)).map V.int ++ [V.int 0]))) C = some (.lst ((ks.map (valAt ns) ++ [0]).map V.int)) := by
    rw [upd_same, List.map_append]
    rfl
  generalize upd (upd H5 Z (.lst [V.int 0])) C (.lst ((ks.map (valAt ns)).map V.int ++ [V.int 0])) = H6 at s6 eC ⊢
  refine ⟨C, ks.map (valAt ns) ++ [0], rfl, .of eC, by rw [List.length_append]; exact Nat.succ_pos _, fun m _ least => ?_⟩
  have s07 := s4.trans s6
  refine ⟨_, rfl, Nl, _, rfl, .inl (.of (s07 _ _ eN)), _, _, rfl, rfl, ?_⟩
  have low : ∀ k, k ∈ ks → (m - ((N.map natV).length : Int)) + (N.length : Int) ≤ valAt ns k := fun k hk => by
    have := least (valAt ns k) (List.mem_append_left _ (List.mem_map.mpr ⟨k, hk, rfl⟩))
    rw [List.length_map]
    omega
  obtain ⟨lst, hl⟩ : ∃ x : Int, x = m - ((N.map natV).length : Int) := ⟨_, rfl⟩
  rw [← hl] at low
  have eT6 := s6 _ _ eT
  refine ⟨_, rfl, Nl, rfl, ⟨_, .of (s07 _ _ eN)⟩, ?_⟩
  rw [show ((fun i j => V.int (i - j)) m ((N.map natV).length : Int)) = V.int lst from by rw [hl]]
  refine for_it (walk_list (K := K) (a := Nl) (xs := N.map natV)) (fun i σ H' => (∃ y4 y7 y8 y9 : Option V, σ = [some (.ref L), some (.ref va), some (.ref Kp), some (.ref Nl), y4, some (.ref T), some (.int lst), y7, y8, y9]) ∧ Same H H' ∧ ∃ (kv : List (Key × V)) (w : Nat → Int), H' T = some (.dK kv) ∧ TldK kv w (fun x => x ∈ ks ∨ x ∈ N.take i) ∧ kv.length ≤ 10 + i ∧ (∀ k, k ∈ ks → w k = valAt ns k) ∧ (∀ x, x ∈ N.take i → ∀ o, o ∈ N.take i → D o x ≠ 0 → w o + 1 ≤ w x) ∧ ∀ (j x : Nat), N[j]? = some x → j < i → BndV D (valAt ns) ks lst x j (w x)) ⟨⟨_, _, _, _, rfl⟩, s07, kv0, valAt ns, eT6, ?_, by omega, fun _ _ => rfl, fun _ h => (nomatch h), fun j x _ h => absurd h (Nat.not_lt_zero j)⟩ (fun i σ H' _ h' => .of (h'.2.1 _ _ eN)) (fun i x σ H7 H8 hi h7 hy => ?_) (fun σ H7 h7 => ?_)
  · intro x
    rw [tld0 x]
    by_cases c : x ∈ ks
    · rw [if_pos c, if_pos (.inl c)]
    · rw [if_neg c, if_neg (fun z => z.elim c (fun y => nomatch y))]
  · obtain ⟨⟨y4, y7, y8, y9, rfl⟩, s7, kv, w1, e7, tl7, l7, kw, dn, bn⟩ := h7
    obtain ⟨rfl, hx⟩ := hy
    rw [List.length_map] at hi
    rw [List.getElem?_map] at hx
    obtain ⟨x, hN, rfl⟩ := Option.map_eq_some_iff.mp hx
    have xN := List.mem_of_getElem? hN
    have before : ∀ o, o ∈ N → o < x → ∃ j, N[j]? = some o ∧ j < i := fun o ho l => by
      obtain ⟨j, hj, e⟩ := List.getElem_of_mem ho
      refine ⟨j, by rw [List.getElem?_eq_getElem hj, e], ?_⟩
      obtain ⟨hi2, ei⟩ := List.getElem?_eq_some_iff.mp hN
      rcases Nat.lt_trichotomy j i with z | z | z
      · exact z
      · subst z
        omega
      · have := (List.pairwise_iff_getElem.mp srt) i j hi2 hj z
        omega
    have inT : ∀ {o j : Nat}, N[j]? = some o → j < i → o ∈ N.take i := fun {o j} h l => List.mem_of_getElem? (i := j) (by rw [List.getElem?_take_of_lt l]; exact h)
    have xout : x ∉ N.take i := take_new (srt.imp fun {a b} z => Nat.ne_of_lt z) hN
    have lows : ∀ o, o ∈ N → o < x → valV kv (Sum.inl (o : Int)) = some (V.int (w1 o)) := fun o ho l => by
      obtain ⟨j, hj, lj⟩ := before o ho l
      rw [tl7 o, if_pos (.inr (inT hj lj))]
    refine ⟨_, rfl, Nl, rfl, ⟨_, .of (s7 _ _ eN)⟩, fun Dl hDl => ?_⟩
    refine lc_it (walk_list (K := K) (a := Nl) (xs := N.map natV)) (fun j H' => Same H8 H' ∧ H' Dl = some (.lst ((((N.take j).filter fun o => decide (o < x) && decide (D o x ≠ 0)).map fun o => w1 o + 1).map V.int))) ⟨Same.new hDl, upd_same⟩ (fun j H' _ h' => .of (h'.1 _ _ (s7 _ _ eN))) (fun j x2 H9 H10 hj h9 hy => ?_) (fun H9 h9 => ?_)
    · obtain ⟨s9, e9⟩ := h9
      obtain ⟨rfl, hx⟩ := hy
      rw [List.getElem?_map] at hx
      obtain ⟨o, ho, rfl⟩ := Option.map_eq_some_iff.mp hx
      have oN := List.mem_of_getElem? ho
      have next : ((N.take (j + 1)).filter fun o => decide (o < x) && decide (D o x ≠ 0)) = ((N.take j).filter fun o => decide (o < x) && decide (D o x ≠ 0)) ++ [o].filter fun o => decide (o < x) && decide (D o x ≠ 0) := by
        rw [List.take_add_one, ho, List.filter_append]
        rfl
      have few : ((N.take j).filter fun o => decide (o < x) && decide (D o x ≠ 0)).length ≤ 10 := by
        have h1 := List.length_filter_le (fun o => decide (o < x) && decide (D o x ≠ 0)) (N.take j)
        rw [List.length_take] at h1
        omega
      refine ⟨rfl, ?_⟩
      refine ⟨_, rfl, _, rfl, _, _, rfl, rfl, _, rfl, ?_⟩
      refine ite2 (fun c1 => ?_) (fun c1 => ?_)
      · have c1 : o < x := by have := of_decide_eq_true c1; omega
        refine ⟨_, rfl, _, rfl, two, fun T1 hT1 => ?_⟩
        have sT1 := Same.new (o := .tup [natV o, natV x]) hT1
        have s10 := s9.trans sT1
        refine ⟨_, rfl, L, _, rfl, .inr ⟨kvF, kyT o x, T1, .inl (s10 _ _ (s7 _ _ eL)), rfl, upd_same, rfl⟩, decide (D o x ≠ 0), congrArg V.bl (tb.some o x), ?_⟩
        refine ite2 (fun c2 => ?_) (fun c2 => ?_)
        · have c2 : D o x ≠ 0 := of_decide_eq_true c2
          refine ⟨_, rfl, _, rfl, T, V.int (w1 o), rfl, .inl ⟨kv, Sum.inl (o : Int), .inl (s10 _ _ e7), rfl, (lows o oN c1).symm⟩, _, _, rfl, rfl, _, sT1 _ _ e9, ?_, fun b u eb => ?_, ?_⟩
          · rw [List.length_map, List.length_map]
            exact small1000 (by omega)
          · rw [upd_ne (ne_of_none eb hDl)]
            exact s10 b u eb
          · rw [upd_same, next, List.filter_cons, if_pos (by rw [decide_eq_true c1, decide_eq_true c2]; rfl), List.filter_nil, List.map_append, List.map_append]
            rfl
        · have c2 : ¬ D o x ≠ 0 := fun z => c2 (decide_eq_true z)
          refine ⟨s10, ?_⟩
          rw [next, List.filter_cons, if_neg (by rw [decide_eq_false c2, Bool.and_false]; exact Bool.false_ne_true), List.filter_nil, List.append_nil]
          exact sT1 _ _ e9
      · have c1 : ¬ o < x := fun z => c1 (decide_eq_true (by omega))
        refine ⟨s9, ?_⟩
        rw [next, List.filter_cons, if_neg (by rw [decide_eq_false c1, Bool.false_and]; exact Bool.false_ne_true), List.filter_nil, List.append_nil]
        exact e9
    · obtain ⟨s9, e9⟩ := h9
      rw [List.length_map, List.take_length] at e9
      have s79 := s7.trans s9
      have e79 := s9 _ _ e7
      obtain ⟨ls, els⟩ : ∃ ls, ls = (N.filter fun o => decide (o < x) && decide (D o x ≠ 0)).map fun o => w1 o + 1 := ⟨_, rfl⟩
      have inls : ∀ y, y ∈ ls ↔ ∃ o, o ∈ N ∧ o < x ∧ D o x ≠ 0 ∧ y = w1 o + 1 := fun y => by
        rw [els, List.mem_map]
        constructor
        · rintro ⟨o, ho, rfl⟩
          obtain ⟨h1, h2⟩ := List.mem_filter.mp ho
          rw [Bool.and_eq_true, decide_eq_true_iff, decide_eq_true_iff] at h2
          exact ⟨o, h1, h2.1, h2.2, rfl⟩
        · rintro ⟨o, h1, h2, h3, rfl⟩
          exact ⟨o, List.mem_filter.mpr ⟨h1, by rw [decide_eq_true h2, decide_eq_true h3]; rfl⟩, rfl⟩
      have lls : ls.length ≤ 10 := by
        rw [els, List.length_map]
        have := List.length_filter_le (fun o => decide (o < x) && decide (D o x ≠ 0)) N
        omega
      rw [← els] at e9
      have mem1 : ∀ y, y ∈ N.take (i + 1) → y ∈ N.take i ∨ y = x := fun y hy => by
        rw [List.take_add_one, hN] at hy
        rcases List.mem_append.mp hy with hy | hy
        · exact .inl hy
        · exact .inr (List.mem_singleton.mp hy)
      have mem2 : ∀ y, (y ∈ N.take (i + 1)) ↔ (y ∈ N.take i ∨ y = x) := fun y => ⟨mem1 y, fun h => by
        rw [List.take_add_one, hN]
        rcases h with h | rfl
        · exact List.mem_append_left _ h
        · exact List.mem_append_right _ (List.mem_singleton.mpr rfl)⟩
      have less : ∀ y, y ∈ N.take i → y < x := fun y hy => by
        obtain ⟨j, hj, e⟩ := List.getElem_of_mem hy
        rw [List.length_take] at hj
        rw [List.getElem_take] at e
        obtain ⟨hi2, ei⟩ := List.getElem?_eq_some_iff.mp hN
        have := (List.pairwise_iff_getElem.mp srt) j i (by omega) hi2 (by omega)
        omega
      by_cases kx : x ∈ ks
      · -- kept
        have vx : valV kv (Sum.inl (x : Int)) = some (V.int (w1 x)) := by rw [tl7 x, if_pos (.inl kx)]
        refine ⟨_, rfl, _, rfl, T, some (V.int (w1 x)), rfl, .inl ⟨kv, Sum.inl (x : Int), .inl e79, rfl, vx.symm⟩, false, rfl, iteF ?_⟩
        refine ⟨_, rfl, Dl, rfl, ⟨_, .of e9⟩, fun D2 hD2 => ?_⟩
        refine lc_it (walk_list (K := K) (a := Dl) (xs := ls.map V.int)) (fun j H' => Same H9 H' ∧ H' D2 = some (.lst (((ls.take j).filter fun y => decide (w1 x < y)).map V.int))) ⟨Same.new hD2, upd_same⟩ (fun j H' _ h' => .of (h'.1 _ _ e9)) (fun j x2 H11 H12 hj h11 hy => ?_) (fun H11 h11 => ?_)
        · obtain ⟨s11, e11⟩ := h11
          obtain ⟨rfl, hx⟩ := hy
          rw [List.getElem?_map] at hx
          obtain ⟨y, hy, rfl⟩ := Option.map_eq_some_iff.mp hx
          have next : ((ls.take (j + 1)).filter fun y => decide (w1 x < y)) = ((ls.take j).filter fun y => decide (w1 x < y)) ++ [y].filter fun y => decide (w1 x < y) := by
            rw [List.take_add_one, hy, List.filter_append]
            rfl
          have few : ((ls.take j).filter fun y => decide (w1 x < y)).length ≤ 10 := by
            have h1 := List.length_filter_le (fun y => decide (w1 x < y)) (ls.take j)
            rw [List.length_take] at h1
            omega
          refine ⟨rfl, ?_⟩
          refine ⟨_, rfl, _, rfl, _, rfl, T, V.int (w1 x), rfl, .inl ⟨kv, Sum.inl (x : Int), .inl (s11 _ _ e79), rfl, vx.symm⟩, _, _, rfl, rfl, _, rfl, ?_⟩
          refine ite2 (fun c => ?_) (fun c => ?_)
          · have c : w1 x < y := of_decide_eq_true c
            refine ⟨_, rfl, _, e11, ?_, fun b u eb => ?_, ?_⟩
            · rw [List.length_map]
              exact small1000 (by omega)
            · rw [upd_ne (ne_of_none eb hD2)]
              exact s11 _ _ eb
            · rw [upd_same, next, List.filter_cons, if_pos (decide_eq_true c), List.filter_nil, List.map_append]
              rfl
          · have c : ¬ w1 x < y := fun z => c (decide_eq_true z)
            refine ⟨s11, ?_⟩
            rw [next, List.filter_cons, if_neg (by rw [decide_eq_false c]; exact Bool.false_ne_true), List.filter_nil, List.append_nil]
            exact e11
        · obtain ⟨s11, e11⟩ := h11
          rw [List.length_map, List.take_length] at e11
          have s79b := s79.trans s11
          refine ⟨Nat.zero_le _, fun Z hZ => ?_⟩
          have sZ := Same.new (o := .lst []) hZ
          refine ⟨D2, Z, _, rfl, rfl, .of (sZ _ _ e11), .of upd_same, _, rfl, ?_⟩
          refine ite2 (fun c => ?_) (fun c => ?_)
          · have c : ∃ y, y ∈ ls ∧ w1 x < y := by
              cases e : ls.filter fun y => decide (w1 x < y) with
              | nil =>
                rw [e] at c
                cases c
              | cons y r =>
                have := List.mem_filter.mp (show y ∈ ls.filter fun y => decide (w1 x < y) by rw [e]; exact List.mem_cons_self)
                exact ⟨y, this.1, of_decide_eq_true this.2⟩
            obtain ⟨y, hy, gr⟩ := c
            obtain ⟨o, ho, lo, d, rfl⟩ := (inls y).mp hy
            obtain ⟨j, hj, lj⟩ := before o ho lo
            obtain ⟨k, hk, d2, bad⟩ := bnd_fail aD (x := x) (n := N.length) (bn j o hj lj) d (by omega) (by rw [← kw x kx]; exact gr) (low x kx)
            have no : freeOf D (valAt ns) ns.length ks = false := by
              cases e : freeOf D (valAt ns) ns.length ks with
              | false => rfl
              | true => exact absurd ⟨d2, bad⟩ ((freeOf_iff fun x hx => lt x (inN x hx)).mp e k hk x kx)
            have qq := q _ (s79b.trans sZ)
            rw [no] at qq
            exact qq
          · have c : ∀ y, y ∈ ls → y ≤ w1 x := fun y hy => by
              rcases Int.lt_or_le (w1 x) y with z | z
              · exfalso
                have : y ∈ ls.filter fun y => decide (w1 x < y) := List.mem_filter.mpr ⟨hy, decide_eq_true z⟩
                cases e : ls.filter fun y => decide (w1 x < y) with
                | nil =>
                  rw [e] at this
                  cases this
                | cons y2 r =>
                  rw [e] at c
                  exact c rfl
              · exact z
            refine ⟨⟨_, _, _, _, rfl⟩, s79b.trans sZ, kv, w1, sZ _ _ (s11 _ _ e79), fun y => ?_, by omega, kw, fun y hy o ho d => ?_, fun j y hj lj => ?_⟩
            · rw [tl7 y]
              refine ite_cg ⟨fun h => h.imp id fun h => (mem2 y).mpr (.inl h), fun h => ?_⟩
              rcases h with h | h
              · exact .inl h
              · rcases mem1 y h with h | rfl
                · exact .inr h
                · exact .inl kx
            · have lt2 := aD.lt up d
              rcases mem1 y hy with hy | rfl
              · rcases mem1 o ho with ho | rfl
                · exact dn y hy o ho d
                · have := less y hy
                  omega
              · rcases mem1 o ho with ho | rfl
                · exact c _ ((inls _).mpr ⟨o, List.mem_of_mem_take ho, lt2, d, rfl⟩)
                · omega
            · by_cases e : j = i
              · subst e
                rw [hN] at hj
                cases hj
                exact .inl ⟨x, kx, .inl ⟨rfl, by rw [kw x kx]; exact Int.le_refl _⟩⟩
              · exact bn j y hj (by omega)
      · -- not kept
        have vx : valV kv (Sum.inl (x : Int)) = none := by
          rw [tl7 x, if_neg]
          rintro (z | z)
          · exact kx z
          · exact xout z
        refine ⟨_, rfl, _, rfl, T, none, rfl, .inl ⟨kv, Sum.inl (x : Int), .inl e79, rfl, vx.symm⟩, true, rfl, iteT ?_⟩
        refine ⟨_, rfl, _, rfl, by show 1 ≤ 16777216; decide, fun Z hZ => ?_⟩
        have sZ := Same.new (o := .lst [V.int lst]) hZ
        refine ⟨Dl, Z, _, _, rfl, rfl, sZ _ _ e9, upd_same, ?_, fun C hC => ?_⟩
        · rw [List.length_map]
          exact Nat.le_of_lt (small1000 (n := ls.length + 1) (by omega))
        have sC := sZ.trans (Same.new (o := .lst (ls.map V.int ++ [V.int lst])) hC)
        have eC : (upd (upd H9 Z (.lst [V.int lst])) C (.lst (ls.map V.int ++ [V.int lst]))) C = some (.lst ((ls ++ [lst]).map V.int)) := by
          rw [upd_same, List.map_append]
          rfl
        generalize upd (upd H9 Z (.lst [V.int lst])) C (.lst (ls.map V.int ++ [V.int lst])) = H10 at sC eC ⊢
        refine ⟨C, ls ++ [lst], rfl, .of eC, by rw [List.length_append]; exact Nat.succ_pos _, fun mx hmx great => ?_⟩
        refine ⟨_, rfl, _, rfl, T, _, rfl, DPut.k (k := Sum.inl (x : Int)) (sC _ _ e79) (small1000 (by omega)), ⟨_, _, _, _, rfl⟩, fun b u eb => ?_, putK kv (Sum.inl (x : Int)) (V.int mx), fun y => if y = x then mx else w1 y, upd_same, fun y => ?_, ?_, fun k hk => ?_, fun y hy o ho d => ?_, fun j y hj lj => ?_⟩
        · rw [upd_ne (ne_of_none eb fT)]
          exact sC _ _ (s79 _ _ eb)
        · rw [valV_put]
          by_cases e : y = x
          · subst e
            rw [if_pos rfl, if_pos (.inr ((mem2 y).mpr (.inr rfl)))]
            show _ = some (V.int (if y = y then mx else w1 y))
            rw [if_pos rfl]
          · rw [if_neg (fun z => e (by have := Sum.inl.inj z; omega)), tl7 y]
            show _ = if _ then some (V.int (if y = x then mx else w1 y)) else none
            rw [if_neg e]
            exact ite_cg ⟨fun h => h.imp id fun h => (mem2 y).mpr (.inl h), fun h => h.imp id fun h => (mem1 y h).resolve_right e⟩
        · have := length_putK kv (Sum.inl (x : Int)) (V.int mx)
          omega
        · show (if k = x then mx else w1 k) = _
          rw [if_neg fun z : k = x => kx (z ▸ hk)]
          exact kw k hk
        · have lt2 := aD.lt up d
          show (if o = x then mx else w1 o) + 1 ≤ (if y = x then mx else w1 y)
          rcases mem1 y hy with hy | rfl
          · have ly := less y hy
            rw [if_neg (by omega), if_neg (by omega)]
            rcases mem1 o ho with ho | rfl
            · exact dn y hy o ho d
            · omega
          · rw [if_pos rfl, if_neg (by omega)]
            rcases mem1 o ho with ho | rfl
            · exact great _ (List.mem_append_left _ ((inls _).mpr ⟨o, List.mem_of_mem_take ho, lt2, d, rfl⟩))
            · omega
        · show BndV D (valAt ns) ks lst y j (if y = x then mx else w1 y)
          by_cases e : j = i
          · subst e
            rw [hN] at hj
            cases hj
            rw [if_pos rfl]
            rcases List.mem_append.mp hmx with h | h
            · obtain ⟨o, ho, lo, d, rfl⟩ := (inls _).mp h
              obtain ⟨j2, hj2, lj2⟩ := before o ho lo
              exact bnd_step aD (bn j2 o hj2 lj2) d lj2
            · rw [List.mem_singleton.mp h]
              exact .inr (by omega)
          · have hy := inT hj (show j < i by omega)
            have := less y hy
            rw [if_neg (by omega)]
            exact bn j y hj (by omega)
  · obtain ⟨⟨y4, y7, y8, y9, rfl⟩, s7, kv, w1, e7, tl7, l7, kw, dn, bn⟩ := h7
    rw [List.length_map, List.take_length] at dn
    have kp := keeps_of_fill aD (w := w1) (v := valAt ns) (fun a b e => dn b (hEN a b e).2 a (hEN a b e).1 (by have := (aD a).2 b 1 (.one e); omega)) kw
    have yes : freeOf D (valAt ns) ns.length ks = true := (freeOf_iff fun x hx => lt x (inN x hx)).mpr fun a ha b hb z => by
      have := kp a ha b hb z.1
      have := z.2
      omega
    have q7 := q _ s7
    rw [yes] at q7
    exact q7
end
end HSP
namespace HSP
open PySem PySem.Spec PyProof.Rows L2
/-! ## what the laws' right sides share -/
theorem Mid.of {ns : List Int} (h : Near ns) : Mid ns := fun v hv => by
  have := h v hv
  omega
def spRight : Sp := fun vs H Q _ => ∃ (p : Addr) (k : Nat), vs = [.ref p] ∧ DrAt H p k ∧ k ≤ 1000 ∧ ∀ H' : Hp, Keep p H H' → DrAt H' p (k + 200) → Q (.bl true) H'
end HSP
namespace HSP
open PySem PySem.Spec PyProof.Rows L2
/-! ### repr of a thing -/
def txtOf : V → PyData → Str
  | .non, _ => "None"
  | .bl b, _ => if b then "True" else "False"
  | .int i, _ => toString i
  | .str x, _ => reprText x
  | _, d => d.shown
def ReprOk (K : PySem.W.Frag) (H : Hp) (x : V) (d : PyData) : Prop := match x with
  | .non => True
  | .bl _ => True
  | .int i => i.natAbs.log2 < 1920
  | .str s => (reprText s).length ≤ sizeLine
  | .ref a => Dp K H (.ref a) d ∧ Fine d
  | _ => False
theorem Dp.same1 {K : PySem.W.Frag} {H H' : Hp} (s : Same H H') {x : V} {d : PyData} (h : ReprOk K H x d) (g : ∀ a, x = .ref a → Dp K H' (.ref a) d) : ReprOk K H' x d := by
  cases x with
  | ref a => exact ⟨g a rfl, h.2⟩
  | _ => exact h
section
variable {X : Cx}
def rReprV (K : PySem.W.Frag) : List V → Hp → VK → Prop := fun vs H Q => ∃ (x : V) (d : PyData), vs = [x] ∧ ReprOk K H x d ∧ Q (.str (txtOf x d)) H
theorem cr_reprV (hgd : X.A.guards = some []) (hu : X.A.units + 64 < cLine) : CallR X (.builtin "repr") (rReprV X.K) := by
  intro pins s σ H vs us Q I r h
  obtain ⟨x, d, rfl, ok, q⟩ := h
  cases x with
  | non =>
    obtain ⟨u, rfl, ru⟩ := vals1 r
    cases (show u = Value.none from ru)
    exact P.repr_of_none ⟨.str "None", H, I.tok _, ⟨_, rfl⟩, q⟩
  | bl y =>
    obtain ⟨u, rfl, ru⟩ := vals1 r
    cases (show u = Value.bool y from ru)
    exact P.repr_of_bool ⟨.str _, H, I.tok _, ⟨_, rfl⟩, q⟩
  | int i => exact SkE.call_repr_int pins s σ H _ us Q I r ⟨i, rfl, ok, q⟩
  | str y =>
    obtain ⟨u, rfl, ru⟩ := vals1 r
    obtain ⟨t, rfl⟩ := (show ∃ t, u = Value.str y t from ru)
    exact P.repr_of_str ⟨.str (reprText y), H, I.tok _, ⟨_, rfl⟩, q⟩ ok
  | ref a => exact cr_reprD hgd hu pins s σ H _ us Q I r ⟨a, d, rfl, ok.1, ok.2.show_, ok.2.dict, ok.2.deep, ok.2.len, q⟩
  | _ => exact ok.elim
end
end HSP
namespace HSP
open PySem PySem.Spec PyProof.Rows L2
/-! ## the representative -/
/-- the value nearest to v between two bounds -/
def clamp (lo hi : Option Int) (v : Int) : Int := match lo with
  | some l => if v ≤ l then l else match hi with
    | some h => if v ≥ h then h else v
    | none => v
  | none => match hi with
    | some h => if v ≥ h then h else v
    | none => v
/-- the values of the representative, in the order of the nodes -/
def repOf (g : Nat → Int) : Tr → Nat → Option Int → Option Int → List Int
  | .nil, _, _, _ => []
  | .nod l r, f, lo, hi => repOf g l f lo (some (clamp lo hi (g (f + l.size)))) ++ clamp lo hi (g (f + l.size)) :: repOf g r (f + l.size + 1) (some (clamp lo hi (g (f + l.size)))) hi
theorem repOf_nod (g : Nat → Int) (l r : Tr) (f : Nat) (lo hi : Option Int) : repOf g (.nod l r) f lo hi = repOf g l f lo (some (clamp lo hi (g (f + l.size)))) ++ clamp lo hi (g (f + l.size)) :: repOf g r (f + l.size + 1) (some (clamp lo hi (g (f + l.size)))) hi := rfl
theorem repOf_len (g : Nat → Int) : ∀ (t : Tr) (f : Nat) (lo hi : Option Int), (repOf g t f lo hi).length = t.size
  | .nil, _, _, _ => rfl
  | .nod l r, f, lo, hi => by
    rw [repOf_nod, List.length_append, List.length_cons, repOf_len g l, repOf_len g r]
    show _ = l.size + 1 + r.size
    omega
/-- bounds that do not cross -/
def Straight (lo hi : Option Int) : Prop := ∀ l h, lo = some l → hi = some h → l ≤ h
theorem straight_none : Straight none none := fun l h e => by cases e
theorem clamp_in {lo hi : Option Int} (s : Straight lo hi) (v : Int) : Straight lo (some (clamp lo hi v)) ∧ Straight (some (clamp lo hi v)) hi := by
  constructor
  · intro l h e1 e2
    subst e1
    cases e2
    cases hi with
    | none => show l ≤ if v ≤ l then l else v; split <;> omega
    | some d =>
      have := s l d rfl rfl
      show l ≤ if v ≤ l then l else if v ≥ d then d else v
      split <;> (try split) <;> omega
  · intro l h e1 e2
    subst e2
    cases e1
    cases lo with
    | none => show (if v ≥ h then h else v) ≤ h; split <;> omega
    | some d =>
      have := s d h rfl rfl
      show (if v ≤ d then d else if v ≥ h then h else v) ≤ h
      split <;> (try split) <;> omega
def upTo (hi : Option Int) (x : Int) : Prop := ∀ h, hi = some h → x ≤ h
def downTo (lo : Option Int) (x : Int) : Prop := ∀ l, lo = some l → l ≤ x
theorem rep_in {g : Nat → Int} : ∀ (t : Tr) (f : Nat) (lo hi : Option Int), Straight lo hi → (repOf g t f lo hi).Pairwise (· ≤ ·) ∧ ∀ x, x ∈ repOf g t f lo hi → downTo lo x ∧ upTo hi x
  | .nil, _, _, _, _ => ⟨.nil, fun x h => by cases h⟩
  | .nod l r, f, lo, hi, s => by
    rw [repOf_nod]
    obtain ⟨s1, s2⟩ := clamp_in s (g (f + l.size))
    obtain ⟨a1, a2⟩ := rep_in l f lo (some (clamp lo hi (g (f + l.size)))) s1
    obtain ⟨b1, b2⟩ := rep_in r (f + l.size + 1) (some (clamp lo hi (g (f + l.size)))) hi s2
    refine ⟨List.pairwise_append.mpr ⟨a1, List.pairwise_cons.mpr ⟨fun x hx => (b2 x hx).1 _ rfl, b1⟩, fun x hx y hy => ?_⟩, fun x hx => ?_⟩
    · have h1 := (a2 x hx).2 _ rfl
      rcases List.mem_cons.mp hy with z | z
      · rw [z]; exact h1
      · exact Int.le_trans h1 ((b2 y z).1 _ rfl)
    · rcases List.mem_append.mp hx with z | z
      · exact ⟨(a2 x z).1, fun h e => Int.le_trans ((a2 x z).2 _ rfl) (s2 _ _ rfl e)⟩
      · rcases List.mem_cons.mp z with z | z
        · rw [z]
          exact ⟨fun l e => s1 _ _ e rfl, fun h e => s2 _ _ rfl e⟩
        · exact ⟨fun l e => Int.le_trans (s1 _ _ e rfl) ((b2 x z).1 _ rfl), (b2 x z).2⟩
theorem clamp_id {lo hi : Option Int} {v : Int} (h1 : downTo lo v) (h2 : upTo hi v) : clamp lo hi v = v := by
  cases lo with
  | none => cases hi with
    | none => rfl
    | some h => have := h2 h rfl; show (if v ≥ h then h else v) = v; split <;> omega
  | some l => have := h1 l rfl; cases hi with
    | none => show (if v ≤ l then l else v) = v; split <;> omega
    | some h => have := h2 h rfl; show (if v ≤ l then l else if v ≥ h then h else v) = v; split <;> (try split) <;> omega
end HSP
namespace HSP
open PySem PySem.Spec PyProof.Rows L2
/-! ## the representative: the mathematics -/
/-- the bounds along a path -/
def stOf (g : Nat → Int) : Option Int → Option Int → List (Nat × Bool) → Option Int × Option Int
  | lo, hi, [] => (lo, hi)
  | lo, hi, (n, true) :: r => stOf g (some (clamp lo hi (g n))) hi r
  | lo, hi, (n, false) :: r => stOf g lo (some (clamp lo hi (g n))) r
theorem stOf_snoc (g : Nat → Int) : ∀ (p : List (Nat × Bool)) (lo hi : Option Int) (n : Nat) (b : Bool), stOf g lo hi (p ++ [(n, b)]) =
    if b = true then (some (clamp (stOf g lo hi p).1 (stOf g lo hi p).2 (g n)), (stOf g lo hi p).2) else ((stOf g lo hi p).1, some (clamp (stOf g lo hi p).1 (stOf g lo hi p).2 (g n)))
  | [], lo, hi, n, true => rfl
  | [], lo, hi, n, false => rfl
  | (m, true) :: r, lo, hi, n, b => stOf_snoc g r _ _ n b
  | (m, false) :: r, lo, hi, n, b => stOf_snoc g r _ _ n b
/-- the value at a node -/
def repAt (g : Nat → Int) (p : List (Nat × Bool)) (i : Nat) : Int := clamp (stOf g none none p).1 (stOf g none none p).2 (g i)
theorem repOf_at (g : Nat → Int) : ∀ (t : Tr) (f : Nat) (lo hi : Option Int) (i : Nat), f ≤ i → i < f + t.size → (repOf g t f lo hi)[i - f]? = some (clamp (stOf g lo hi (pOf t f i)).1 (stOf g lo hi (pOf t f i)).2 (g i))
  | .nil, f, _, _, i, h1, h2 => by
    have : Tr.nil.size = 0 := rfl
    omega
  | .nod l r, f, lo, hi, i, h1, h2 => by
    rw [size_nod] at h2
    rw [repOf_nod, pOf_nod]
    have ll := repOf_len g l f lo (some (clamp lo hi (g (f + l.size))))
    by_cases c : i = f + l.size
    · rw [if_pos c, List.getElem?_append_right (by omega), ll, c, show f + l.size - f - l.size = 0 by omega]
      rfl
    · rw [if_neg c]
      by_cases d : i < f + l.size
      · rw [if_pos d, List.getElem?_append_left (by omega)]
        exact repOf_at g l f lo _ i h1 d
      · rw [if_neg d, List.getElem?_append_right (by omega), ll, show i - f - l.size = (i - (f + l.size + 1)) + 1 by omega, List.getElem?_cons_succ]
        exact repOf_at g r (f + l.size + 1) _ hi i (by omega) (by omega)
theorem rep_get (g : Nat → Int) (t : Tr) {i : Nat} (h : i < t.size) : (repOf g t 0 none none)[i]? = some (repAt g (pOf t 0 i) i) := by
  have := repOf_at g t 0 none none i (Nat.zero_le _) (by omega)
  rw [Nat.sub_zero] at this
  exact this
/-! ### greater values -/
def optLe : Option Int → Option Int → Prop
  | some a, some b => a ≤ b
  | none, none => True
  | _, _ => False
theorem clamp_mono {lo hi lo' hi' : Option Int} {v v' : Int} (h1 : optLe lo lo') (h2 : optLe hi hi') (h3 : v ≤ v') (k : ∀ l h, lo' = some l → hi' = some h → l ≤ h) : clamp lo hi v ≤ clamp lo' hi' v' := by
  cases lo with
  | none => cases lo' with
    | some _ => exact h1.elim
    | none => cases hi with
      | none => cases hi' with
        | some _ => exact h2.elim
        | none => exact h3
      | some a => cases hi' with
        | none => exact h2.elim
        | some b =>
          have h2 : a ≤ b := h2
          show (if v ≥ a then a else v) ≤ if v' ≥ b then b else v'
          split <;> split <;> omega
  | some a => cases lo' with
    | none => exact h1.elim
    | some b =>
      have h1 : a ≤ b := h1
      cases hi with
      | none => cases hi' with
        | some _ => exact h2.elim
        | none =>
          show (if v ≤ a then a else v) ≤ if v' ≤ b then b else v'
          split <;> split <;> omega
      | some c => cases hi' with
        | none => exact h2.elim
        | some d =>
          have h2 : c ≤ d := h2
          have k := k b d rfl rfl
          show (if v ≤ a then a else if v ≥ c then c else v) ≤ if v' ≤ b then b else if v' ≥ d then d else v'
          split <;> split <;> (try split) <;> (try split) <;> omega
theorem rep_mono {g g' : Nat → Int} (n : Nat) (hg : ∀ i, i < n → g i ≤ g' i) : ∀ (t : Tr) (f : Nat) (lo hi lo' hi' : Option Int), f + t.size ≤ n → optLe lo lo' → optLe hi hi' → Straight lo' hi' → ∀ (i : Nat) (x y : Int), (repOf g t f lo hi)[i]? = some x → (repOf g' t f lo' hi')[i]? = some y → x ≤ y
  | .nil, _, _, _, _, _, _, _, _, _, i, x, y, h, _ => by cases h
  | .nod l r, f, lo, hi, lo', hi', hn, h1, h2, s, i, x, y, hx, hy => by
    rw [size_nod] at hn
    have hc := clamp_mono h1 h2 (hg (f + l.size) (by omega)) s
    obtain ⟨s1, s2⟩ := clamp_in s (g' (f + l.size))
    rw [repOf_nod] at hx hy
    have l1 := repOf_len g l f lo (some (clamp lo hi (g (f + l.size))))
    have l2 := repOf_len g' l f lo' (some (clamp lo' hi' (g' (f + l.size))))
    by_cases c : i < l.size
    · rw [List.getElem?_append_left (by omega)] at hx hy
      exact rep_mono n hg l f lo _ lo' _ (by omega) h1 (show optLe (some _) (some _) from hc) s1 i x y hx hy
    · rw [List.getElem?_append_right (by omega), l1] at hx
      rw [List.getElem?_append_right (by omega), l2] at hy
      cases e : i - l.size with
      | zero =>
        rw [e] at hx hy
        cases hx
        cases hy
        exact hc
      | succ j =>
        rw [e] at hx hy
        exact rep_mono n hg r (f + l.size + 1) _ hi _ hi' (by omega) (show optLe (some _) (some _) from hc) h2 s2 j x y hx hy
theorem clamp_add (lo hi : Option Int) (v d : Int) : clamp (lo.map (· + d)) (hi.map (· + d)) (v + d) = clamp lo hi v + d := by
  cases lo with
  | none => cases hi with
    | none => rfl
    | some h => show (if v + d ≥ h + d then h + d else v + d) = (if v ≥ h then h else v) + d; split <;> split <;> omega
  | some l => cases hi with
    | none => show (if v + d ≤ l + d then l + d else v + d) = (if v ≤ l then l else v) + d; split <;> split <;> omega
    | some h =>
      show (if v + d ≤ l + d then l + d else if v + d ≥ h + d then h + d else v + d) = (if v ≤ l then l else if v ≥ h then h else v) + d
      split <;> split <;> (try split) <;> (try split) <;> omega
theorem rep_add {g g' : Nat → Int} (d : Int) (n : Nat) (hg : ∀ i, i < n → g' i = g i + d) : ∀ (t : Tr) (f : Nat) (lo hi : Option Int), f + t.size ≤ n → repOf g' t f (lo.map (· + d)) (hi.map (· + d)) = (repOf g t f lo hi).map (· + d)
  | .nil, _, _, _, _ => rfl
  | .nod l r, f, lo, hi, hn => by
    rw [size_nod] at hn
    rw [repOf_nod, repOf_nod, hg _ (by omega), clamp_add, List.map_append, List.map_cons]
    rw [← rep_add d n hg l f lo (some (clamp lo hi (g (f + l.size)))) (by omega), ← rep_add d n hg r (f + l.size + 1) (some (clamp lo hi (g (f + l.size)))) hi (by omega)]
    rfl
/-! ### the labels along a path -/
theorem low_snoc (g : Nat → Int) : ∀ (p : List (Nat × Bool)) (n : Nat) (b : Bool), lowOf g (p ++ [(n, b)]) = if b = true then (match lowOf g p with | none => some (g n) | some m => some (max m (g n))) else lowOf g p
  | [], n, true => rfl
  | [], n, false => rfl
  | (k, false) :: r, n, b => low_snoc g r n b
  | (k, true) :: r, n, b => by
    have e : ∀ q, lowOf g ((k, true) :: q) = match lowOf g q with | none => some (g k) | some m => some (max (g k) m) := fun q => rfl
    rw [List.cons_append, e, e, low_snoc g r n b]
    cases b with
    | false => rfl
    | true =>
      rw [if_pos rfl, if_pos rfl]
      cases lowOf g r with
      | none => rfl
      | some m => exact congrArg some (by omega)
theorem high_snoc (g : Nat → Int) : ∀ (p : List (Nat × Bool)) (n : Nat) (b : Bool), highOf g (p ++ [(n, b)]) = if b = true then highOf g p else (match highOf g p with | none => some (g n) | some m => some (min m (g n)))
  | [], n, true => rfl
  | [], n, false => rfl
  | (k, true) :: r, n, b => high_snoc g r n b
  | (k, false) :: r, n, b => by
    have e : ∀ q, highOf g ((k, false) :: q) = match highOf g q with | none => some (g k) | some m => some (min (g k) m) := fun q => rfl
    rw [List.cons_append, e, e, high_snoc g r n b]
    cases b with
    | true => rfl
    | false =>
      rw [if_neg Bool.false_ne_true, if_neg Bool.false_ne_true]
      cases highOf g r with
      | none => rfl
      | some m => exact congrArg some (by omega)
/-- the first one above that kills -/
def killerOf (lab : Nat → Str) : List (Nat × Bool) → Option Nat
  | [] => none
  | (n, b) :: r => if kills (lab n) b = true then some n else killerOf lab r
/-- the nearest one above, found, on this side -/
def boundOf (lab : Nat → Str) (c : Bool) : List (Nat × Bool) → Option Nat → Option Nat
  | [], z => z
  | (n, b) :: r, z => boundOf lab c r (if b = c ∧ lab n = ("found" : Str) then some n else z)
theorem killerOf_snoc (lab : Nat → Str) : ∀ (p : List (Nat × Bool)) (n : Nat) (b : Bool), killerOf lab (p ++ [(n, b)]) = match killerOf lab p with | some k => some k | none => if kills (lab n) b = true then some n else none
  | [], n, b => rfl
  | (m, c) :: r, n, b => by
    show (if kills (lab m) c = true then some m else killerOf lab (r ++ [(n, b)])) = match (if kills (lab m) c = true then some m else killerOf lab r) with | some k => some k | none => _
    by_cases h : kills (lab m) c = true
    · rw [if_pos h, if_pos h]
    · rw [if_neg h, if_neg h]
      exact killerOf_snoc lab r n b
theorem boundOf_snoc (lab : Nat → Str) (c : Bool) : ∀ (p : List (Nat × Bool)) (z : Option Nat) (n : Nat) (b : Bool), boundOf lab c (p ++ [(n, b)]) z = if b = c ∧ lab n = ("found" : Str) then some n else boundOf lab c p z
  | [], _, _, _ => rfl
  | (_, _) :: r, _, n, b => boundOf_snoc lab c r _ n b
theorem killerOf_mem {lab : Nat → Str} : ∀ {p : List (Nat × Bool)} {k : Nat}, killerOf lab p = some k → ∃ b, (k, b) ∈ p
  | [], _, h => by cases h
  | (n, b) :: r, k, h => by
    have h : (if kills (lab n) b = true then some n else killerOf lab r) = some k := h
    by_cases c : kills (lab n) b = true
    · rw [if_pos c] at h
      cases h
      exact ⟨b, List.mem_cons_self⟩
    · rw [if_neg c] at h
      obtain ⟨b', hb⟩ := killerOf_mem h
      exact ⟨b', List.mem_cons_of_mem _ hb⟩
theorem str_low : ∀ l : Lb, (l.str = ("low" : Str)) ↔ l = .low := fun l => by cases l <;> exact ⟨fun h => by first | rfl | exact absurd h (by decide +kernel), fun h => by first | rfl | exact absurd h (by decide)⟩
theorem str_high : ∀ l : Lb, (l.str = ("high" : Str)) ↔ l = .high := fun l => by cases l <;> exact ⟨fun h => by first | rfl | exact absurd h (by decide +kernel), fun h => by first | rfl | exact absurd h (by decide)⟩
theorem str_found : ∀ l : Lb, (l.str = ("found" : Str)) ↔ l = .found := fun l => by cases l <;> exact ⟨fun h => by first | rfl | exact absurd h (by decide +kernel), fun h => by first | rfl | exact absurd h (by decide)⟩
theorem str_dead : ∀ l : Lb, (l.str = ("dead" : Str)) ↔ l = .dead := fun l => by cases l <;> exact ⟨fun h => by first | rfl | exact absurd h (by decide +kernel), fun h => by first | rfl | exact absurd h (by decide)⟩
theorem kills_lb (l : Lb) (b : Bool) : kills l.str b = if b = true then decide (l = .high) else decide (l = .low) := by
  cases b
  · show decide (l.str = ("low" : Str)) = decide (l = .low)
    exact decide_eq_decide.mpr (str_low l)
  · show decide (l.str = ("high" : Str)) = decide (l = .high)
    exact decide_eq_decide.mpr (str_high l)
/-- the labels of the ancestors on a path -/
def Told (g : Nat → Int) (lab : Nat → Lb) (p : List (Nat × Bool)) : Prop := ∀ q n b r, p = q ++ (n, b) :: r → lab n = lbOf (bndOf g q) (g n)
theorem Told.init {g : Nat → Int} {lab : Nat → Lb} {p : List (Nat × Bool)} {z : Nat × Bool} (h : Told g lab (p ++ [z])) : Told g lab p := fun q n b r e => h q n b (r ++ [z]) (by rw [e, List.append_assoc]; rfl)
theorem Told.last {g : Nat → Int} {lab : Nat → Lb} {p : List (Nat × Bool)} {n : Nat} {b : Bool} (h : Told g lab (p ++ [(n, b)])) : lab n = lbOf (bndOf g p) (g n) := h p n b [] rfl
/-- what is true along a path -/
def AliveAt (g : Nat → Int) (lab : Nat → Lb) (p : List (Nat × Bool)) : Prop := bndOf g p = some (stOf g none none p) ∧ killerOf (fun n => (lab n).str) p = none ∧
    (∀ l h, (stOf g none none p).1 = some l → (stOf g none none p).2 = some h → l < h) ∧
    (∀ l, (stOf g none none p).1 = some l → ∃ n b, boundOf (fun n => (lab n).str) true p none = some n ∧ (n, b) ∈ p ∧ lab n = .found ∧ g n = l) ∧
    (∀ h, (stOf g none none p).2 = some h → ∃ n b, boundOf (fun n => (lab n).str) false p none = some n ∧ (n, b) ∈ p ∧ lab n = .found ∧ g n = h)
def DeadAt (g : Nat → Int) (lab : Nat → Lb) (p : List (Nat × Bool)) : Prop := bndOf g p = none ∧ ∃ x k q b r, stOf g none none p = (some x, some x) ∧ killerOf (fun n => (lab n).str) p = some k ∧ p = q ++ (k, b) :: r ∧ bndOf g q ≠ none ∧ repAt g q k = x
def Crossed (lo hi : Option Int) : Prop := ∃ a b, lo = some a ∧ hi = some b ∧ b ≤ a
theorem bnd_dead {g : Nat → Int} {p : List (Nat × Bool)} (h : Crossed (lowOf g p) (highOf g p)) : bndOf g p = none := by
  obtain ⟨a, b, e1, e2, le⟩ := h
  unfold bndOf
  rw [e1, e2]
  exact if_pos le
theorem bnd_alive {g : Nat → Int} {p : List (Nat × Bool)} (h : ¬ Crossed (lowOf g p) (highOf g p)) : bndOf g p = some (lowOf g p, highOf g p) := by
  unfold bndOf
  cases e1 : lowOf g p with
  | none => rfl
  | some a => cases e2 : highOf g p with
    | none => rfl
    | some b =>
      show (if a ≥ b then none else some (some a, some b)) = _
      exact if_neg fun c => h ⟨a, b, e1, e2, c⟩
theorem bndOf_some {g : Nat → Int} {p : List (Nat × Bool)} {lo hi : Option Int} (h : bndOf g p = some (lo, hi)) : lowOf g p = lo ∧ highOf g p = hi := by
  by_cases c : Crossed (lowOf g p) (highOf g p)
  · rw [bnd_dead c] at h
    cases h
  · rw [bnd_alive c] at h
    cases h
    exact ⟨rfl, rfl⟩
theorem bndOf_none {g : Nat → Int} {p : List (Nat × Bool)} (h : bndOf g p = none) : Crossed (lowOf g p) (highOf g p) := by
  by_cases c : Crossed (lowOf g p) (highOf g p)
  · exact c
  · rw [bnd_alive c] at h
    cases h
/-- a label, where the interval is not empty -/
theorem lb_cases (lo hi : Option Int) (v : Int) (s : ∀ l h, lo = some l → hi = some h → l < h) : (lbOf (some (lo, hi)) v = .found ∧ clamp lo hi v = v ∧ (∀ l, lo = some l → l < v) ∧ ∀ b, hi = some b → v < b) ∨
    (lbOf (some (lo, hi)) v = .low ∧ ∃ l, lo = some l ∧ v ≤ l ∧ clamp lo hi v = l) ∨ (lbOf (some (lo, hi)) v = .high ∧ ∃ b, hi = some b ∧ b ≤ v ∧ clamp lo hi v = b) := by
  cases lo with
  | none => cases hi with
    | none => exact .inl ⟨rfl, rfl, fun _ e => (by cases e), fun _ e => (by cases e)⟩
    | some b =>
      by_cases c : v ≥ b
      · exact .inr (.inr ⟨(if_pos c : (if v ≥ b then Lb.high else .found) = .high), b, rfl, c, (if_pos c : (if v ≥ b then b else v) = b)⟩)
      · exact .inl ⟨(if_neg c : (if v ≥ b then Lb.high else .found) = .found), (if_neg c : (if v ≥ b then b else v) = v), fun _ e => (by cases e), fun _ e => (by cases e; omega)⟩
  | some l =>
    by_cases c : v ≤ l
    · exact .inr (.inl ⟨by unfold lbOf; exact if_pos c, l, rfl, c, by unfold clamp; exact if_pos c⟩)
    · cases hi with
      | none => exact .inl ⟨(if_neg c : (if v ≤ l then Lb.low else .found) = .found), (if_neg c : (if v ≤ l then l else v) = v), fun _ e => (by cases e; omega), fun _ e => (by cases e)⟩
      | some b =>
        have lt := s l b rfl rfl
        have e1 : lbOf (some (some l, some b)) v = if v ≤ l then .low else if v ≥ b then .high else .found := rfl
        have e2 : clamp (some l) (some b) v = if v ≤ l then l else if v ≥ b then b else v := rfl
        rw [e1, e2, if_neg c, if_neg c]
        by_cases d : v ≥ b
        · rw [if_pos d, if_pos d]
          exact .inr (.inr ⟨rfl, b, rfl, d, rfl⟩)
        · rw [if_neg d, if_neg d]
          exact .inl ⟨rfl, rfl, fun _ e => (by cases e; omega), fun _ e => (by cases e; omega)⟩
theorem clamp_same (x v : Int) : clamp (some x) (some x) v = x := by
  show (if v ≤ x then x else if v ≥ x then x else v) = x
  split
  · rfl
  · rw [if_pos (by omega)]
end HSP
namespace HSP
open PySem PySem.Spec PyProof.Rows L2
theorem units65 {k : Nat} {A : Around} (r : Room k A) : A.units + 65 < cLine := by have := r.un; omega
theorem path_ind {α : Type} {C : List α → Prop} (h0 : C []) (h1 : ∀ q z, C q → C (q ++ [z])) : ∀ (n : Nat) (p : List α), p.length = n → C p
  | 0, p, h => by rw [List.length_eq_zero_iff.mp h]; exact h0
  | n + 1, p, h => by
    rcases List.eq_nil_or_concat p with e | ⟨q, z, e⟩
    · rw [e]; exact h0
    · rw [e, List.concat_eq_append]
      refine h1 q z (path_ind h0 h1 n q ?_)
      rw [e, List.concat_eq_append, List.length_append, List.length_singleton] at h
      omega
theorem along (g : Nat → Int) (lab : Nat → Lb) (p : List (Nat × Bool)) (h : Told g lab p) : AliveAt g lab p ∨ DeadAt g lab p := by
  refine path_ind (C := fun p => Told g lab p → AliveAt g lab p ∨ DeadAt g lab p) (fun _ => .inl ⟨rfl, rfl, fun l h e => (by cases e), fun l e => (by cases e), fun l e => (by cases e)⟩) (fun q z ih ht => ?_) p.length p rfl h
  obtain ⟨n, b⟩ := z
  have hl := ht.last
  rcases ih ht.init with ⟨ab, ak, as_, a1, a2⟩ | ⟨db, x, k, q1, c, r, ds, dk, dp, dq, dr⟩
  · rcases hst : stOf g none none q with ⟨lo, hi⟩
    rw [hst] at ab as_ a1 a2
    obtain ⟨el, eh⟩ := bndOf_some ab
    rw [ab] at hl
    have st := stOf_snoc g q none none n b
    rw [hst] at st
    have lsn := low_snoc g q n b
    have hsn := high_snoc g q n b
    rw [el] at lsn
    rw [eh] at hsn
    have ksn := killerOf_snoc (fun n => (lab n).str) q n b
    rw [ak] at ksn
    have k2 : killerOf (fun n => (lab n).str) (q ++ [(n, b)]) = if kills (lab n).str b = true then some n else none := ksn
    rw [kills_lb] at k2
    have bT := boundOf_snoc (fun n => (lab n).str) true q none n b
    have bF := boundOf_snoc (fun n => (lab n).str) false q none n b
    have memq : ∀ {m : Nat} {c : Bool}, (m, c) ∈ q → (m, c) ∈ q ++ [(n, b)] := fun h => List.mem_append_left _ h
    have memn : (n, b) ∈ q ++ [(n, b)] := List.mem_append_right _ List.mem_cons_self
    rcases lb_cases lo hi (g n) as_ with ⟨e1, e2, e3, e4⟩ | ⟨e1, l, e2, e3, e4⟩ | ⟨e1, h, e2, e3, e4⟩
    · -- found
      rw [e1] at hl
      have fs : (lab n).str = ("found" : Str) := (str_found _).mpr hl
      refine .inl ?_
      cases b with
      | true =>
        have st' : stOf g none none (q ++ [(n, true)]) = (some (g n), hi) := by
          rw [st, if_pos rfl]
          exact congrArg (fun z => (some z, hi)) e2
        have l2 : lowOf g (q ++ [(n, true)]) = some (g n) := by
          rw [lsn, if_pos rfl]
          cases lo with
          | none => rfl
          | some l => have := e3 l rfl; exact congrArg some (by omega)
        have h2 : highOf g (q ++ [(n, true)]) = hi := by rw [hsn, if_pos rfl]
        refine ⟨?_, ?_, ?_, ?_, ?_⟩
        · rw [bnd_alive (by rw [l2, h2]; exact fun ⟨a, c, f1, f2, f3⟩ => (by cases f1; have := e4 c f2; omega)), l2, h2, st']
        · rw [k2, hl]
          rfl
        · rw [st']
          exact fun l h f1 f2 => (by cases f1; exact e4 h f2)
        · rw [st']
          intro l f1
          cases f1
          refine ⟨n, true, ?_, memn, hl, rfl⟩
          rw [bT, if_pos ⟨rfl, fs⟩]
        · rw [st']
          intro h f1
          obtain ⟨m, c, g1, g2, g3, g4⟩ := a2 h f1
          refine ⟨m, c, ?_, memq g2, g3, g4⟩
          rw [bF, if_neg (fun z => by cases z.1)]
          exact g1
      | false =>
        have st' : stOf g none none (q ++ [(n, false)]) = (lo, some (g n)) := by
          rw [st, if_neg Bool.false_ne_true]
          exact congrArg (fun z => (lo, some z)) e2
        have l2 : lowOf g (q ++ [(n, false)]) = lo := by rw [lsn, if_neg Bool.false_ne_true]
        have h2 : highOf g (q ++ [(n, false)]) = some (g n) := by
          rw [hsn, if_neg Bool.false_ne_true]
          cases hi with
          | none => rfl
          | some l => have := e4 l rfl; exact congrArg some (by omega)
        refine ⟨?_, ?_, ?_, ?_, ?_⟩
        · rw [bnd_alive (by rw [l2, h2]; exact fun ⟨a, c, f1, f2, f3⟩ => (by cases f2; have := e3 a f1; omega)), l2, h2, st']
        · rw [k2, hl]
          rfl
        · rw [st']
          exact fun l h f1 f2 => (by cases f2; exact e3 l f1)
        · rw [st']
          intro l f1
          obtain ⟨m, c, g1, g2, g3, g4⟩ := a1 l f1
          refine ⟨m, c, ?_, memq g2, g3, g4⟩
          rw [bT, if_neg (fun z => by cases z.1)]
          exact g1
        · rw [st']
          intro h f1
          cases f1
          refine ⟨n, false, ?_, memn, hl, rfl⟩
          rw [bF, if_pos ⟨rfl, fs⟩]
    · -- low
      rw [e1] at hl
      have nf : ¬ (lab n).str = ("found" : Str) := fun z => by have := (str_found _).mp z; rw [hl] at this; cases this
      subst e2
      cases b with
      | true =>
        refine .inl ?_
        have st' : stOf g none none (q ++ [(n, true)]) = (some l, hi) := by
          rw [st, if_pos rfl]
          exact congrArg (fun z => (some z, hi)) e4
        have l2 : lowOf g (q ++ [(n, true)]) = some l := by
          rw [lsn, if_pos rfl]
          exact congrArg some (by omega)
        have h2 : highOf g (q ++ [(n, true)]) = hi := by rw [hsn, if_pos rfl]
        refine ⟨?_, ?_, ?_, ?_, ?_⟩
        · rw [bnd_alive (by rw [l2, h2]; exact fun ⟨a, c, f1, f2, f3⟩ => (by cases f1; have := as_ l c rfl f2; omega)), l2, h2, st']
        · rw [k2, hl]
          rfl
        · rw [st']
          exact as_
        · rw [st']
          intro l' f1
          obtain ⟨m, c, g1, g2, g3, g4⟩ := a1 l' f1
          refine ⟨m, c, ?_, memq g2, g3, g4⟩
          rw [bT, if_neg (fun z => nf z.2)]
          exact g1
        · rw [st']
          intro h f1
          obtain ⟨m, c, g1, g2, g3, g4⟩ := a2 h f1
          refine ⟨m, c, ?_, memq g2, g3, g4⟩
          rw [bF, if_neg (fun z => nf z.2)]
          exact g1
      | false =>
        refine .inr ?_
        have st' : stOf g none none (q ++ [(n, false)]) = (some l, some l) := by
          rw [st, if_neg Bool.false_ne_true]
          exact congrArg (fun z => (some l, some z)) e4
        have l2 : lowOf g (q ++ [(n, false)]) = some l := by rw [lsn, if_neg Bool.false_ne_true]
        have h2 : ∃ c, highOf g (q ++ [(n, false)]) = some c ∧ c ≤ l := by
          rw [hsn, if_neg Bool.false_ne_true]
          cases hi with
          | none => exact ⟨_, rfl, e3⟩
          | some m => exact ⟨_, rfl, by omega⟩
        obtain ⟨c, h2, h3⟩ := h2
        refine ⟨bnd_dead ⟨l, c, l2, h2, h3⟩, l, n, q, false, [], st', ?_, rfl, ?_, ?_⟩
        · rw [k2, hl]
          rfl
        · rw [ab]
          exact fun z => by cases z
        · unfold repAt
          rw [hst]
          exact e4
    · -- high
      rw [e1] at hl
      have nf : ¬ (lab n).str = ("found" : Str) := fun z => by have := (str_found _).mp z; rw [hl] at this; cases this
      subst e2
      cases b with
      | false =>
        refine .inl ?_
        have st' : stOf g none none (q ++ [(n, false)]) = (lo, some h) := by
          rw [st, if_neg Bool.false_ne_true]
          exact congrArg (fun z => (lo, some z)) e4
        have l2 : lowOf g (q ++ [(n, false)]) = lo := by rw [lsn, if_neg Bool.false_ne_true]
        have h2 : highOf g (q ++ [(n, false)]) = some h := by
          rw [hsn, if_neg Bool.false_ne_true]
          exact congrArg some (by omega)
        refine ⟨?_, ?_, ?_, ?_, ?_⟩
        · rw [bnd_alive (by rw [l2, h2]; exact fun ⟨a, c, f1, f2, f3⟩ => (by cases f2; have := as_ a h f1 rfl; omega)), l2, h2, st']
        · rw [k2, hl]
          rfl
        · rw [st']
          exact as_
        · rw [st']
          intro l' f1
          obtain ⟨m, c, g1, g2, g3, g4⟩ := a1 l' f1
          refine ⟨m, c, ?_, memq g2, g3, g4⟩
          rw [bT, if_neg (fun z => nf z.2)]
          exact g1
        · rw [st']
          intro h f1
          obtain ⟨m, c, g1, g2, g3, g4⟩ := a2 h f1
          refine ⟨m, c, ?_, memq g2, g3, g4⟩
          rw [bF, if_neg (fun z => nf z.2)]
          exact g1
      | true =>
        refine .inr ?_
        have st' : stOf g none none (q ++ [(n, true)]) = (some h, some h) := by
          rw [st, if_pos rfl]
          exact congrArg (fun z => (some z, some h)) e4
        have h2 : highOf g (q ++ [(n, true)]) = some h := by rw [hsn, if_pos rfl]
        have l2 : ∃ c, lowOf g (q ++ [(n, true)]) = some c ∧ h ≤ c := by
          rw [lsn, if_pos rfl]
          cases lo with
          | none => exact ⟨_, rfl, e3⟩
          | some m => exact ⟨_, rfl, by omega⟩
        obtain ⟨c, l2, h3⟩ := l2
        refine ⟨bnd_dead ⟨c, h, l2, h2, h3⟩, h, n, q, true, [], st', ?_, rfl, ?_, ?_⟩
        · rw [k2, hl]
          rfl
        · rw [ab]
          exact fun z => by cases z
        · unfold repAt
          rw [hst]
          exact e4
  · refine .inr ⟨?_, x, k, q1, c, r ++ [(n, b)], ?_, ?_, ?_, dq, dr⟩
    · obtain ⟨a, d, e1, e2, le⟩ := bndOf_none db
      have lsn := low_snoc g q n b
      have hsn := high_snoc g q n b
      rw [e1] at lsn
      rw [e2] at hsn
      cases b with
      | true => exact bnd_dead ⟨_, _, lsn, hsn, by omega⟩
      | false => exact bnd_dead ⟨_, _, lsn, hsn, by omega⟩
    · rw [stOf_snoc, ds, clamp_same]
      cases b <;> rfl
    · rw [killerOf_snoc, dk]
    · rw [dp, List.append_assoc]
      rfl
/-- what stands above a node on a path is the node's own path -/
theorem pOf_split : ∀ (t : Tr) (f i : Nat) (q : List (Nat × Bool)) (n : Nat) (b : Bool) (r : List (Nat × Bool)), f ≤ i → i < f + t.size → pOf t f i = q ++ (n, b) :: r → pOf t f n = q
  | .nil, f, i, _, _, _, _, h1, h2, _ => by
    have : Tr.nil.size = 0 := rfl
    omega
  | .nod l r', f, i, q, n, b, r, h1, h2, e => by
    rw [size_nod] at h2
    rw [pOf_nod] at e ⊢
    by_cases c : i = f + l.size
    · rw [if_pos c] at e
      exact absurd e.symm (by simp)
    · rw [if_neg c] at e
      by_cases d : i < f + l.size
      · rw [if_pos d] at e
        cases q with
        | nil =>
          have e1 := List.cons.inj e
          have en := (Prod.mk.inj e1.1).1
          rw [if_pos en.symm]
        | cons y q' =>
          have e1 := List.cons.inj e
          have hn := pOf_in l f i (n, b) (by rw [e1.2]; exact List.mem_append_right _ List.mem_cons_self)
          have h3 : f ≤ n ∧ n < f + l.size := hn
          rw [if_neg (by omega), if_pos h3.2, pOf_split l f i q' n b r h1 d e1.2, e1.1]
      · rw [if_neg d] at e
        cases q with
        | nil =>
          have e1 := List.cons.inj e
          have en := (Prod.mk.inj e1.1).1
          rw [if_pos en.symm]
        | cons y q' =>
          have e1 := List.cons.inj e
          have hn := pOf_in r' (f + l.size + 1) i (n, b) (by rw [e1.2]; exact List.mem_append_right _ List.mem_cons_self)
          have h3 : f + l.size + 1 ≤ n ∧ n < f + l.size + 1 + r'.size := hn
          rw [if_neg (by omega), if_neg (by omega), pOf_split r' (f + l.size + 1) i q' n b r (by omega) (by omega) e1.2, e1.1]
theorem told_labs (g : Nat → Int) (t : Tr) {i : Nat} (h : i < t.size) : Told g (labAt g t) (pOf t 0 i) := fun q n b r e => by
  show lbOf (bndOf g (pOf t 0 n)) (g n) = _
  rw [pOf_split t 0 i q n b r (Nat.zero_le _) (by omega) e]
/-- the ancestors come before -/
theorem pre_anc : ∀ (t : Tr) (f : Nat) (p : List (Nat × Bool)) (k n : Nat) (s : List (Nat × Bool)), (pre t f p)[k]? = some (n, s) → ∀ z, z ∈ s → z ∈ p ∨ ∃ j s', j < k ∧ (pre t f p)[j]? = some (z.1, s')
  | .nil, _, _, _, _, _, h, _, _ => by cases h
  | .nod l r, f, p, k, n, s, h, z, hz => by
    rw [pre_nod] at h ⊢
    have la := pre_len l f (p ++ [(f + l.size, false)])
    cases k with
    | zero =>
      cases h
      exact .inl hz
    | succ k =>
      rw [List.getElem?_cons_succ] at h
      by_cases c : k < l.size
      · rw [List.getElem?_append_left (by omega)] at h
        rcases pre_anc l f _ k n s h z hz with q | ⟨j, s', lt, e⟩
        · rcases List.mem_append.mp q with q | q
          · exact .inl q
          · exact .inr ⟨0, p, Nat.succ_pos _, by rw [List.mem_singleton.mp q]; rfl⟩
        · refine .inr ⟨j + 1, s', Nat.succ_lt_succ lt, ?_⟩
          rw [List.getElem?_cons_succ, List.getElem?_append_left (by omega)]
          exact e
      · rw [List.getElem?_append_right (by omega), la] at h
        rcases pre_anc r _ _ (k - l.size) n s h z hz with q | ⟨j, s', lt, e⟩
        · rcases List.mem_append.mp q with q | q
          · exact .inl q
          · exact .inr ⟨0, p, Nat.succ_pos _, by rw [List.mem_singleton.mp q]; rfl⟩
        · refine .inr ⟨l.size + j + 1, s', by omega, ?_⟩
          rw [List.getElem?_cons_succ, List.getElem?_append_right (by omega), la, show l.size + j - l.size = j by omega]
          exact e
/-! ## owners -/
/-- o owns n -/
structure Owns (g : Nat → Int) (t : Tr) (n o : Nat) : Prop where
  lt : o < t.size
  found : labAt g t o = .found
  val : g o = repAt g (pOf t 0 n) n
theorem owns_found {g : Nat → Int} {t : Tr} {n : Nat} (h : n < t.size) (e : labAt g t n = .found) : Owns g t n n := by
  refine ⟨h, e, ?_⟩
  have e : lbOf (bndOf g (pOf t 0 n)) (g n) = .found := e
  rcases along g (labAt g t) _ (told_labs g t h) with ⟨ab, _, as_, _, _⟩ | ⟨db, _⟩
  · rw [ab] at e
    unfold repAt
    generalize stOf g none none (pOf t 0 n) = st at e as_ ⊢
    obtain ⟨lo, hi⟩ := st
    rcases lb_cases lo hi (g n) as_ with ⟨_, e2, _, _⟩ | ⟨e1, _⟩ | ⟨e1, _⟩
    · exact e2.symm
    · rw [e1] at e; cases e
    · rw [e1] at e; cases e
  · rw [db] at e
    cases e
theorem owns_low {g : Nat → Int} {t : Tr} {n : Nat} (h : n < t.size) (e : labAt g t n = .low) : ∃ o, boundOf (fun n => (labAt g t n).str) true (pOf t 0 n) none = some o ∧ Owns g t n o := by
  have e : lbOf (bndOf g (pOf t 0 n)) (g n) = .low := e
  rcases along g (labAt g t) _ (told_labs g t h) with ⟨ab, _, as_, a1, _⟩ | ⟨db, _⟩
  · rw [ab] at e
    have hr : repAt g (pOf t 0 n) n = clamp (stOf g none none (pOf t 0 n)).1 (stOf g none none (pOf t 0 n)).2 (g n) := rfl
    generalize stOf g none none (pOf t 0 n) = st at e as_ a1 hr
    obtain ⟨lo, hi⟩ := st
    rcases lb_cases lo hi (g n) as_ with ⟨e1, _⟩ | ⟨_, l, e2, e3, e4⟩ | ⟨e1, _⟩
    · rw [e1] at e; cases e
    · obtain ⟨o, b, g1, g2, g3, g4⟩ := a1 l e2
      exact ⟨o, g1, ⟨by have := (pOf_in t 0 n _ g2).2; omega, g3, by rw [g4, hr]; exact e4.symm⟩⟩
    · rw [e1] at e; cases e
  · rw [db] at e
    cases e
theorem owns_high {g : Nat → Int} {t : Tr} {n : Nat} (h : n < t.size) (e : labAt g t n = .high) : ∃ o, boundOf (fun n => (labAt g t n).str) false (pOf t 0 n) none = some o ∧ Owns g t n o := by
  have e : lbOf (bndOf g (pOf t 0 n)) (g n) = .high := e
  rcases along g (labAt g t) _ (told_labs g t h) with ⟨ab, _, as_, _, a2⟩ | ⟨db, _⟩
  · rw [ab] at e
    have hr : repAt g (pOf t 0 n) n = clamp (stOf g none none (pOf t 0 n)).1 (stOf g none none (pOf t 0 n)).2 (g n) := rfl
    generalize stOf g none none (pOf t 0 n) = st at e as_ a2 hr
    obtain ⟨lo, hi⟩ := st
    rcases lb_cases lo hi (g n) as_ with ⟨e1, _⟩ | ⟨e1, _⟩ | ⟨_, l, e2, e3, e4⟩
    · rw [e1] at e; cases e
    · rw [e1] at e; cases e
    · obtain ⟨o, b, g1, g2, g3, g4⟩ := a2 l e2
      exact ⟨o, g1, ⟨by have := (pOf_in t 0 n _ g2).2; omega, g3, by rw [g4, hr]; exact e4.symm⟩⟩
  · rw [db] at e
    cases e
theorem owns_dead {g : Nat → Int} {t : Tr} {n : Nat} (h : n < t.size) (e : labAt g t n = .dead) : ∃ k, killerOf (fun n => (labAt g t n).str) (pOf t 0 n) = some k ∧ (∃ b, (k, b) ∈ pOf t 0 n) ∧ ∀ o, Owns g t k o → Owns g t n o := by
  have e : lbOf (bndOf g (pOf t 0 n)) (g n) = .dead := e
  rcases along g (labAt g t) _ (told_labs g t h) with ⟨ab, _, as_, _, _⟩ | ⟨db, x, k, q, b, r, ds, dk, dp, dq, dr⟩
  · rw [ab] at e
    generalize stOf g none none (pOf t 0 n) = st at e as_
    obtain ⟨lo, hi⟩ := st
    rcases lb_cases lo hi (g n) as_ with ⟨e1, _⟩ | ⟨e1, _⟩ | ⟨e1, _⟩ <;> (rw [e1] at e; cases e)
  · refine ⟨k, dk, killerOf_mem dk, fun o ho => ⟨ho.lt, ho.found, ?_⟩⟩
    rw [ho.val, pOf_split t 0 n q k b r (Nat.zero_le _) (by omega) dp, dr]
    unfold repAt
    rw [ds, clamp_same]
end HSP
namespace HSP
open PySem PySem.Spec PyProof.Rows L2
/-! ### what is possible -/
def possAt (lab : Nat → Str) (p : List (Nat × Bool)) (i : Nat) : Bool :=
  if (killerOf lab p).isSome = true then decide (lab i = ("dead" : Str)) else if lab i = ("low" : Str) then (boundOf lab true p none).isSome else if lab i = ("high" : Str) then (boundOf lab false p none).isSome else decide (lab i = ("found" : Str))
def impOf (lab : Nat → Str) (t : Tr) : Option Nat := ((pre t 0 []).find? fun z => !possAt lab z.2 z.1).map (·.1)
theorem pOf_side : ∀ (t : Tr) (f i : Nat), f ≤ i → i < f + t.size → ∀ z, z ∈ pOf t f i → z.2 = decide (z.1 < i) ∧ z.1 ≠ i
  | .nil, _, _, _, _, z, hz => by cases hz
  | .nod l r, f, i, h1, h2, z, hz => by
    have hs : (Tr.nod l r).size = l.size + 1 + r.size := rfl
    rw [pOf_nod] at hz
    by_cases c : i = f + l.size
    · rw [if_pos c] at hz
      cases hz
    rw [if_neg c] at hz
    by_cases d : i < f + l.size
    · rw [if_pos d] at hz
      rcases List.mem_cons.mp hz with e | e
      · rw [e]
        exact ⟨(decide_eq_false (show ¬ f + l.size < i by omega)).symm, by show f + l.size ≠ i; omega⟩
      · exact pOf_side l f i h1 d z e
    · rw [if_neg d] at hz
      rcases List.mem_cons.mp hz with e | e
      · rw [e]
        exact ⟨(decide_eq_true (show f + l.size < i by omega)).symm, by show f + l.size ≠ i; omega⟩
      · exact pOf_side r (f + l.size + 1) i (by omega) (by omega) z e
theorem pOf_nodup : ∀ (t : Tr) (f i : Nat), ((pOf t f i).map (·.1)).Nodup
  | .nil, _, _ => List.nodup_nil
  | .nod l r, f, i => by
    rw [pOf_nod]
    by_cases c : i = f + l.size
    · rw [if_pos c]
      exact List.nodup_nil
    rw [if_neg c]
    by_cases d : i < f + l.size
    · rw [if_pos d, List.map_cons]
      refine List.nodup_cons.mpr ⟨fun h => ?_, pOf_nodup l f i⟩
      obtain ⟨z, hz, e⟩ := List.mem_map.mp h
      have := (pOf_in l f i z hz).2
      have e : z.1 = f + l.size := e
      omega
    · rw [if_neg d, List.map_cons]
      refine List.nodup_cons.mpr ⟨fun h => ?_, pOf_nodup r _ i⟩
      obtain ⟨z, hz, e⟩ := List.mem_map.mp h
      have := (pOf_in r _ i z hz).1
      have e : z.1 = f + l.size := e
      omega
end HSP
namespace HSP
open PySem PySem.Spec PyProof.Rows L2
/-! ## which numbers a node is met by -/
theorem way_lft {tw v : Int} (h : wayOf tw v .fin = .lft) : tw < 2 * v := by
  by_cases c : tw = 2 * v
  · unfold wayOf at h
    rw [if_pos c] at h
    cases h
  · by_cases d : tw < 2 * v
    · exact d
    · unfold wayOf at h
      rw [if_neg c, if_neg d] at h
      cases h
theorem way_rgt {tw v : Int} (h : wayOf tw v .fin = .rgt) : 2 * v < tw := by
  by_cases c : tw = 2 * v
  · unfold wayOf at h
    rw [if_pos c] at h
    cases h
  · by_cases d : tw < 2 * v
    · unfold wayOf at h
      rw [if_neg c, if_pos d] at h
      cases h
    · omega
/-- on the right side of a value above -/
def Past (g : Nat → Int) (tw : Int) (z : Nat × Bool) : Prop := if z.2 = true then 2 * g z.1 < tw else tw < 2 * g z.1
theorem met (g : Nat → Int) (tw : Int) : ∀ (t : Tr) (f i : Nat), f ≤ i → i < f + t.size → (i ∈ sPath g tw .fin t f ↔ ∀ z, z ∈ pOf t f i → Past g tw z)
  | .nil, f, i, h1, h2 => by
    have : Tr.nil.size = 0 := rfl
    omega
  | .nod l r, f, i, h1, h2 => by
    have e : sPath g tw .fin (.nod l r) f = (f + l.size) :: match wayOf tw (g (f + l.size)) .fin with | .fin => [] | .lft => sPath g tw .fin l f | .rgt => sPath g tw .fin r (f + l.size + 1) := rfl
    have ep : pOf (.nod l r) f i = if i = f + l.size then [] else if i < f + l.size then (f + l.size, false) :: pOf l f i else (f + l.size, true) :: pOf r (f + l.size + 1) i := rfl
    have z : (Tr.nod l r).size = l.size + 1 + r.size := rfl
    rw [z] at h2
    rw [e, ep]
    by_cases c : i = f + l.size
    · rw [if_pos c]
      exact ⟨fun _ z hz => absurd hz List.not_mem_nil, fun _ => by rw [c]; exact List.mem_cons_self⟩
    · rw [if_neg c]
      by_cases d : i < f + l.size
      · rw [if_pos d]
        have ih := met g tw l f i h1 d
        rw [List.mem_cons, List.forall_mem_cons]
        have pz : Past g tw (f + l.size, false) ↔ tw < 2 * g (f + l.size) := Iff.rfl
        rw [pz]
        by_cases k : tw < 2 * g (f + l.size)
        · have w : wayOf tw (g (f + l.size)) .fin = .lft := by unfold wayOf; rw [if_neg (by omega), if_pos k]
          rw [w]
          exact ⟨fun h => ⟨k, ih.mp (h.resolve_left c)⟩, fun h => .inr (ih.mpr h.2)⟩
        · refine ⟨fun h => ?_, fun h => absurd h.1 k⟩
          have h := h.resolve_left c
          cases w : wayOf tw (g (f + l.size)) .fin with
          | fin => rw [w] at h; cases h
          | lft => exact absurd (way_lft w) k
          | rgt =>
            rw [w] at h
            have := sPath_in g tw .fin r (f + l.size + 1) i h
            omega
      · rw [if_neg d]
        have ih := met g tw r (f + l.size + 1) i (by omega) (by omega)
        rw [List.mem_cons, List.forall_mem_cons]
        have pz : Past g tw (f + l.size, true) ↔ 2 * g (f + l.size) < tw := Iff.rfl
        rw [pz]
        by_cases k : 2 * g (f + l.size) < tw
        · have w : wayOf tw (g (f + l.size)) .fin = .rgt := by unfold wayOf; rw [if_neg (by omega), if_neg (by omega)]
          rw [w]
          exact ⟨fun h => ⟨k, ih.mp (h.resolve_left c)⟩, fun h => .inr (ih.mpr h.2)⟩
        · refine ⟨fun h => ?_, fun h => absurd h.1 k⟩
          have h := h.resolve_left c
          cases w : wayOf tw (g (f + l.size)) .fin with
          | fin => rw [w] at h; cases h
          | lft =>
            rw [w] at h
            have := sPath_in g tw .fin l f i h
            omega
          | rgt => exact absurd (way_rgt w) k
/-- between two bounds -/
def Btw (lo hi : Option Int) (tw : Int) : Prop := (∀ l, lo = some l → 2 * l < tw) ∧ ∀ h, hi = some h → tw < 2 * h
theorem past_btw (g : Nat → Int) (tw : Int) : ∀ p : List (Nat × Bool), (∀ z, z ∈ p → Past g tw z) ↔ Btw (lowOf g p) (highOf g p) tw
  | [] => ⟨fun _ => ⟨fun _ h => (by cases h), fun _ h => (by cases h)⟩, fun _ z hz => absurd hz List.not_mem_nil⟩
  | (n, true) :: r => by
    have ih := past_btw g tw r
    have el : lowOf g ((n, true) :: r) = match lowOf g r with | none => some (g n) | some m => some (max (g n) m) := rfl
    have eh : highOf g ((n, true) :: r) = highOf g r := rfl
    rw [List.forall_mem_cons, ih, el, eh]
    have pz : Past g tw (n, true) ↔ 2 * g n < tw := Iff.rfl
    rw [pz]
    cases lowOf g r with
    | none => exact ⟨fun h => ⟨fun l e => (by cases e; exact h.1), h.2.2⟩, fun h => ⟨h.1 _ rfl, fun l e => (by cases e), h.2⟩⟩
    | some m => exact ⟨fun h => ⟨fun l e => (by cases e; have := h.2.1 _ rfl; have := h.1; omega), h.2.2⟩, fun h => ⟨(by have := h.1 _ rfl; omega), fun l e => (by cases e; have := h.1 _ rfl; omega), h.2⟩⟩
  | (n, false) :: r => by
    have ih := past_btw g tw r
    have el : highOf g ((n, false) :: r) = match highOf g r with | none => some (g n) | some m => some (min (g n) m) := rfl
    have eh : lowOf g ((n, false) :: r) = lowOf g r := rfl
    rw [List.forall_mem_cons, ih, el, eh]
    have pz : Past g tw (n, false) ↔ tw < 2 * g n := Iff.rfl
    rw [pz]
    cases highOf g r with
    | none => exact ⟨fun h => ⟨h.2.1, fun l e => (by cases e; exact h.1)⟩, fun h => ⟨h.2 _ rfl, h.1, fun l e => (by cases e)⟩⟩
    | some m => exact ⟨fun h => ⟨h.2.1, fun l e => (by cases e; have := h.2.2 _ rfl; have := h.1; omega)⟩, fun h => ⟨(by have := h.2 _ rfl; omega), h.1, fun l e => (by cases e; have := h.2 _ rfl; omega)⟩⟩
end HSP
namespace HSP
open PySem PySem.Spec PyProof.Rows L2
theorem way_of_lt {tw v : Int} (m : Md) (h : tw < 2 * v) : wayOf tw v m = .lft := by
  unfold wayOf
  rw [if_neg (by omega), if_pos h]
theorem way_of_gt {tw v : Int} (m : Md) (h : 2 * v < tw) : wayOf tw v m = .rgt := by
  unfold wayOf
  rw [if_neg (by omega), if_neg (by omega)]
theorem way_of_eq {tw v : Int} (m : Md) (h : tw = 2 * v) : wayOf tw v m = m := by
  unfold wayOf
  rw [if_pos h]
theorem found_at (g : Nat → Int) (tw : Int) : ∀ (t : Tr) (f i : Nat), sEnd g tw .fin t f = (true, i) ↔ i ∈ sPath g tw .fin t f ∧ tw = 2 * g i
  | .nil, _, _ => ⟨fun h => (by cases h), fun h => absurd h.1 List.not_mem_nil⟩
  | .nod l r, f, i => by
    have e2 : sPath g tw .fin (.nod l r) f = (f + l.size) :: match wayOf tw (g (f + l.size)) .fin with | .fin => [] | .lft => sPath g tw .fin l f | .rgt => sPath g tw .fin r (f + l.size + 1) := rfl
    rw [sEnd_nod, e2, List.mem_cons]
    rcases Int.lt_trichotomy tw (2 * g (f + l.size)) with c | c | c
    · rw [way_of_lt _ c]
      show sEnd g tw .fin l f = (true, i) ↔ (i = f + l.size ∨ i ∈ sPath g tw .fin l f) ∧ tw = 2 * g i
      rw [found_at g tw l f i]
      refine ⟨fun h => ⟨.inr h.1, h.2⟩, fun h => ⟨h.1.resolve_left fun z => ?_, h.2⟩⟩
      have := h.2
      rw [z] at this
      omega
    · rw [way_of_eq _ c]
      show (true, f + l.size) = (true, i) ↔ (i = f + l.size ∨ i ∈ []) ∧ tw = 2 * g i
      refine ⟨fun h => ?_, fun h => ?_⟩
      · cases h
        exact ⟨.inl rfl, c⟩
      · rw [h.1.resolve_right List.not_mem_nil]
    · rw [way_of_gt _ c]
      show sEnd g tw .fin r (f + l.size + 1) = (true, i) ↔ (i = f + l.size ∨ i ∈ sPath g tw .fin r (f + l.size + 1)) ∧ tw = 2 * g i
      rw [found_at g tw r (f + l.size + 1) i]
      refine ⟨fun h => ⟨.inr h.1, h.2⟩, fun h => ⟨h.1.resolve_left fun z => ?_, h.2⟩⟩
      have := h.2
      rw [z] at this
      omega
/-- a label found says: its own value is found there -/
theorem lab_found (g : Nat → Int) {t : Tr} {i : Nat} (hi : i < t.size) : labAt g t i = .found ↔ sEnd g (2 * g i) .fin t 0 = (true, i) := by
  rw [found_at, met g (2 * g i) t 0 i (Nat.zero_le _) (by omega), past_btw]
  have out : labAt g t i = lbOf (bndOf g (pOf t 0 i)) (g i) := rfl
  rw [out]
  unfold bndOf
  generalize lowOf g (pOf t 0 i) = lo
  generalize highOf g (pOf t 0 i) = hi'
  generalize g i = v
  match lo, hi' with
  | none, none => exact ⟨fun _ => ⟨⟨fun _ h => (by cases h), fun _ h => (by cases h)⟩, rfl⟩, fun _ => rfl⟩
  | some l, none =>
    have e : lbOf (match some l, (none : Option Int) with | some a, some b => if a ≥ b then none else some (some a, some b) | a, b => some (a, b)) v = if v ≤ l then .low else .found := rfl
    rw [e]
    by_cases c : v ≤ l
    · rw [if_pos c]
      exact ⟨fun h => (by cases h), fun h => (by have := h.1.1 l rfl; omega)⟩
    · rw [if_neg c]
      exact ⟨fun _ => ⟨⟨fun _ h => (by cases h; omega), fun _ h => (by cases h)⟩, rfl⟩, fun _ => rfl⟩
  | none, some b =>
    have e : lbOf (match (none : Option Int), some b with | some a, some b => if a ≥ b then none else some (some a, some b) | a, b => some (a, b)) v = if v ≥ b then .high else .found := rfl
    rw [e]
    by_cases c : v ≥ b
    · rw [if_pos c]
      exact ⟨fun h => (by cases h), fun h => (by have := h.1.2 b rfl; omega)⟩
    · rw [if_neg c]
      exact ⟨fun _ => ⟨⟨fun _ h => (by cases h), fun _ h => (by cases h; omega)⟩, rfl⟩, fun _ => rfl⟩
  | some l, some b =>
    show lbOf (if l ≥ b then none else some (some l, some b)) v = .found ↔ _
    by_cases d : l ≥ b
    · rw [if_pos d]
      exact ⟨fun h => (by cases h), fun h => (by have h1 := h.1.1 l rfl; have h2 := h.1.2 b rfl; omega)⟩
    · rw [if_neg d]
      show (if v ≤ l then Lb.low else if v ≥ b then .high else .found) = .found ↔ _
      by_cases c : v ≤ l
      · rw [if_pos c]
        exact ⟨fun h => (by cases h), fun h => (by have := h.1.1 l rfl; omega)⟩
      · by_cases c2 : v ≥ b
        · rw [if_neg c, if_pos c2]
          exact ⟨fun h => (by cases h), fun h => (by have := h.1.2 b rfl; omega)⟩
        · rw [if_neg c, if_neg c2]
          exact ⟨fun _ => ⟨⟨fun _ h => (by cases h; omega), fun _ h => (by cases h; omega)⟩, rfl⟩, fun _ => rfl⟩
theorem found_mem {g : Nat → Int} {t : Tr} {i : Nat} : i ∈ foundOf g t t.size ↔ i < t.size ∧ sEnd g (2 * g i) .fin t 0 = (true, i) := by
  unfold foundOf
  rw [List.mem_filter, List.mem_range, beq_iff_eq]
  exact and_congr_right fun h => lab_found g h
end HSP
namespace HSP
open PySem PySem.Spec PyProof.Rows L2
def frPosn (r : Bool × Nat) : Nat := if r.1 = true then 2 * r.2 + 1 else 2 * r.2
theorem frPosn_in (g : Nat → Int) (tw : Int) (m : Md) : ∀ (t : Tr) (f : Nat), 2 * f ≤ frPosn (sEnd g tw m t f) ∧ frPosn (sEnd g tw m t f) ≤ 2 * (f + t.size)
  | .nil, f => ⟨Nat.le_refl _, Nat.le_refl _⟩
  | .nod l r, f => by
    have z : (Tr.nod l r).size = l.size + 1 + r.size := rfl
    rw [sEnd_nod, z]
    cases wayOf tw (g (f + l.size)) m with
    | fin =>
      show 2 * f ≤ 2 * (f + l.size) + 1 ∧ 2 * (f + l.size) + 1 ≤ _
      omega
    | lft =>
      have := frPosn_in g tw m l f
      show 2 * f ≤ frPosn (sEnd g tw m l f) ∧ frPosn (sEnd g tw m l f) ≤ _
      omega
    | rgt =>
      have := frPosn_in g tw m r (f + l.size + 1)
      show 2 * f ≤ frPosn (sEnd g tw m r (f + l.size + 1)) ∧ frPosn (sEnd g tw m r (f + l.size + 1)) ≤ _
      omega
theorem frPosn_rise (g : Nat → Int) (tw1 tw2 : Int) (h12 : tw1 ≤ tw2) : ∀ (t : Tr) (f : Nat), frPosn (sEnd g tw1 .fin t f) ≤ frPosn (sEnd g tw2 .fin t f)
  | .nil, _ => Nat.le_refl _
  | .nod l r, f => by
    have b1 := frPosn_in g tw1 .fin l f
    have b2 := frPosn_in g tw2 .fin r (f + l.size + 1)
    rw [sEnd_nod, sEnd_nod]
    have pf : frPosn (true, f + l.size) = 2 * (f + l.size) + 1 := rfl
    rcases Int.lt_trichotomy tw1 (2 * g (f + l.size)) with c1 | c1 | c1
    · rw [way_of_lt _ c1]
      rcases Int.lt_trichotomy tw2 (2 * g (f + l.size)) with c2 | c2 | c2
      · rw [way_of_lt _ c2]
        exact frPosn_rise g tw1 tw2 h12 l f
      · rw [way_of_eq _ c2]
        show frPosn (sEnd g tw1 .fin l f) ≤ frPosn (true, f + l.size)
        omega
      · rw [way_of_gt _ c2]
        show frPosn (sEnd g tw1 .fin l f) ≤ frPosn (sEnd g tw2 .fin r (f + l.size + 1))
        omega
    · rw [way_of_eq _ c1]
      rcases Int.lt_trichotomy tw2 (2 * g (f + l.size)) with c2 | c2 | c2
      · omega
      · rw [way_of_eq _ c2]
        exact Nat.le_refl _
      · rw [way_of_gt _ c2]
        show frPosn (true, f + l.size) ≤ frPosn (sEnd g tw2 .fin r (f + l.size + 1))
        omega
    · rw [way_of_gt _ c1, way_of_gt _ (by omega)]
      exact frPosn_rise g tw1 tw2 h12 r _
theorem lab_rise {g : Nat → Int} {t : Tr} {i j : Nat} (hi : i < t.size) (hj : j < t.size) (fi : labAt g t i = .found) (fj : labAt g t j = .found) (h : i < j) : g i < g j := by
  have h1 := (lab_found g hi).mp fi
  have h2 := (lab_found g hj).mp fj
  by_cases c : g i < g j
  · exact c
  · have up := frPosn_rise g (2 * g j) (2 * g i) (by omega) t 0
    rw [h1, h2] at up
    have up2 : 2 * j + 1 ≤ 2 * i + 1 := up
    omega
end HSP
namespace HSP
open PySem PySem.Spec PyProof.Rows L2
/-! ## which lists have given labels -/
def lbStr (lab : Nat → Lb) (i : Nat) : Str := (lab i).str
structure Keeps (lab : Nat → Lb) (t : Tr) (s : Nat → Int) : Prop where
  up : ∀ a b, a < b → b < t.size → lab a = .found → lab b = .found → s a < s b
  low : ∀ n o, n < t.size → lab n = .low → boundOf (lbStr lab) true (pOf t 0 n) none = some o → s n < s o
  high : ∀ n o, n < t.size → lab n = .high → boundOf (lbStr lab) false (pOf t 0 n) none = some o → s o < s n
theorem boundOf_mem {lab : Nat → Str} {c : Bool} : ∀ {p : List (Nat × Bool)} {z : Option Nat} {o : Nat}, boundOf lab c p z = some o → z = some o ∨ (o, c) ∈ p ∧ lab o = ("found" : Str)
  | [], _, _, h => .inl h
  | (n, b) :: r, z, o, h => by
    have h : boundOf lab c r (if b = c ∧ lab n = ("found" : Str) then some n else z) = some o := h
    rcases boundOf_mem h with e | ⟨e1, e2⟩
    · by_cases d : b = c ∧ lab n = ("found" : Str)
      · rw [if_pos d] at e
        cases e
        exact .inr ⟨by rw [← d.1]; exact List.mem_cons_self, d.2⟩
      · rw [if_neg d] at e
        exact .inl e
    · exact .inr ⟨List.mem_cons_of_mem _ e1, e2⟩
theorem bound_in {lab : Nat → Lb} {c : Bool} {p : List (Nat × Bool)} {o : Nat} (h : boundOf (lbStr lab) c p none = some o) : (o, c) ∈ p ∧ lab o = .found := by
  rcases boundOf_mem h with e | ⟨e1, e2⟩
  · cases e
  · exact ⟨e1, (str_found _).mp e2⟩
theorem low_there (g : Nat → Int) : ∀ {p : List (Nat × Bool)} {o : Nat}, (o, true) ∈ p → ∃ l, lowOf g p = some l
  | (n, true) :: r, o, _ => by
    show ∃ l, (match lowOf g r with | none => some (g n) | some m => some (max (g n) m)) = some l
    cases lowOf g r with
    | none => exact ⟨_, rfl⟩
    | some m => exact ⟨_, rfl⟩
  | (n, false) :: r, o, h => by
    rcases List.mem_cons.mp h with e | e
    · cases e
    · exact low_there g (p := r) e
theorem high_there (g : Nat → Int) : ∀ {p : List (Nat × Bool)} {o : Nat}, (o, false) ∈ p → ∃ l, highOf g p = some l
  | (n, false) :: r, o, _ => by
    show ∃ l, (match highOf g r with | none => some (g n) | some m => some (min (g n) m)) = some l
    cases highOf g r with
    | none => exact ⟨_, rfl⟩
    | some m => exact ⟨_, rfl⟩
  | (n, true) :: r, o, h => by
    rcases List.mem_cons.mp h with e | e
    · cases e
    · exact high_there g (p := r) e
theorem pOf_short (t : Tr) (i : Nat) {q r : List (Nat × Bool)} {n : Nat} {b : Bool} (h : i < t.size) (e : pOf t 0 i = q ++ (n, b) :: r) : pOf t 0 n = q ∧ n < t.size ∧ (pOf t 0 n).length < (pOf t 0 i).length := by
  have e1 := pOf_split t 0 i q n b r (Nat.zero_le _) (by omega) e
  refine ⟨e1, ?_, ?_⟩
  · have := (pOf_in t 0 i (n, b) (by rw [e]; exact List.mem_append_right _ List.mem_cons_self)).2
    have h2 : n < 0 + t.size := this
    omega
  · rw [e1, e, List.length_append, List.length_cons]
    omega
/-- what keeps to the labels has them -/
theorem keeps_labs {lab : Nat → Lb} {t : Tr} {s : Nat → Int} (po : ∀ n, n < t.size → possAt (lbStr lab) (pOf t 0 n) n = true) (k : Keeps lab t s) : ∀ (m n : Nat), (pOf t 0 n).length < m → n < t.size → labAt s t n = lab n
  | 0, _, h, _ => absurd h (Nat.not_lt_zero _)
  | m + 1, n, hm, hn => by
    have told : Told s lab (pOf t 0 n) := fun q n' b r e => by
      obtain ⟨h1, h2, h3⟩ := pOf_short t n hn e
      have ih := keeps_labs po k m n' (by omega) h2
      rw [← ih]
      show lbOf (bndOf s (pOf t 0 n')) (s n') = _
      rw [h1]
    have side := pOf_side t 0 n (Nat.zero_le _) (by omega)
    have p0 := po n hn
    unfold possAt at p0
    show lbOf (bndOf s (pOf t 0 n)) (s n) = lab n
    rcases along s lab _ told with ⟨ab, ak, as_, a1, a2⟩ | ⟨db, _, kk, _, _, _, _, dk, _⟩
    · have ak' : killerOf (lbStr lab) (pOf t 0 n) = none := ak
      rw [ak', if_neg (by decide)] at p0
      have hb : ∀ c o, boundOf (lbStr lab) c (pOf t 0 n) none = some o → (o, c) ∈ pOf t 0 n ∧ lab o = .found ∧ o < t.size ∧ o ≠ n ∧ c = decide (o < n) := fun c o e => by
        obtain ⟨h1, h2⟩ := bound_in e
        exact ⟨h1, h2, by have h3 : o < 0 + t.size := (pOf_in t 0 n _ h1).2; omega, (side _ h1).2, (side _ h1).1⟩
      obtain ⟨elo, ehi⟩ := bndOf_some (show bndOf s (pOf t 0 n) = some ((stOf s none none (pOf t 0 n)).1, (stOf s none none (pOf t 0 n)).2) from ab)
      rw [ab]
      have lo : ∀ o, boundOf (lbStr lab) true (pOf t 0 n) none = some o → (stOf s none none (pOf t 0 n)).1 = some (s o) := fun o e => by
        obtain ⟨l, el⟩ := low_there s (hb _ _ e).1
        rw [elo] at el
        obtain ⟨o', b', e1, e2, e3, e4⟩ := a1 l el
        have e1 : boundOf (lbStr lab) true (pOf t 0 n) none = some o' := e1
        rw [e] at e1
        cases e1
        rw [el, e4]
      have hi : ∀ o, boundOf (lbStr lab) false (pOf t 0 n) none = some o → (stOf s none none (pOf t 0 n)).2 = some (s o) := fun o e => by
        obtain ⟨l, el⟩ := high_there s (hb _ _ e).1
        rw [ehi] at el
        obtain ⟨o', b', e1, e2, e3, e4⟩ := a2 l el
        have e1 : boundOf (lbStr lab) false (pOf t 0 n) none = some o' := e1
        rw [e] at e1
        cases e1
        rw [el, e4]
      generalize stOf s none none (pOf t 0 n) = st at as_ a1 a2 lo hi
      obtain ⟨l0, h0⟩ := st
      by_cases c1 : lbStr lab n = ("low" : Str)
      · rw [if_pos c1] at p0
        have c1 := (str_low _).mp c1
        obtain ⟨o, eo⟩ := Option.isSome_iff_exists.mp p0
        have lt := k.low n o hn c1 eo
        have el : l0 = some (s o) := lo o eo
        rw [c1]
        rcases lb_cases l0 h0 (s n) as_ with ⟨e1, _, e2, _⟩ | ⟨e1, _⟩ | ⟨e1, b, e2, e3, _⟩
        · have := e2 _ el
          omega
        · exact e1
        · have := as_ _ _ el e2
          omega
      rw [if_neg c1] at p0
      by_cases c2 : lbStr lab n = ("high" : Str)
      · rw [if_pos c2] at p0
        have c2 := (str_high _).mp c2
        obtain ⟨o, eo⟩ := Option.isSome_iff_exists.mp p0
        have lt := k.high n o hn c2 eo
        have el : h0 = some (s o) := hi o eo
        rw [c2]
        rcases lb_cases l0 h0 (s n) as_ with ⟨e1, _, _, e2⟩ | ⟨e1, b, e2, e3, _⟩ | ⟨e1, _⟩
        · have := e2 _ el
          omega
        · have := as_ _ _ e2 el
          omega
        · exact e1
      rw [if_neg c2] at p0
      have c3 := (str_found _).mp (of_decide_eq_true p0)
      rw [c3]
      rcases lb_cases l0 h0 (s n) as_ with ⟨e1, _⟩ | ⟨_, l, e2, e3, _⟩ | ⟨_, b, e2, e3, _⟩
      · exact e1
      · obtain ⟨o, b, e4, _, _, e7⟩ := a1 l e2
        obtain ⟨_, h2, h3, h4, h5⟩ := hb _ _ e4
        have := k.up o n (of_decide_eq_true h5.symm) hn h2 c3
        omega
      · obtain ⟨o, b', e4, _, _, e7⟩ := a2 b e2
        obtain ⟨_, h2, h3, h4, h5⟩ := hb _ _ e4
        have h6 : ¬ o < n := of_decide_eq_false h5.symm
        have := k.up n o (by omega) h3 c3 h2
        omega
    · have dk' : killerOf (lbStr lab) (pOf t 0 n) = some kk := dk
      rw [dk', if_pos (show (some kk).isSome = true from rfl)] at p0
      have c0 := (str_dead _).mp (of_decide_eq_true p0)
      rw [c0, db]
      rfl
/-- labels that a list has are possible, and the list keeps to them -/
theorem labs_poss (s : Nat → Int) (t : Tr) {n : Nat} (hn : n < t.size) : possAt (lbStr (labAt s t)) (pOf t 0 n) n = true := by
  have e : labAt s t n = lbOf (bndOf s (pOf t 0 n)) (s n) := rfl
  have str : ∀ l, labAt s t n = l → lbStr (labAt s t) n = l.str := fun l h => congrArg Lb.str h
  unfold possAt
  rcases along s (labAt s t) _ (told_labs s t hn) with ⟨ab, ak, as_, a1, a2⟩ | ⟨db, _, kk, _, _, _, _, dk, _⟩
  · have ak' : killerOf (lbStr (labAt s t)) (pOf t 0 n) = none := ak
    rw [ak', if_neg (by decide)]
    rw [ab] at e
    generalize stOf s none none (pOf t 0 n) = st at e as_ a1 a2
    obtain ⟨l0, h0⟩ := st
    rcases lb_cases l0 h0 (s n) as_ with ⟨e1, _⟩ | ⟨e1, l, e2, _⟩ | ⟨e1, b, e2, _⟩
    · rw [str _ (e.trans e1), if_neg (by decide +kernel), if_neg (by decide +kernel)]
      exact decide_eq_true rfl
    · rw [str _ (e.trans e1), if_pos (by decide +kernel)]
      obtain ⟨o, _, e4, _⟩ := a1 l e2
      have e4 : boundOf (lbStr (labAt s t)) true (pOf t 0 n) none = some o := e4
      rw [e4]
      rfl
    · rw [str _ (e.trans e1), if_neg (by decide +kernel), if_pos (by decide +kernel)]
      obtain ⟨o, _, e4, _⟩ := a2 b e2
      have e4 : boundOf (lbStr (labAt s t)) false (pOf t 0 n) none = some o := e4
      rw [e4]
      rfl
  · have dk' : killerOf (lbStr (labAt s t)) (pOf t 0 n) = some kk := dk
    rw [dk', if_pos (show (some kk).isSome = true from rfl)]
    rw [db] at e
    rw [str _ e]
    exact decide_eq_true rfl
theorem labs_keeps {s : Nat → Int} {t : Tr} (inj : ∀ a b, a < t.size → b < t.size → s a = s b → a = b) : Keeps (labAt s t) t s := by
  have main : ∀ n, n < t.size → (labAt s t n = .low → ∀ o, boundOf (lbStr (labAt s t)) true (pOf t 0 n) none = some o → s n ≤ s o) ∧ (labAt s t n = .high → ∀ o, boundOf (lbStr (labAt s t)) false (pOf t 0 n) none = some o → s o ≤ s n) := fun n hn => by
    have e : labAt s t n = lbOf (bndOf s (pOf t 0 n)) (s n) := rfl
    rcases along s (labAt s t) _ (told_labs s t hn) with ⟨ab, ak, as_, a1, a2⟩ | ⟨db, _⟩
    · rw [ab] at e
      rw [e]
      generalize stOf s none none (pOf t 0 n) = st at e as_ a1 a2
      obtain ⟨l0, h0⟩ := st
      rcases lb_cases l0 h0 (s n) as_ with ⟨e1, _⟩ | ⟨e1, l, e2, e3, _⟩ | ⟨e1, b, e2, e3, _⟩
      · exact ⟨fun z => (by rw [e1] at z; cases z), fun z => (by rw [e1] at z; cases z)⟩
      · refine ⟨fun _ o eo => ?_, fun z => (by rw [e1] at z; cases z)⟩
        obtain ⟨o', _, e4, _, _, e7⟩ := a1 l e2
        have e4 : boundOf (lbStr (labAt s t)) true (pOf t 0 n) none = some o' := e4
        rw [eo] at e4
        cases e4
        omega
      · refine ⟨fun z => (by rw [e1] at z; cases z), fun _ o eo => ?_⟩
        obtain ⟨o', _, e4, _, _, e7⟩ := a2 b e2
        have e4 : boundOf (lbStr (labAt s t)) false (pOf t 0 n) none = some o' := e4
        rw [eo] at e4
        cases e4
        omega
    · rw [e, db]
      exact ⟨fun z => (by cases z), fun z => (by cases z)⟩
  have ne : ∀ {n o c}, n < t.size → boundOf (lbStr (labAt s t)) c (pOf t 0 n) none = some o → o < t.size ∧ o ≠ n := fun {n o c} hn e => by
    obtain ⟨h1, _⟩ := bound_in e
    exact ⟨by have h3 : o < 0 + t.size := (pOf_in t 0 n _ h1).2; omega, (pOf_side t 0 n (Nat.zero_le _) (by omega) _ h1).2⟩
  refine ⟨fun a b h hb fa fb => lab_rise (by omega) hb fa fb h, fun n o hn l e => ?_, fun n o hn l e => ?_⟩
  · have h1 := (main n hn).1 l o e
    obtain ⟨h2, h3⟩ := ne hn e
    have : s n ≠ s o := fun z => h3 (inj n o hn h2 z).symm
    omega
  · have h1 := (main n hn).2 l o e
    obtain ⟨h2, h3⟩ := ne hn e
    have : s n ≠ s o := fun z => h3 (inj n o hn h2 z).symm
    omega
theorem keeps_iff {lab : Nat → Lb} {t : Tr} {s : Nat → Int} (po : ∀ n, n < t.size → possAt (lbStr lab) (pOf t 0 n) n = true) (inj : ∀ a b, a < t.size → b < t.size → s a = s b → a = b) : (∀ n, n < t.size → labAt s t n = lab n) ↔ Keeps lab t s := by
  constructor
  · intro h
    have k := labs_keeps inj
    have bd : ∀ n c, n < t.size → boundOf (lbStr (labAt s t)) c (pOf t 0 n) none = boundOf (lbStr lab) c (pOf t 0 n) none := fun n c hn => by
      have key : ∀ (p : List (Nat × Bool)) (z : Option Nat), (∀ y, y ∈ p → y.1 < t.size) → boundOf (lbStr (labAt s t)) c p z = boundOf (lbStr lab) c p z := fun p => by
        induction p with
        | nil => exact fun _ _ => rfl
        | cons y r ih =>
          intro z hy
          have e := h y.1 (hy y List.mem_cons_self)
          show boundOf (lbStr (labAt s t)) c r (if y.2 = c ∧ lbStr (labAt s t) y.1 = ("found" : Str) then some y.1 else z) = boundOf (lbStr lab) c r (if y.2 = c ∧ lbStr lab y.1 = ("found" : Str) then some y.1 else z)
          rw [show lbStr (labAt s t) y.1 = lbStr lab y.1 from congrArg Lb.str e]
          exact ih _ fun x hx => hy x (List.mem_cons_of_mem _ hx)
      exact key _ _ fun y hy => by have h3 : y.1 < 0 + t.size := (pOf_in t 0 n _ hy).2; omega
    refine ⟨fun a b l hb fa fb => k.up a b l hb ((h a (by omega)).trans fa) ((h b hb).trans fb), fun n o hn l e => k.low n o hn ((h n hn).trans l) (by rw [bd n _ hn]; exact e), fun n o hn l e => k.high n o hn ((h n hn).trans l) (by rw [bd n _ hn]; exact e)⟩
  · exact fun k n hn => keeps_labs po k _ n (Nat.lt_succ_self _) hn
end HSP
namespace HSP
/-! ## all orders of a few -/
def fct : Nat → Nat
  | 0 => 1
  | n + 1 => fct n * (n + 1)
theorem fct_pos : ∀ n, 0 < fct n
  | 0 => Nat.one_pos
  | n + 1 => Nat.mul_pos (fct_pos n) (Nat.succ_pos n)
def ordersOf (n : Nat) : Nat → List (List Nat)
  | 0 => [[]]
  | k + 1 => (ordersOf n k).flatMap fun o => ((List.range n).filter fun i => !o.contains i).map fun i => o ++ [i]
end HSP
namespace HSP
/-! ## all arrangements, one put in after the other -/
def bump (j v : Nat) : Nat := if v < j then v else v + 1
theorem bump_lt {j a b : Nat} : bump j a < bump j b ↔ a < b := by
  unfold bump
  split <;> split <;> omega
theorem bump_inj {j a b : Nat} (h : bump j a = bump j b) : a = b := by
  unfold bump at h
  split at h <;> split at h <;> omega
theorem bump_ne (j a : Nat) : bump j a ≠ j := by
  unfold bump
  split <;> omega
def insO (x j : Nat) (σ : Nat → Nat) (y : Nat) : Nat := if y = x then j else bump j (σ y)
theorem insO_at (x j : Nat) (σ : Nat → Nat) : insO x j σ x = j := if_pos rfl
theorem insO_ne {x y : Nat} (j : Nat) (σ : Nat → Nat) (h : y ≠ x) : insO x j σ y = bump j (σ y) := if_neg h
def arrs : List Nat → List (Nat → Nat)
  | [] => [fun _ => 0]
  | x :: s => (arrs s).flatMap fun σ => (List.range (s.length + 1)).map fun j => insO x j σ
theorem arrs_mem {x : Nat} {s : List Nat} {σ : Nat → Nat} : σ ∈ arrs (x :: s) ↔ ∃ τ, τ ∈ arrs s ∧ ∃ j, j < s.length + 1 ∧ σ = insO x j τ := by
  show σ ∈ (arrs s).flatMap _ ↔ _
  rw [List.mem_flatMap]
  refine exists_congr fun τ => and_congr_right fun _ => ?_
  rw [List.mem_map]
  exact exists_congr fun j => by rw [List.mem_range]; exact and_congr_right fun _ => eq_comm
theorem arrs_len : ∀ s : List Nat, (arrs s).length = fct s.length
  | [] => rfl
  | x :: s => by
    show ((arrs s).flatMap _).length = fct s.length * (s.length + 1)
    rw [← arrs_len s]
    generalize arrs s = l
    induction l with
    | nil => rw [List.flatMap_nil, List.length_nil, Nat.zero_mul]
    | cons a r ih => rw [List.flatMap_cons, List.length_append, ih, List.length_map, List.length_range, List.length_cons, Nat.succ_mul, Nat.add_comm]
theorem arrs_val : ∀ {s : List Nat} {σ : Nat → Nat}, s.Nodup → σ ∈ arrs s → (∀ x, x ∈ s → σ x < s.length) ∧ ∀ x y, x ∈ s → y ∈ s → σ x = σ y → x = y
  | [], _, _, _ => ⟨fun _ h => (nomatch h), fun _ _ h => (nomatch h)⟩
  | x :: s, σ, nd, h => by
    obtain ⟨nx, nd⟩ := List.nodup_cons.mp nd
    obtain ⟨τ, hτ, j, hj, rfl⟩ := arrs_mem.mp h
    obtain ⟨b, i⟩ := arrs_val nd hτ
    have ne : ∀ {y}, y ∈ s → y ≠ x := fun hy e => nx (e ▸ hy)
    refine ⟨fun y hy => ?_, fun y z hy hz e => ?_⟩
    · rcases List.mem_cons.mp hy with e | hy
      · rw [e, insO_at]
        exact hj
      · rw [insO_ne _ _ (ne hy), List.length_cons]
        have := b y hy
        unfold bump
        split <;> omega
    · rcases List.mem_cons.mp hy with ey | hy <;> rcases List.mem_cons.mp hz with ez | hz
      · rw [ey, ez]
      · rw [ey, insO_at, insO_ne _ _ (ne hz)] at e
        exact absurd e.symm (bump_ne _ _)
      · rw [ez, insO_at, insO_ne _ _ (ne hy)] at e
        exact absurd e (bump_ne _ _)
      · rw [insO_ne _ _ (ne hy), insO_ne _ _ (ne hz)] at e
        exact i y z hy hz (bump_inj e)
/-- each way to number them is there -/
theorem arrs_all : ∀ {s : List Nat} (v : Nat → Nat), s.Nodup → (∀ x, x ∈ s → v x < s.length) → (∀ x y, x ∈ s → y ∈ s → v x = v y → x = y) → ∃ σ, σ ∈ arrs s ∧ ∀ x, x ∈ s → σ x = v x
  | [], _, _, _, _ => ⟨_, List.mem_singleton.mpr rfl, fun _ h => nomatch h⟩
  | x :: s, v, nd, b, i => by
    obtain ⟨nx, nd⟩ := List.nodup_cons.mp nd
    have hx := b x List.mem_cons_self
    rw [List.length_cons] at hx
    have ne : ∀ {y}, y ∈ s → v y ≠ v x := fun {y} hy e => nx (i y x (List.mem_cons_of_mem _ hy) List.mem_cons_self e ▸ hy)
    obtain ⟨τ, hτ, e⟩ := arrs_all (s := s) (fun y => if v y < v x then v y else v y - 1) nd (fun y hy => by
      have h1 := b y (List.mem_cons_of_mem _ hy)
      rw [List.length_cons] at h1
      have h2 := ne hy
      show (if v y < v x then v y else v y - 1) < s.length
      split <;> omega) (fun y z hy hz e => by
      have e : (if v y < v x then v y else v y - 1) = if v z < v x then v z else v z - 1 := e
      have h1 := ne hy
      have h2 := ne hz
      refine i y z (List.mem_cons_of_mem _ hy) (List.mem_cons_of_mem _ hz) ?_
      split at e <;> split at e <;> omega)
    refine ⟨insO x (v x) τ, arrs_mem.mpr ⟨τ, hτ, v x, hx, rfl⟩, fun y hy => ?_⟩
    rcases List.mem_cons.mp hy with ey | hy
    · rw [ey, insO_at]
    · rw [insO_ne _ _ (show y ≠ x from fun z => nx (by rw [← z]; exact hy)), e y hy]
      have := ne hy
      unfold bump
      by_cases c : v y < v x
      · rw [if_pos c, if_pos c]
      · rw [if_neg c, if_neg (by omega)]
        omega
/-- and only once -/
theorem nodup_flatMap {α β : Type} {f : α → List β} : ∀ {l : List α}, (∀ x, x ∈ l → (f x).Nodup) → l.Pairwise (fun x y => ∀ b, b ∈ f x → b ∈ f y → False) → (l.flatMap f).Nodup
  | [], _, _ => List.nodup_nil
  | x :: r, h1, h2 => by
    obtain ⟨h3, h4⟩ := List.pairwise_cons.mp h2
    rw [List.flatMap_cons]
    refine List.nodup_append.mpr ⟨h1 x List.mem_cons_self, nodup_flatMap (fun y hy => h1 y (List.mem_cons_of_mem _ hy)) h4, fun a ha b hb e => ?_⟩
    obtain ⟨y, hy, hb⟩ := List.mem_flatMap.mp hb
    exact h3 y hy a ha (e ▸ hb)
theorem arrs_nodup : ∀ {s : List Nat}, s.Nodup → ((arrs s).map fun σ => s.map σ).Nodup
  | [], _ => List.nodup_cons.mpr ⟨fun h => (nomatch h), List.nodup_nil⟩
  | x :: s, nd => by
    obtain ⟨nx, nd⟩ := List.nodup_cons.mp nd
    have ih := arrs_nodup nd
    show (((arrs s).flatMap fun σ => (List.range (s.length + 1)).map fun j => insO x j σ).map fun σ => (x :: s).map σ).Nodup
    rw [List.map_flatMap]
    have ev : ∀ j (σ : Nat → Nat), (x :: s).map (insO x j σ) = j :: s.map fun y => bump j (σ y) := fun j σ => by
      rw [List.map_cons, insO_at]
      exact congrArg _ (List.map_congr_left fun y hy => insO_ne _ _ fun e => nx (e ▸ hy))
    have back : ∀ {j : Nat} {σ τ : Nat → Nat}, (s.map fun y => bump j (σ y)) = (s.map fun y => bump j (τ y)) → s.map σ = s.map τ := fun h => by
      refine List.map_congr_left fun y hy => ?_
      exact bump_inj (List.map_inj_left.mp h y hy)
    refine nodup_flatMap (fun σ _ => ?_) ?_
    · rw [List.map_map]
      refine List.pairwise_map.mpr (List.nodup_range.imp fun {i j} h e => h ?_)
      have e : (x :: s).map (insO x i σ) = (x :: s).map (insO x j σ) := e
      rw [ev, ev] at e
      exact (List.cons.inj e).1
    · refine (List.pairwise_map.mp ih).imp fun {σ τ} h b hb hc => h ?_
      rw [List.map_map] at hb hc
      obtain ⟨i, _, e1⟩ := List.mem_map.mp hb
      obtain ⟨j, _, e2⟩ := List.mem_map.mp hc
      have e : (x :: s).map (insO x i σ) = (x :: s).map (insO x j τ) := e1.trans e2.symm
      rw [ev, ev] at e
      obtain ⟨ei, e⟩ := List.cons.inj e
      rw [ei] at e
      exact back e
/-! ## all orders as lists of numbers -/
theorem ordersOf_mem (n : Nat) : ∀ (k : Nat) (o : List Nat), o ∈ ordersOf n k ↔ o.length = k ∧ o.Nodup ∧ ∀ x, x ∈ o → x < n
  | 0, o => by
    show o ∈ [[]] ↔ _
    rw [List.mem_singleton, List.length_eq_zero_iff]
    exact ⟨fun e => ⟨e, by rw [e]; exact List.nodup_nil, by rw [e]; exact fun _ h => nomatch h⟩, fun h => h.1⟩
  | k + 1, o => by
    show o ∈ (ordersOf n k).flatMap _ ↔ _
    rw [List.mem_flatMap]
    constructor
    · rintro ⟨p, hp, ho⟩
      obtain ⟨l, nd, b⟩ := (ordersOf_mem n k p).mp hp
      obtain ⟨i, hi, rfl⟩ := List.mem_map.mp ho
      obtain ⟨hi, hc⟩ := List.mem_filter.mp hi
      have hc : ¬ i ∈ p := fun h => by rw [List.contains_iff_mem.mpr h] at hc; cases hc
      refine ⟨by rw [List.length_append, l]; rfl, List.nodup_append.mpr ⟨nd, List.nodup_cons.mpr ⟨fun h => (nomatch h), List.nodup_nil⟩, fun a ha c hcc e => ?_⟩, fun x hx => ?_⟩
      · rw [List.mem_singleton.mp hcc] at e
        exact hc (e ▸ ha)
      · rcases List.mem_append.mp hx with h | h
        · exact b x h
        · rw [List.mem_singleton.mp h]
          exact List.mem_range.mp hi
    · rintro ⟨l, nd, b⟩
      rcases List.eq_nil_or_concat o with e | ⟨p, i, e⟩
      · rw [e] at l
        cases l
      · rw [List.concat_eq_append] at e
        subst e
        rw [List.length_append] at l
        obtain ⟨nd1, _, nd2⟩ := List.nodup_append.mp nd
        refine ⟨p, (ordersOf_mem n k p).mpr ⟨Nat.succ.inj l, nd1, fun x hx => b x (List.mem_append_left _ hx)⟩, List.mem_map.mpr ⟨i, List.mem_filter.mpr ⟨List.mem_range.mpr (b i (List.mem_append_right _ (List.mem_singleton.mpr rfl))), ?_⟩, rfl⟩⟩
        cases c : p.contains i with
        | false => rfl
        | true => exact absurd rfl (nd2 i (List.contains_iff_mem.mp c) i (List.mem_singleton.mpr rfl))
theorem ordersOf_nodup (n : Nat) : ∀ k, (ordersOf n k).Nodup
  | 0 => List.nodup_cons.mpr ⟨fun h => (nomatch h), List.nodup_nil⟩
  | k + 1 => by
    show ((ordersOf n k).flatMap _).Nodup
    refine nodup_flatMap (fun p _ => ?_) ((ordersOf_nodup n k).imp fun {p q} h b hb hc => h ?_)
    · refine List.pairwise_map.mpr ((List.nodup_range.filter _).imp fun {i j} h e => h ?_)
      exact (List.cons.inj (List.append_cancel_left e)).1
    · obtain ⟨i, _, e1⟩ := List.mem_map.mp hb
      obtain ⟨j, _, e2⟩ := List.mem_map.mp hc
      exact (List.append_inj' (e1.trans e2.symm) rfl).1
theorem arrs_orders {n : Nat} {s : List Nat} (h : s.Perm (List.range n)) : ((arrs s).map fun σ => (List.range n).map σ).Perm (ordersOf n n) := by
  have nd : s.Nodup := h.nodup_iff.mpr List.nodup_range
  have len : s.length = n := by rw [h.length_eq, List.length_range]
  have mem : ∀ x, x ∈ s ↔ x < n := fun x => by rw [h.mem_iff, List.mem_range]
  refine (List.perm_ext_iff_of_nodup ?_ (ordersOf_nodup n n)).mpr fun o => ?_
  · refine List.pairwise_map.mpr ((List.pairwise_map.mp (arrs_nodup nd)).imp fun {σ τ} hne e => hne ?_)
    exact List.map_congr_left fun x hx => List.map_inj_left.mp e x (List.mem_range.mpr ((mem x).mp hx))
  · rw [ordersOf_mem, List.mem_map]
    constructor
    · rintro ⟨σ, hσ, rfl⟩
      obtain ⟨b, i⟩ := arrs_val nd hσ
      refine ⟨by rw [List.length_map, List.length_range], ?_, fun x hx => ?_⟩
      · refine List.pairwise_map.mpr (List.nodup_range.imp_of_mem fun {x y} hx hy h e => h ?_)
        exact i x y ((mem x).mpr (List.mem_range.mp hx)) ((mem y).mpr (List.mem_range.mp hy)) e
      · obtain ⟨y, hy, rfl⟩ := List.mem_map.mp hx
        have := b y ((mem y).mpr (List.mem_range.mp hy))
        omega
    · rintro ⟨l, ndo, b⟩
      have at_ : ∀ x, (hx : x < n) → o.getD x 0 = o[x]'(by omega) := fun x hx => by
        rw [List.getD_eq_getElem?_getD, List.getElem?_eq_getElem (by omega)]
        rfl
      obtain ⟨σ, hσ, e⟩ := arrs_all (fun x => o.getD x 0) nd (fun x hx => by
        show o.getD x 0 < s.length
        rw [at_ x ((mem x).mp hx), len]
        exact b _ (List.getElem_mem _)) (fun x y hx hy e => by
        have e : o.getD x 0 = o.getD y 0 := e
        rw [at_ x ((mem x).mp hx), at_ y ((mem y).mp hy)] at e
        exact (List.getElem_inj ndo).mp e)
      refine ⟨σ, hσ, List.ext_getElem (by rw [List.length_map, List.length_range, l]) fun x h1 h2 => ?_⟩
      rw [List.getElem_map, List.getElem_range, e x ((mem x).mpr (by omega))]
      exact at_ x (by omega)
theorem orders_len (n : Nat) : (ordersOf n n).length = fct n := by
  rw [← (arrs_orders (List.Perm.refl (List.range n))).length_eq, List.length_map, arrs_len, List.length_range]
theorem orders_count {n : Nat} {s : List Nat} (h : s.Perm (List.range n)) (p : List Nat → Bool) : (ordersOf n n).countP p = (arrs s).countP fun σ => p ((List.range n).map σ) := by
  rw [← (arrs_orders h).countP_eq, List.countP_map]
  rfl
end HSP
namespace HSP
/-! ## counting arrangements step by step -/
def withF (ws : List Nat) : List Nat := (List.range (ws.length + 1)).map fun i => (ws.take i).sum
def withL (ws : List Nat) : List Nat := 0 :: (List.range ws.length).map fun i => i * ws.getD i 0
def withH (ws : List Nat) : List Nat := (List.range ws.length).map (fun i => (ws.length - i) * ws.getD i 0) ++ [0]
theorem withF_len (ws : List Nat) : (withF ws).length = ws.length + 1 := by
  unfold withF
  rw [List.length_map, List.length_range]
theorem withL_len (ws : List Nat) : (withL ws).length = ws.length + 1 := by
  unfold withL
  rw [List.length_cons, List.length_map, List.length_range]
theorem withH_len (ws : List Nat) : (withH ws).length = ws.length + 1 := by
  unfold withH
  rw [List.length_append, List.length_map, List.length_range, List.length_singleton]
inductive Kd where
  | F | L | H
def stepW : Kd → List Nat → List Nat
  | .F => withF
  | .L => withL
  | .H => withH
/-- the newest step first -/
def waysS (s : List (Kd × Nat)) : List Nat := s.foldr (fun c ws => stepW c.1 ws) [1]
def rkS : List (Kd × Nat) → (Nat → Nat) → Nat
  | [], _ => 0
  | (.F, x) :: _, σ => σ x + 1
  | (.L, _) :: r, σ => rkS r σ
  | (.H, _) :: r, σ => rkS r σ
def goodS : List (Kd × Nat) → (Nat → Nat) → Bool
  | [], _ => true
  | (.F, x) :: r, σ => goodS r σ && decide (rkS r σ ≤ σ x)
  | (.L, x) :: r, σ => goodS r σ && decide (σ x + 1 < rkS r σ)
  | (.H, x) :: r, σ => goodS r σ && decide (rkS r σ ≤ σ x)
def bumpR (j k : Nat) : Nat := if k = 0 then 0 else bump j (k - 1) + 1
theorem bump_cases (j v : Nat) : v < j ∧ bump j v = v ∨ j ≤ v ∧ bump j v = v + 1 := by
  unfold bump
  by_cases c : v < j
  · exact .inl ⟨c, if_pos c⟩
  · exact .inr ⟨by omega, if_neg c⟩
theorem bumpR_cases (j k : Nat) : k = 0 ∧ bumpR j k = 0 ∨ k ≠ 0 ∧ k ≤ j ∧ bumpR j k = k ∨ k ≠ 0 ∧ j < k ∧ bumpR j k = k + 1 := by
  unfold bumpR
  by_cases c : k = 0
  · exact .inl ⟨c, if_pos c⟩
  · rw [if_neg c]
    rcases bump_cases j (k - 1) with ⟨h1, h2⟩ | ⟨h1, h2⟩
    · exact .inr (.inl ⟨c, by omega, by omega⟩)
    · exact .inr (.inr ⟨c, by omega, by omega⟩)
theorem rkS_bump (j : Nat) : ∀ (s : List (Kd × Nat)) {σ τ : Nat → Nat}, (∀ x, x ∈ s.map (·.2) → τ x = bump j (σ x)) → rkS s τ = bumpR j (rkS s σ)
  | [], _, _, _ => rfl
  | (.F, x) :: r, σ, τ, h => by
    show τ x + 1 = bumpR j (σ x + 1)
    rw [h x List.mem_cons_self]
    rfl
  | (.L, x) :: r, σ, τ, h => rkS_bump j r fun y hy => h y (List.mem_cons_of_mem _ hy)
  | (.H, x) :: r, σ, τ, h => rkS_bump j r fun y hy => h y (List.mem_cons_of_mem _ hy)
theorem bumpR_le {j k v : Nat} : bumpR j k ≤ bump j v ↔ k ≤ v := by
  have h := bumpR_cases j k
  have h2 := bump_cases j v
  omega
theorem bumpR_gt {j k v : Nat} : bump j v + 1 < bumpR j k ↔ v + 1 < k := by
  have h := bumpR_cases j k
  have h2 := bump_cases j v
  omega
theorem goodS_bump (j : Nat) : ∀ (s : List (Kd × Nat)) {σ τ : Nat → Nat}, (∀ x, x ∈ s.map (·.2) → τ x = bump j (σ x)) → goodS s τ = goodS s σ
  | [], _, _, _ => rfl
  | (.F, x) :: r, σ, τ, h => by
    have h' : ∀ y, y ∈ r.map (·.2) → τ y = bump j (σ y) := fun y hy => h y (List.mem_cons_of_mem _ hy)
    show (goodS r τ && decide (rkS r τ ≤ τ x)) = (goodS r σ && decide (rkS r σ ≤ σ x))
    rw [goodS_bump j r h', rkS_bump j r h', h x List.mem_cons_self, decide_eq_decide.mpr bumpR_le]
  | (.L, x) :: r, σ, τ, h => by
    have h' : ∀ y, y ∈ r.map (·.2) → τ y = bump j (σ y) := fun y hy => h y (List.mem_cons_of_mem _ hy)
    show (goodS r τ && decide (τ x + 1 < rkS r τ)) = (goodS r σ && decide (σ x + 1 < rkS r σ))
    rw [goodS_bump j r h', rkS_bump j r h', h x List.mem_cons_self, decide_eq_decide.mpr bumpR_gt]
  | (.H, x) :: r, σ, τ, h => by
    have h' : ∀ y, y ∈ r.map (·.2) → τ y = bump j (σ y) := fun y hy => h y (List.mem_cons_of_mem _ hy)
    show (goodS r τ && decide (rkS r τ ≤ τ x)) = (goodS r σ && decide (rkS r σ ≤ σ x))
    rw [goodS_bump j r h', rkS_bump j r h', h x List.mem_cons_self, decide_eq_decide.mpr bumpR_le]
theorem rkS_le : ∀ (s : List (Kd × Nat)) {σ : Nat → Nat} {m : Nat}, (∀ x, x ∈ s.map (·.2) → σ x < m) → rkS s σ ≤ m
  | [], _, _, _ => Nat.zero_le _
  | (.F, x) :: _, _, _, h => h x List.mem_cons_self
  | (.L, _) :: r, _, _, h => rkS_le r fun y hy => h y (List.mem_cons_of_mem _ hy)
  | (.H, _) :: r, _, _, h => rkS_le r fun y hy => h y (List.mem_cons_of_mem _ hy)
/-! ### counts over ranges -/
theorem countR_lt {m r : Nat} (h : r ≤ m) : (List.range m).countP (fun j => decide (j < r)) = r := by
  induction m generalizing r with
  | zero => rw [Nat.le_zero.mp h]; rfl
  | succ m ih =>
    rw [List.range_succ, List.countP_append]
    by_cases c : r ≤ m
    · rw [ih c, List.countP_singleton, if_neg (by rw [decide_eq_true_iff]; omega)]
      rfl
    · have e : (List.range m).countP (fun j => decide (j < r)) = m := by
        rw [List.countP_eq_length.mpr fun a ha => decide_eq_true (by have := List.mem_range.mp ha; omega), List.length_range]
      rw [e, List.countP_singleton, if_pos (by rw [decide_eq_true_iff]; omega)]
      omega
theorem countR_ge {m r : Nat} (h : r ≤ m) : (List.range m).countP (fun j => decide (r ≤ j)) = m - r := by
  have h1 := List.length_eq_countP_add_countP (fun j => decide (j < r)) (l := List.range m)
  rw [List.length_range, countR_lt h] at h1
  have e : (List.range m).countP (fun a => decide ¬decide (a < r) = true) = (List.range m).countP (fun j => decide (r ≤ j)) := List.countP_congr fun a _ => by
    rw [decide_eq_true_iff, decide_eq_true_iff, decide_eq_true_iff]
    omega
  omega
theorem countR_eq {m k : Nat} (p : Nat → Bool) : (List.range m).countP (fun j => p j && (j + 1 == k)) = if 1 ≤ k ∧ k ≤ m ∧ p (k - 1) = true then 1 else 0 := by
  induction m with
  | zero =>
    rw [if_neg (by omega)]
    rfl
  | succ m ih =>
    rw [List.range_succ, List.countP_append, ih, List.countP_singleton]
    by_cases c : m + 1 = k
    · subst c
      rw [if_neg (by omega), beq_self_eq_true, Bool.and_true]
      by_cases d : p m = true
      · rw [if_pos d, if_pos ⟨by omega, by omega, d⟩]
      · rw [if_neg d, if_neg (fun h => d h.2.2)]
    · have e : ¬ (p m && (m + 1 == k)) = true := fun h => by rw [Bool.and_eq_true, beq_iff_eq] at h; exact c h.2
      rw [if_neg e]
      by_cases d : 1 ≤ k ∧ k ≤ m ∧ p (k - 1) = true
      · rw [if_pos d, if_pos ⟨d.1, by omega, d.2.2⟩]
      · rw [if_neg d, if_neg fun h => d ⟨h.1, by omega, h.2.2⟩]
theorem sum_ite {α : Type} (c : Nat) (p : α → Bool) : ∀ l : List α, (l.map fun a => if p a = true then c else 0).sum = c * l.countP p
  | [] => by rw [List.map_nil, List.countP_nil]; rfl
  | a :: r => by
    rw [List.map_cons, List.sum_cons, sum_ite c p r, List.countP_cons]
    by_cases h : p a = true
    · rw [if_pos h, if_pos h, Nat.mul_succ, Nat.add_comm]
    · rw [if_neg h, if_neg h, Nat.zero_add]
      rfl
theorem count_below {α : Type} (p : α → Bool) (f : α → Nat) (l : List α) : ∀ k : Nat, l.countP (fun a => p a && decide (f a < k)) = ((List.range k).map fun i => l.countP fun a => p a && (f a == i)).sum
  | 0 => by
    rw [List.countP_eq_zero.mpr fun a _ h => by rw [Bool.and_eq_true, decide_eq_true_iff] at h; exact absurd h.2 (Nat.not_lt_zero _)]
    rfl
  | k + 1 => by
    rw [List.range_succ, List.map_append, List.sum_append, ← count_below p f l k]
    show _ = _ + (l.countP (fun a => p a && (f a == k)) + 0)
    rw [Nat.add_zero]
    induction l with
    | nil => rfl
    | cons a r ih =>
      rw [List.countP_cons, List.countP_cons, List.countP_cons, ih]
      by_cases h : p a = true
      · rw [h, Bool.true_and, Bool.true_and, Bool.true_and]
        by_cases c : f a = k
        · rw [if_pos (decide_eq_true (by omega)), if_neg (by rw [decide_eq_true_iff]; omega), if_pos (by rw [beq_iff_eq]; exact c)]
          omega
        · by_cases d : f a < k
          · rw [if_pos (decide_eq_true (by omega)), if_pos (decide_eq_true d), if_neg (by rw [beq_iff_eq]; exact c)]
            omega
          · rw [if_neg (by rw [decide_eq_true_iff]; omega), if_neg (by rw [decide_eq_true_iff]; exact d), if_neg (by rw [beq_iff_eq]; exact c)]
            omega
      · rw [Bool.not_eq_true] at h
        rw [h, Bool.false_and, Bool.false_and, Bool.false_and]
        rfl
/-- how many arrangements put the last found one on place k -/
def cntK (s : List (Kd × Nat)) (k : Nat) : Nat := (arrs (s.map (·.2))).countP fun σ => goodS s σ && (rkS s σ == k)
theorem cnt_step {x m : Nat} {s : List Nat} (l : s.length = m) (p : (Nat → Nat) → Bool) : (arrs (x :: s)).countP p = ((arrs s).map fun σ => (List.range (m + 1)).countP fun j => p (insO x j σ)).sum := by
  show ((arrs s).flatMap _).countP p = _
  rw [List.countP_flatMap, ← l]
  refine congrArg List.sum (List.map_congr_left fun σ _ => ?_)
  show ((List.range (s.length + 1)).map _).countP p = _
  rw [List.countP_map]
  rfl
theorem ways_cnt : ∀ (s : List (Kd × Nat)), (s.map (·.2)).Nodup → (waysS s).length = s.length + 1 ∧ ∀ k, k ≤ s.length → (waysS s)[k]? = some (cntK s k)
  | [], _ => ⟨rfl, fun k hk => by rw [Nat.le_zero.mp hk]; rfl⟩
  | (c, x) :: r, nd => by
    obtain ⟨nx, nd⟩ := List.nodup_cons.mp nd
    obtain ⟨len, at_⟩ := ways_cnt r nd
    have lm : (r.map (·.2)).length = r.length := List.length_map _
    have bd : ∀ {σ}, σ ∈ arrs (r.map (·.2)) → rkS r σ ≤ r.length := fun {σ} h => rkS_le r fun y hy => by
      have := (arrs_val nd h).1 y hy
      omega
    have bmp : ∀ (σ : Nat → Nat) j, ∀ y, y ∈ r.map (·.2) → insO x j σ y = bump j (σ y) := fun σ j y hy => insO_ne _ _ fun e => nx (e ▸ hy)
    have big : ∀ k, k ≥ r.length + 1 → cntK r k = 0 := fun k hk => List.countP_eq_zero.mpr fun σ hσ h => by
      rw [Bool.and_eq_true, beq_iff_eq] at h
      have := bd hσ
      omega
    have gd : ∀ i, i ≤ r.length + 1 → (waysS r).getD i 0 = cntK r i := fun i hi => by
      rw [List.getD_eq_getElem?_getD]
      by_cases e : i = r.length + 1
      · rw [e, List.getElem?_eq_none (by omega), big _ (Nat.le_refl _)]
        rfl
      · rw [at_ i (by omega)]
        rfl
    cases c with
    | F =>
      refine ⟨by show (withF (waysS r)).length = _; rw [withF_len, len]; rfl, fun k hk => ?_⟩
      have hk : k ≤ r.length + 1 := hk
      show (withF (waysS r))[k]? = _
      unfold withF
      rw [List.getElem?_map, List.getElem?_range (by omega)]
      refine congrArg some ?_
      have e1 : (waysS r).take k = (List.range k).map (cntK r) := by
        apply List.ext_getElem?
        intro i
        rw [List.getElem?_take, List.getElem?_map]
        by_cases c : i < k
        · rw [if_pos c, List.getElem?_range c, at_ i (by omega)]
          rfl
        · rw [if_neg c, List.getElem?_eq_none (by rw [List.length_range]; omega)]
          rfl
      show ((waysS r).take k).sum = _
      rw [e1]
      have e2 := count_below (goodS r) (rkS r) (arrs (r.map (·.2))) k
      refine e2.symm.trans ?_
      show _ = (arrs (x :: r.map (·.2))).countP _
      rw [cnt_step lm, ← Nat.one_mul (List.countP _ _), ← sum_ite]
      refine congrArg List.sum (List.map_congr_left fun σ hσ => ?_)
      have hb := bd hσ
      have e3 : ∀ j, (goodS ((Kd.F, x) :: r) (insO x j σ) && (rkS ((Kd.F, x) :: r) (insO x j σ) == k)) = ((goodS r σ && decide (rkS r σ ≤ j)) && (j + 1 == k)) := fun j => by
        show ((goodS r (insO x j σ) && decide (rkS r (insO x j σ) ≤ insO x j σ x)) && (insO x j σ x + 1 == k)) = _
        rw [insO_at, goodS_bump j r (bmp σ j), rkS_bump j r (bmp σ j)]
        congr 2
        refine decide_eq_decide.mpr ?_
        have h := bumpR_cases j (rkS r σ)
        omega
      rw [List.countP_congr (fun j _ => by rw [e3 j])]
      rw [countR_eq fun j => goodS r σ && decide (rkS r σ ≤ j)]
      refine ite_congr (propext ?_) (fun _ => rfl) fun _ => rfl
      rw [Bool.and_eq_true, Bool.and_eq_true, decide_eq_true_iff, decide_eq_true_iff]
      constructor
      · rintro ⟨h1, h2⟩
        exact ⟨by omega, by omega, h1, by omega⟩
      · rintro ⟨h1, h2, h3, h4⟩
        exact ⟨h3, by omega⟩
    | L =>
      refine ⟨by show (withL (waysS r)).length = _; rw [withL_len, len]; rfl, fun k hk => ?_⟩
      have hk : k ≤ r.length + 1 := hk
      have key : cntK ((Kd.L, x) :: r) k = (k - 1) * if 1 ≤ k then cntK r (k - 1) else 0 := by
        show (arrs (x :: r.map (·.2))).countP _ = _
        rw [cnt_step lm]
        have e3 : ∀ σ, σ ∈ arrs (r.map (·.2)) → ((List.range (r.length + 1)).countP fun j => goodS ((Kd.L, x) :: r) (insO x j σ) && (rkS ((Kd.L, x) :: r) (insO x j σ) == k)) = if (goodS r σ && (rkS r σ + 1 == k)) = true then k - 1 else 0 := fun σ hσ => by
          have hb := bd hσ
          by_cases c : goodS r σ = true ∧ rkS r σ + 1 = k
          · rw [if_pos (by rw [Bool.and_eq_true, beq_iff_eq]; exact c)]
            have e4 : (List.range (r.length + 1)).countP (fun j => goodS ((Kd.L, x) :: r) (insO x j σ) && (rkS ((Kd.L, x) :: r) (insO x j σ) == k)) = (List.range (r.length + 1)).countP fun j => decide (j < rkS r σ) := List.countP_congr fun j _ => by
              show ((goodS r (insO x j σ) && decide (insO x j σ x + 1 < rkS r (insO x j σ))) && (rkS r (insO x j σ) == k)) = true ↔ _
              rw [insO_at, goodS_bump j r (bmp σ j), rkS_bump j r (bmp σ j), c.1, Bool.true_and, Bool.and_eq_true, decide_eq_true_iff, decide_eq_true_iff, beq_iff_eq]
              have h := bumpR_cases j (rkS r σ)
              omega
            rw [e4, countR_lt (by omega)]
            omega
          · rw [if_neg (by rw [Bool.and_eq_true, beq_iff_eq]; exact c)]
            refine List.countP_eq_zero.mpr fun j _ h => c ?_
            have h : ((goodS r (insO x j σ) && decide (insO x j σ x + 1 < rkS r (insO x j σ))) && (rkS r (insO x j σ) == k)) = true := h
            rw [insO_at, goodS_bump j r (bmp σ j), rkS_bump j r (bmp σ j), Bool.and_eq_true, Bool.and_eq_true, decide_eq_true_iff, beq_iff_eq] at h
            refine ⟨h.1.1, ?_⟩
            have h1 := h.1.2
            have h2 := h.2
            have h3 := bumpR_cases j (rkS r σ)
            omega
        rw [List.map_congr_left e3, sum_ite]
        congr 1
        by_cases c : 1 ≤ k
        · rw [if_pos c]
          refine List.countP_congr fun σ _ => ?_
          rw [Bool.and_eq_true, Bool.and_eq_true, beq_iff_eq, beq_iff_eq]
          exact and_congr_right fun _ => by omega
        · rw [if_neg c]
          exact List.countP_eq_zero.mpr fun σ _ h => by
            rw [Bool.and_eq_true, beq_iff_eq] at h
            omega
      rw [key]
      show (withL (waysS r))[k]? = _
      unfold withL
      cases k with
      | zero => rw [if_neg (by omega)]; rfl
      | succ k =>
        rw [List.getElem?_cons_succ, List.getElem?_map, List.getElem?_range (by omega), if_pos (by omega)]
        show some (k * (waysS r).getD k 0) = some ((k + 1 - 1) * cntK r (k + 1 - 1))
        rw [gd k (by omega)]
        rfl
    | H =>
      refine ⟨by show (withH (waysS r)).length = _; rw [withH_len, len]; rfl, fun k hk => ?_⟩
      have hk : k ≤ r.length + 1 := hk
      have key : cntK ((Kd.H, x) :: r) k = (r.length + 1 - k) * cntK r k := by
        show (arrs (x :: r.map (·.2))).countP _ = _
        rw [cnt_step lm]
        have e3 : ∀ σ, σ ∈ arrs (r.map (·.2)) → ((List.range (r.length + 1)).countP fun j => goodS ((Kd.H, x) :: r) (insO x j σ) && (rkS ((Kd.H, x) :: r) (insO x j σ) == k)) = if (goodS r σ && (rkS r σ == k)) = true then r.length + 1 - k else 0 := fun σ hσ => by
          have hb := bd hσ
          by_cases c : goodS r σ = true ∧ rkS r σ = k
          · rw [if_pos (by rw [Bool.and_eq_true, beq_iff_eq]; exact c)]
            have e4 : (List.range (r.length + 1)).countP (fun j => goodS ((Kd.H, x) :: r) (insO x j σ) && (rkS ((Kd.H, x) :: r) (insO x j σ) == k)) = (List.range (r.length + 1)).countP fun j => decide (rkS r σ ≤ j) := List.countP_congr fun j _ => by
              show ((goodS r (insO x j σ) && decide (rkS r (insO x j σ) ≤ insO x j σ x)) && (rkS r (insO x j σ) == k)) = true ↔ _
              rw [insO_at, goodS_bump j r (bmp σ j), rkS_bump j r (bmp σ j), c.1, Bool.true_and, Bool.and_eq_true, decide_eq_true_iff, decide_eq_true_iff, beq_iff_eq]
              have h := bumpR_cases j (rkS r σ)
              omega
            rw [e4, countR_ge (by omega)]
            omega
          · rw [if_neg (by rw [Bool.and_eq_true, beq_iff_eq]; exact c)]
            refine List.countP_eq_zero.mpr fun j _ h => c ?_
            have h : ((goodS r (insO x j σ) && decide (rkS r (insO x j σ) ≤ insO x j σ x)) && (rkS r (insO x j σ) == k)) = true := h
            rw [insO_at, goodS_bump j r (bmp σ j), rkS_bump j r (bmp σ j), Bool.and_eq_true, Bool.and_eq_true, decide_eq_true_iff, beq_iff_eq] at h
            refine ⟨h.1.1, ?_⟩
            have h1 := h.1.2
            have h2 := h.2
            have h3 := bumpR_cases j (rkS r σ)
            omega
        rw [List.map_congr_left e3, sum_ite]
        rfl
      rw [key]
      show (withH (waysS r))[k]? = _
      unfold withH
      by_cases c : k = r.length + 1
      · rw [List.getElem?_append_right (by rw [List.length_map, List.length_range]; omega), List.length_map, List.length_range, len, c, Nat.sub_self, Nat.zero_mul]
        rfl
      · rw [List.getElem?_append_left (by rw [List.length_map, List.length_range]; omega), List.getElem?_map, List.getElem?_range (by omega)]
        show some (((waysS r).length - k) * (waysS r).getD k 0) = _
        rw [gd k (by omega), len]
theorem ways_sum (s : List (Kd × Nat)) (nd : (s.map (·.2)).Nodup) : (waysS s).sum = (arrs (s.map (·.2))).countP (goodS s) := by
  obtain ⟨len, at_⟩ := ways_cnt s nd
  have e1 : waysS s = (List.range (s.length + 1)).map (cntK s) := by
    apply List.ext_getElem?
    intro i
    rw [List.getElem?_map]
    by_cases c : i ≤ s.length
    · rw [List.getElem?_range (by omega), at_ i c]
      rfl
    · rw [List.getElem?_eq_none (by omega), List.getElem?_eq_none (by rw [List.length_range]; omega)]
      rfl
  rw [e1]
  refine (count_below (goodS s) (rkS s) _ _).symm.trans (List.countP_congr fun σ hσ => ?_)
  rw [Bool.and_eq_true, decide_eq_true_iff]
  refine ⟨fun h => h.1, fun h => ⟨h, ?_⟩⟩
  have := rkS_le s (σ := σ) (m := s.length) fun y hy => by
    have := (arrs_val nd hσ).1 y hy
    rw [List.length_map] at this
    exact this
  omega
/-- the places left -/
def placesP (n : Nat) : Nat → Nat → Nat
  | 0, _ => 1
  | k + 1, p => placesP n k p * (p + k)
/-- others, put in anywhere -/
theorem arrs_dead (s : List (Kd × Nat)) : ∀ (d : List Nat), (d ++ s.map (·.2)).Nodup → (arrs (d ++ s.map (·.2))).countP (goodS s) = (arrs (s.map (·.2))).countP (goodS s) * placesP 0 d.length (s.length + 1)
  | [], _ => (Nat.mul_one _).symm
  | x :: d, nd => by
    obtain ⟨nx, nd⟩ := List.nodup_cons.mp nd
    show (arrs (x :: (d ++ s.map (·.2)))).countP (goodS s) = _ * (placesP 0 d.length (s.length + 1) * (s.length + 1 + d.length))
    rw [cnt_step rfl, ← Nat.mul_assoc, ← arrs_dead s d nd]
    have e : ∀ σ, σ ∈ arrs (d ++ s.map (·.2)) → ((List.range ((d ++ s.map (·.2)).length + 1)).countP fun j => goodS s (insO x j σ)) = if goodS s σ = true then s.length + 1 + d.length else 0 := fun σ _ => by
      have e1 : ∀ j, goodS s (insO x j σ) = goodS s σ := fun j => goodS_bump j s fun y hy => insO_ne _ _ fun e => nx (e ▸ List.mem_append_right _ hy)
      rw [List.countP_congr fun j _ => by rw [e1 j]]
      by_cases c : goodS s σ = true
      · rw [if_pos c, List.countP_eq_length.mpr fun _ _ => c, List.length_range, List.length_append, List.length_map]
        omega
      · rw [if_neg c, List.countP_eq_zero.mpr fun _ _ => c]
    rw [List.map_congr_left e, sum_ite, Nat.mul_comm]
theorem placesP_any (n m : Nat) : ∀ k p, placesP n k p = placesP m k p
  | 0, _ => rfl
  | k + 1, p => by
    show placesP n k p * _ = placesP m k p * _
    rw [placesP_any n m k p]
end HSP
namespace HSP
open PySem PySem.Spec PyProof.Rows L2
/-! ## ways, by their ranks -/
def Small (ws : List Nat) : Prop := ∀ w, w ∈ ws → w < 2 ^ 5000
theorem nat_mulW {a b : Nat} (ha : a < 2 ^ 5000) (hb : b < 2 ^ 5000) : CMulW (a : Int) (b : Int) := wide_mul (a := 5000) (b := 5000) (show ((a : Nat) : Int).natAbs < _ from ha) (show ((b : Nat) : Int).natAbs < _ from hb) (by decide) (by decide) (by decide)
theorem few_lt {n : Nat} (h : n ≤ 1000) : n < 2 ^ 5000 := Nat.lt_of_le_of_lt h (Nat.lt_of_lt_of_le (show 1000 < 2 ^ 10 by decide) (Nat.pow_le_pow_right (by decide) (by decide)))
theorem getD_at {ws : List Nat} {i w : Nat} (h : ws[i]? = some w) : ws.getD i 0 = w := by
  rw [List.getD_eq_getElem?_getD, h]
  rfl
section
variable {P : Program} {w : World} {K : PySem.W.Frag} {mg : Str → Option Value} {base : Heap}
def spWays (f : List Nat → List Nat) : Sp := fun vs H Q _ => ∃ (a : Addr) (ws : List Nat), vs = [.ref a] ∧ H a = some (.lst (ws.map natV)) ∧ ws.length ≤ 900 ∧ Small ws ∧ ∀ (H' : Hp) (q : Addr), Same H H' → H q = none → H' q = some (.lst ((f ws).map natV)) → Q (.ref q) H'
end
end HSP
namespace HSP
open PySem PySem.Spec PyProof.Rows L2
/-! ## orders with a pattern, counted block by block -/
theorem found_one {g : Nat → Int} {t : Tr} {o o' : Nat} (ho : o < t.size) (ho' : o' < t.size) (f : labAt g t o = .found) (f' : labAt g t o' = .found) (e : g o = g o') : o = o' := by
  have h1 := (lab_found g ho).mp f
  have h2 := (lab_found g ho').mp f'
  rw [e, h2] at h1
  exact (congrArg Prod.snd h1).symm
theorem owns_iff {g : Nat → Int} {t : Tr} {n o o' : Nat} (O : Owns g t n o') (ho : o < t.size) (f : labAt g t o = .found) : o' = o ↔ g o = repAt g (pOf t 0 n) n :=
  ⟨fun z => by rw [← z]; exact O.val, fun z => found_one O.lt ho O.found f (O.val.trans z.symm)⟩
/-- one node of a block -/
def wNode (g : Nat → Int) (t : Tr) (o : Nat) (ws : List Nat) (n : Nat) : List Nat :=
  if g o = repAt g (pOf t 0 n) n ∧ labAt g t n = .low then withL ws else if g o = repAt g (pOf t 0 n) n ∧ labAt g t n = .high then withH ws else ws
/-- one block -/
def wOwner (g : Nat → Int) (t : Tr) (ws : List Nat) (o : Nat) : List Nat := if labAt g t o = .found then (List.range t.size).foldl (wNode g t o) (withF ws) else ws
def waysOf (g : Nat → Int) (t : Tr) : List Nat := (List.range t.size).foldl (wOwner g t) [1]
def ordersN (g : Nat → Int) (t : Tr) : Nat := (waysOf g t).sum * placesP t.size (t.size + 1 - (waysOf g t).length) (waysOf g t).length
/-- how large the ways become -/
theorem sum_le {b : Nat} : ∀ {ws : List Nat}, (∀ w, w ∈ ws → w ≤ b) → ws.sum ≤ ws.length * b
  | [], _ => Nat.zero_le _
  | w :: r, h => by
    have ih := sum_le (ws := r) fun x hx => h x (List.mem_cons_of_mem _ hx)
    have h1 := h w List.mem_cons_self
    rw [List.sum_cons, List.length_cons, Nat.succ_mul]
    omega
theorem getD_le {b : Nat} {ws : List Nat} (h : ∀ w, w ∈ ws → w ≤ b) (i : Nat) : ws.getD i 0 ≤ b := by
  rw [List.getD_eq_getElem?_getD]
  cases e : ws[i]? with
  | none => exact Nat.zero_le _
  | some w => exact h w (List.mem_of_getElem? e)
theorem withF_le {b : Nat} {ws : List Nat} (h : ∀ w, w ∈ ws → w ≤ b) : ∀ w, w ∈ withF ws → w ≤ ws.length * b := fun w hw => by
  obtain ⟨i, _, rfl⟩ := List.mem_map.mp hw
  have h1 := sum_le (ws := ws.take i) fun x hx => h x (List.mem_of_mem_take hx)
  exact Nat.le_trans h1 (Nat.mul_le_mul_right _ (by rw [List.length_take]; omega))
theorem withL_le {b : Nat} {ws : List Nat} (h : ∀ w, w ∈ ws → w ≤ b) : ∀ w, w ∈ withL ws → w ≤ ws.length * b := fun w hw => by
  rcases List.mem_cons.mp hw with e | e
  · rw [e]
    exact Nat.zero_le _
  · obtain ⟨i, hi, rfl⟩ := List.mem_map.mp e
    exact Nat.mul_le_mul (Nat.le_of_lt (List.mem_range.mp hi)) (getD_le h i)
theorem withH_le {b : Nat} {ws : List Nat} (h : ∀ w, w ∈ ws → w ≤ b) : ∀ w, w ∈ withH ws → w ≤ ws.length * b := fun w hw => by
  rcases List.mem_append.mp hw with e | e
  · obtain ⟨i, hi, rfl⟩ := List.mem_map.mp e
    exact Nat.mul_le_mul (Nat.sub_le _ _) (getD_le h i)
  · rw [List.mem_singleton.mp e]
    exact Nat.zero_le _
end HSP
namespace HSP
open PySem PySem.Spec PyProof.Rows L2
/-! ## the orders with given labels are counted by `ordersN` -/
def nodeK (lab : Nat → Lb) (t : Tr) (o i : Nat) : Option (Kd × Nat) := if lab i = .low ∧ boundOf (lbStr lab) true (pOf t 0 i) none = some o then some (.L, i) else if lab i = .high ∧ boundOf (lbStr lab) false (pOf t 0 i) none = some o then some (.H, i) else none
def insideK (lab : Nat → Lb) (t : Tr) (o : Nat) : List (Kd × Nat) := (List.range t.size).filterMap (nodeK lab t o)
def blkK (lab : Nat → Lb) (t : Tr) (o : Nat) : List (Kd × Nat) := if lab o = .found then (.F, o) :: insideK lab t o else []
def stepsK (lab : Nat → Lb) (t : Tr) (k : Nat) : List (Kd × Nat) := (List.range k).flatMap (blkK lab t)
theorem stepsK_succ (lab : Nat → Lb) (t : Tr) (k : Nat) : stepsK lab t (k + 1) = stepsK lab t k ++ blkK lab t k := by
  unfold stepsK
  rw [List.range_succ, List.flatMap_append]
  simp
theorem foldl_same {α β : Type} {f g : β → α → β} : ∀ {l : List α} {a : β}, (∀ x, x ∈ l → ∀ b, f b x = g b x) → l.foldl f a = l.foldl g a
  | [], _, _ => rfl
  | x :: r, a, h => by
    rw [List.foldl_cons, List.foldl_cons, h x List.mem_cons_self]
    exact foldl_same fun y hy => h y (List.mem_cons_of_mem _ hy)
theorem foldl_flat {α β γ : Type} {f : α → List β} {g : γ → β → γ} : ∀ {l : List α} {a : γ}, (l.flatMap f).foldl g a = l.foldl (fun a x => (f x).foldl g a) a
  | [], _ => rfl
  | x :: r, a => by
    rw [List.flatMap_cons, List.foldl_append, List.foldl_cons]
    exact foldl_flat
theorem foldl_fm {α β γ : Type} {f : α → Option β} {g : γ → β → γ} : ∀ {l : List α} {a : γ}, (l.filterMap f).foldl g a = l.foldl (fun a x => match f x with | none => a | some y => g a y) a
  | [], _ => rfl
  | x :: r, a => by
    rw [List.filterMap_cons, List.foldl_cons]
    cases f x with
    | none => exact foldl_fm
    | some y => rw [List.foldl_cons]; exact foldl_fm
def stpW (ws : List Nat) (c : Kd × Nat) : List Nat := stepW c.1 ws
theorem node_step {g : Nat → Int} {t : Tr} {o i : Nat} (f : labAt g t o = .found) (ho : o < t.size) (hi : i < t.size) (vs : List Nat) : wNode g t o vs i = match nodeK (labAt g t) t o i with | none => vs | some c => stpW vs c := by
  have e1 : (g o = repAt g (pOf t 0 i) i ∧ labAt g t i = .low) ↔ (labAt g t i = .low ∧ boundOf (lbStr (labAt g t)) true (pOf t 0 i) none = some o) := by
    rw [And.comm]
    refine and_congr_right fun l => ?_
    obtain ⟨o', eb, O⟩ := owns_low hi l
    have eb : boundOf (lbStr (labAt g t)) true (pOf t 0 i) none = some o' := eb
    rw [eb, ← owns_iff O ho f]
    exact ⟨fun h => congrArg some h, fun h => Option.some.inj h⟩
  have e2 : (g o = repAt g (pOf t 0 i) i ∧ labAt g t i = .high) ↔ (labAt g t i = .high ∧ boundOf (lbStr (labAt g t)) false (pOf t 0 i) none = some o) := by
    rw [And.comm]
    refine and_congr_right fun l => ?_
    obtain ⟨o', eb, O⟩ := owns_high hi l
    have eb : boundOf (lbStr (labAt g t)) false (pOf t 0 i) none = some o' := eb
    rw [eb, ← owns_iff O ho f]
    exact ⟨fun h => congrArg some h, fun h => Option.some.inj h⟩
  unfold wNode nodeK
  by_cases c1 : g o = repAt g (pOf t 0 i) i ∧ labAt g t i = .low
  · rw [if_pos c1, if_pos (e1.mp c1)]
    rfl
  · rw [if_neg c1, if_neg fun z => c1 (e1.mpr z)]
    by_cases c2 : g o = repAt g (pOf t 0 i) i ∧ labAt g t i = .high
    · rw [if_pos c2, if_pos (e2.mp c2)]
      rfl
    · rw [if_neg c2, if_neg fun z => c2 (e2.mpr z)]
theorem inner_is {g : Nat → Int} {t : Tr} {o : Nat} (f : labAt g t o = .found) (ho : o < t.size) {j : Nat} (hj : j ≤ t.size) (ws : List Nat) : (List.range j).foldl (wNode g t o) ws = ((List.range j).filterMap (nodeK (labAt g t) t o)).foldl stpW ws := by
  rw [foldl_fm]
  exact foldl_same fun i hi vs => (node_step (i := i) f ho (Nat.lt_of_lt_of_le (List.mem_range.mp hi) hj) vs).trans (by cases nodeK (labAt g t) t o i <;> rfl)
theorem outer_is (g : Nat → Int) (t : Tr) {k : Nat} (hk : k ≤ t.size) : (List.range k).foldl (wOwner g t) [1] = (stepsK (labAt g t) t k).foldl stpW [1] := by
  unfold stepsK
  rw [foldl_flat]
  refine foldl_same fun o ho ws => ?_
  have ho := List.mem_range.mp ho
  unfold wOwner blkK
  by_cases f : labAt g t o = .found
  · rw [if_pos f, if_pos f, List.foldl_cons]
    unfold insideK
    exact inner_is f (by omega) (Nat.le_refl _) _
  · rw [if_neg f, if_neg f]
    rfl
theorem ways_steps (g : Nat → Int) (t : Tr) : waysOf g t = waysS (stepsK (labAt g t) t t.size).reverse := by
  unfold waysS
  rw [List.foldr_reverse]
  exact outer_is g t (Nat.le_refl _)
/-! ### good steps -/
def okK (o : Nat) (s : Nat → Nat) (c : Kd × Nat) : Prop := match c.1 with
  | .F => False
  | .L => s c.2 < s o
  | .H => s o < s c.2
theorem rk_inside (o : Nat) (s : Nat → Nat) (r : List (Kd × Nat)) : ∀ m : List (Kd × Nat), (∀ c, c ∈ m → c.1 ≠ .F) → rkS (m ++ (.F, o) :: r) s = s o + 1
  | [], _ => rfl
  | (.F, _) :: _, h => absurd rfl (h _ List.mem_cons_self)
  | (.L, _) :: m, h => rk_inside o s r m fun c hc => h c (List.mem_cons_of_mem _ hc)
  | (.H, _) :: m, h => rk_inside o s r m fun c hc => h c (List.mem_cons_of_mem _ hc)
theorem good_inside (o : Nat) (s : Nat → Nat) (r : List (Kd × Nat)) : ∀ m : List (Kd × Nat), (∀ c, c ∈ m → c.1 ≠ .F) → (goodS (m ++ (.F, o) :: r) s = true ↔ goodS ((.F, o) :: r) s = true ∧ ∀ c, c ∈ m → okK o s c)
  | [], _ => ⟨fun h => ⟨h, fun _ z => (nomatch z)⟩, fun h => h.1⟩
  | (.F, _) :: _, h => absurd rfl (h _ List.mem_cons_self)
  | (.L, x) :: m, h => by
    have h' : ∀ c, c ∈ m → c.1 ≠ .F := fun c hc => h c (List.mem_cons_of_mem _ hc)
    show (goodS (m ++ (.F, o) :: r) s && decide (s x + 1 < rkS (m ++ (.F, o) :: r) s)) = true ↔ _
    rw [Bool.and_eq_true, good_inside o s r m h', rk_inside o s r m h', decide_eq_true_iff, and_assoc, List.forall_mem_cons]
    refine and_congr_right fun _ => ⟨fun z => ⟨show s x < s o by omega, z.1⟩, fun z => ⟨z.2, ?_⟩⟩
    have : s x < s o := z.1
    omega
  | (.H, x) :: m, h => by
    have h' : ∀ c, c ∈ m → c.1 ≠ .F := fun c hc => h c (List.mem_cons_of_mem _ hc)
    show (goodS (m ++ (.F, o) :: r) s && decide (rkS (m ++ (.F, o) :: r) s ≤ s x)) = true ↔ _
    rw [Bool.and_eq_true, good_inside o s r m h', rk_inside o s r m h', decide_eq_true_iff, and_assoc, List.forall_mem_cons]
    refine and_congr_right fun _ => ⟨fun z => ⟨show s o < s x by omega, z.1⟩, fun z => ⟨z.2, ?_⟩⟩
    have : s o < s x := z.1
    omega
theorem inside_mem {lab : Nat → Lb} {t : Tr} {o : Nat} {c : Kd × Nat} : c ∈ insideK lab t o ↔ c.2 < t.size ∧ (c.1 = .L ∧ lab c.2 = .low ∧ boundOf (lbStr lab) true (pOf t 0 c.2) none = some o ∨ c.1 = .H ∧ lab c.2 = .high ∧ boundOf (lbStr lab) false (pOf t 0 c.2) none = some o) := by
  unfold insideK
  rw [List.mem_filterMap]
  constructor
  · rintro ⟨i, hi, e⟩
    unfold nodeK at e
    by_cases c1 : lab i = .low ∧ boundOf (lbStr lab) true (pOf t 0 i) none = some o
    · rw [if_pos c1] at e
      cases e
      exact ⟨List.mem_range.mp hi, .inl ⟨rfl, c1⟩⟩
    · rw [if_neg c1] at e
      by_cases c2 : lab i = .high ∧ boundOf (lbStr lab) false (pOf t 0 i) none = some o
      · rw [if_pos c2] at e
        cases e
        exact ⟨List.mem_range.mp hi, .inr ⟨rfl, c2⟩⟩
      · rw [if_neg c2] at e
        cases e
  · rintro ⟨h, h1 | h1⟩
    · refine ⟨c.2, List.mem_range.mpr h, ?_⟩
      unfold nodeK
      rw [if_pos h1.2]
      exact congrArg some (Prod.ext h1.1.symm rfl)
    · refine ⟨c.2, List.mem_range.mpr h, ?_⟩
      unfold nodeK
      rw [if_neg (fun z => by rw [h1.2.1] at z; cases z.1), if_pos h1.2]
      exact congrArg some (Prod.ext h1.1.symm rfl)
theorem inside_notF {lab : Nat → Lb} {t : Tr} {o : Nat} {c : Kd × Nat} (h : c ∈ insideK lab t o) : c.1 ≠ .F := by
  rcases (inside_mem.mp h).2 with e | e <;> (rw [e.1]; exact fun z => nomatch z)
/-- the rank behind the first k nodes -/
def RkAt (lab : Nat → Lb) (s : Nat → Nat) (k r : Nat) : Prop := (r = 0 ∧ ∀ a, a < k → lab a ≠ .found) ∨ ∃ l, l < k ∧ lab l = .found ∧ r = s l + 1 ∧ ∀ a, a < k → lab a = .found → a ≤ l
theorem rk_steps (lab : Nat → Lb) (t : Tr) (s : Nat → Nat) : ∀ k, RkAt lab s k (rkS (stepsK lab t k).reverse s)
  | 0 => .inl ⟨rfl, fun _ h => absurd h (Nat.not_lt_zero _)⟩
  | k + 1 => by
    rw [stepsK_succ, List.reverse_append]
    unfold blkK
    by_cases f : lab k = .found
    · rw [if_pos f, List.reverse_cons, List.append_assoc]
      show RkAt lab s (k + 1) (rkS ((insideK lab t k).reverse ++ (.F, k) :: _) s)
      rw [rk_inside k s _ _ fun c hc => inside_notF (List.mem_reverse.mp hc)]
      exact .inr ⟨k, Nat.lt_succ_self k, f, rfl, fun a ha _ => Nat.le_of_lt_succ ha⟩
    · rw [if_neg f]
      rcases rk_steps lab t s k with ⟨h1, h2⟩ | ⟨l, h1, h2, h3, h4⟩
      · exact .inl ⟨h1, fun a ha e => if c : a = k then f (c ▸ e) else h2 a (by omega) e⟩
      · exact .inr ⟨l, by omega, h2, h3, fun a ha e => if c : a = k then absurd (c ▸ e) f else h4 a (by omega) e⟩
theorem good_steps (lab : Nat → Lb) (t : Tr) (s : Nat → Nat) : ∀ k, goodS (stepsK lab t k).reverse s = true ↔ (∀ a b, a < b → b < k → lab a = .found → lab b = .found → s a < s b) ∧ ∀ o, o < k → lab o = .found → ∀ c, c ∈ insideK lab t o → okK o s c
  | 0 => ⟨fun _ => ⟨fun _ _ _ h => absurd h (Nat.not_lt_zero _), fun _ h => absurd h (Nat.not_lt_zero _)⟩, fun _ => rfl⟩
  | k + 1 => by
    rw [stepsK_succ, List.reverse_append]
    unfold blkK
    by_cases f : lab k = .found
    · rw [if_pos f, List.reverse_cons, List.append_assoc]
      show goodS ((insideK lab t k).reverse ++ (.F, k) :: _) s = true ↔ _
      rw [good_inside k s _ _ fun c hc => inside_notF (List.mem_reverse.mp hc)]
      show ((goodS (stepsK lab t k).reverse s && decide (rkS (stepsK lab t k).reverse s ≤ s k)) = true ∧ _) ↔ _
      rw [Bool.and_eq_true, good_steps lab t s k, decide_eq_true_iff]
      have rk := rk_steps lab t s k
      generalize rkS (stepsK lab t k).reverse s = r at rk ⊢
      constructor
      · rintro ⟨⟨⟨h1, h2⟩, h3⟩, h4⟩
        refine ⟨fun a b ab bk fa fb => ?_, fun o ok fo c hc => ?_⟩
        · by_cases e : b = k
          · subst e
            rcases rk with ⟨_, n⟩ | ⟨l, l1, l2, l3, l4⟩
            · exact absurd fa (n a ab)
            · have := l4 a ab fa
              by_cases e2 : a = l
              · subst e2
                omega
              · have := h1 a l (by omega) l1 fa l2
                omega
          · exact h1 a b ab (by omega) fa fb
        · by_cases e : o = k
          · subst e
            exact h4 c (List.mem_reverse.mpr hc)
          · exact h2 o (by omega) fo c hc
      · rintro ⟨h1, h2⟩
        refine ⟨⟨⟨fun a b ab bk => h1 a b ab (by omega), fun o ok => h2 o (by omega)⟩, ?_⟩, fun c hc => h2 k (Nat.lt_succ_self k) f c (List.mem_reverse.mp hc)⟩
        rcases rk with ⟨e, _⟩ | ⟨l, l1, l2, l3, l4⟩
        · omega
        · have := h1 l k l1 (Nat.lt_succ_self k) l2 f
          omega
    · rw [if_neg f]
      show goodS (stepsK lab t k).reverse s = true ↔ _
      rw [good_steps lab t s k]
      constructor
      · rintro ⟨h1, h2⟩
        exact ⟨fun a b ab bk fa fb => h1 a b ab (by have : b ≠ k := fun e => f (e ▸ fb); omega) fa fb, fun o ok fo => h2 o (by have : o ≠ k := fun e => f (e ▸ fo); omega) fo⟩
      · rintro ⟨h1, h2⟩
        exact ⟨fun a b ab bk => h1 a b ab (by omega), fun o ok => h2 o (by omega)⟩
/-- labels that are possible -/
def PossL (lab : Nat → Lb) (t : Tr) : Prop := ∀ n, n < t.size → possAt (lbStr lab) (pOf t 0 n) n = true
theorem bound_lt {lab : Nat → Lb} {t : Tr} {c : Bool} {n o : Nat} (hn : n < t.size) (e : boundOf (lbStr lab) c (pOf t 0 n) none = some o) : o < t.size ∧ lab o = .found := by
  obtain ⟨h1, h2⟩ := bound_in e
  exact ⟨by have h3 : o < 0 + t.size := (pOf_in t 0 n _ h1).2; omega, h2⟩
theorem poss_low {lab : Nat → Lb} {t : Tr} (po : PossL lab t) {n : Nat} (hn : n < t.size) (l : lab n = .low) : ∃ o, boundOf (lbStr lab) true (pOf t 0 n) none = some o := by
  have p0 := po n hn
  have e : lbStr lab n = ("low" : Str) := (str_low _).mpr l
  unfold possAt at p0
  by_cases c : (killerOf (lbStr lab) (pOf t 0 n)).isSome = true
  · rw [if_pos c, e] at p0
    exact absurd p0 (by decide +kernel)
  · rw [if_neg c, if_pos e] at p0
    exact Option.isSome_iff_exists.mp p0
theorem poss_high {lab : Nat → Lb} {t : Tr} (po : PossL lab t) {n : Nat} (hn : n < t.size) (l : lab n = .high) : ∃ o, boundOf (lbStr lab) false (pOf t 0 n) none = some o := by
  have p0 := po n hn
  have e : lbStr lab n = ("high" : Str) := (str_high _).mpr l
  unfold possAt at p0
  by_cases c : (killerOf (lbStr lab) (pOf t 0 n)).isSome = true
  · rw [if_pos c, e] at p0
    exact absurd p0 (by decide +kernel)
  · rw [if_neg c, if_neg (by rw [e]; decide +kernel), if_pos e] at p0
    exact Option.isSome_iff_exists.mp p0
theorem good_keeps {lab : Nat → Lb} {t : Tr} (s : Nat → Nat) (i : Nat → Int) (e : ∀ n, n < t.size → i n = (s n : Int)) : goodS (stepsK lab t t.size).reverse s = true ↔ Keeps lab t i := by
  rw [good_steps]
  constructor
  · rintro ⟨h1, h2⟩
    refine ⟨fun a b ab bk fa fb => ?_, fun n o hn l eb => ?_, fun n o hn l eb => ?_⟩
    · have := h1 a b ab bk fa fb
      rw [e a (by omega), e b bk]
      omega
    · obtain ⟨h3, h4⟩ := bound_lt hn eb
      have := h2 o h3 h4 (.L, n) (inside_mem.mpr ⟨hn, .inl ⟨rfl, l, eb⟩⟩)
      have : s n < s o := this
      rw [e n hn, e o h3]
      omega
    · obtain ⟨h3, h4⟩ := bound_lt hn eb
      have := h2 o h3 h4 (.H, n) (inside_mem.mpr ⟨hn, .inr ⟨rfl, l, eb⟩⟩)
      have : s o < s n := this
      rw [e n hn, e o h3]
      omega
  · intro k
    refine ⟨fun a b ab bk fa fb => ?_, fun o ok fo c hc => ?_⟩
    · have := k.up a b ab bk fa fb
      rw [e a (by omega), e b bk] at this
      omega
    · obtain ⟨h1, h2 | h2⟩ := inside_mem.mp hc
      · have := k.low c.2 o h1 h2.2.1 h2.2.2
        rw [e _ h1, e o ok] at this
        unfold okK
        rw [h2.1]
        show s c.2 < s o
        omega
      · have := k.high c.2 o h1 h2.2.1 h2.2.2
        rw [e _ h1, e o ok] at this
        unfold okK
        rw [h2.1]
        show s o < s c.2
        omega
/-! ### which nodes are put in -/
def ownK (lab : Nat → Lb) (t : Tr) (i : Nat) : Option Nat := match lab i with
  | .found => some i
  | .low => boundOf (lbStr lab) true (pOf t 0 i) none
  | .high => boundOf (lbStr lab) false (pOf t 0 i) none
  | .dead => none
theorem blk_nodes {lab : Nat → Lb} {t : Tr} {o i : Nat} (h : i ∈ (blkK lab t o).map (·.2)) : ownK lab t i = some o := by
  obtain ⟨c, hc, rfl⟩ := List.mem_map.mp h
  unfold blkK at hc
  by_cases f : lab o = .found
  · rw [if_pos f] at hc
    rcases List.mem_cons.mp hc with e | e
    · rw [e]
      unfold ownK
      rw [f]
    · unfold ownK
      rcases (inside_mem.mp e).2 with ⟨_, e2, e3⟩ | ⟨_, e2, e3⟩
      · rw [e2]
        exact e3
      · rw [e2]
        exact e3
  · rw [if_neg f] at hc
    cases hc
theorem inside_nodes (lab : Nat → Lb) (t : Tr) (o : Nat) : (insideK lab t o).map (·.2) = (List.range t.size).filter fun i => (nodeK lab t o i).isSome := by
  unfold insideK
  generalize List.range t.size = l
  induction l with
  | nil => rfl
  | cons x r ih =>
    rw [List.filterMap_cons, List.filter_cons]
    cases e : nodeK lab t o x with
    | none => exact ih
    | some c =>
      rw [if_pos (show (some c).isSome = true from rfl), List.map_cons, ih]
      congr 1
      unfold nodeK at e
      split at e
      · cases e; rfl
      · split at e
        · cases e; rfl
        · cases e
theorem steps_nodup (lab : Nat → Lb) (t : Tr) (k : Nat) : ((stepsK lab t k).map (·.2)).Nodup := by
  unfold stepsK
  rw [List.map_flatMap]
  refine nodup_flatMap (fun o _ => ?_) (List.nodup_range.imp fun {a b} ne i ha hb => ne (Option.some.inj ((blk_nodes ha).symm.trans (blk_nodes hb))))
  unfold blkK
  by_cases f : lab o = .found
  · rw [if_pos f, List.map_cons, inside_nodes]
    refine List.nodup_cons.mpr ⟨fun h => ?_, List.nodup_range.filter _⟩
    have := (List.mem_filter.mp h).2
    unfold nodeK at this
    rw [if_neg (fun z => by rw [f] at z; cases z.1), if_neg (fun z => by rw [f] at z; cases z.1)] at this
    cases this
  · rw [if_neg f]
    exact List.nodup_nil
theorem steps_mem {lab : Nat → Lb} {t : Tr} (po : PossL lab t) {i : Nat} : i ∈ (stepsK lab t t.size).map (·.2) ↔ i < t.size ∧ lab i ≠ .dead := by
  unfold stepsK
  rw [List.map_flatMap, List.mem_flatMap]
  constructor
  · rintro ⟨o, ho, hi⟩
    have ho := List.mem_range.mp ho
    have own := blk_nodes hi
    obtain ⟨c, hc, rfl⟩ := List.mem_map.mp hi
    refine ⟨?_, fun e => by unfold ownK at own; rw [e] at own; cases own⟩
    unfold blkK at hc
    by_cases f : lab o = .found
    · rw [if_pos f] at hc
      rcases List.mem_cons.mp hc with e | e
      · rw [e]; exact ho
      · exact (inside_mem.mp e).1
    · rw [if_neg f] at hc
      cases hc
  · rintro ⟨hi, nd⟩
    cases e : lab i with
    | dead => exact absurd e nd
    | found =>
      refine ⟨i, List.mem_range.mpr hi, ?_⟩
      unfold blkK
      rw [if_pos e]
      exact List.mem_cons_self
    | low =>
      obtain ⟨o, eb⟩ := poss_low po hi e
      obtain ⟨h3, h4⟩ := bound_lt hi eb
      refine ⟨o, List.mem_range.mpr h3, ?_⟩
      unfold blkK
      rw [if_pos h4]
      exact List.mem_cons_of_mem _ (List.mem_map.mpr ⟨(.L, i), inside_mem.mpr ⟨hi, .inl ⟨rfl, e, eb⟩⟩, rfl⟩)
    | high =>
      obtain ⟨o, eb⟩ := poss_high po hi e
      obtain ⟨h3, h4⟩ := bound_lt hi eb
      refine ⟨o, List.mem_range.mpr h3, ?_⟩
      unfold blkK
      rw [if_pos h4]
      exact List.mem_cons_of_mem _ (List.mem_map.mpr ⟨(.H, i), inside_mem.mpr ⟨hi, .inr ⟨rfl, e, eb⟩⟩, rfl⟩)
theorem steps_few {lab : Nat → Lb} {t : Tr} (po : PossL lab t) : (stepsK lab t t.size).length ≤ t.size := by
  have nd := steps_nodup lab t t.size
  have h : (((List.range t.size).filter fun i => decide (lab i ≠ .dead))).Perm ((stepsK lab t t.size).map (·.2)) := (List.perm_ext_iff_of_nodup (List.nodup_range.filter _) nd).mpr fun i => by
    rw [steps_mem po, List.mem_filter, List.mem_range, decide_eq_true_iff]
  have l := h.length_eq
  have := List.length_filter_le (fun i => decide (lab i ≠ .dead)) (List.range t.size)
  rw [List.length_range] at this
  rw [List.length_map] at l
  omega
theorem steps_part {lab : Nat → Lb} {t : Tr} {k : Nat} (hk : k ≤ t.size) : (stepsK lab t k).length ≤ (stepsK lab t t.size).length := by
  have key : ∀ d, (stepsK lab t k).length ≤ (stepsK lab t (k + d)).length := fun d => by
    induction d with
    | zero => exact Nat.le_refl _
    | succ d ih =>
      have e := stepsK_succ lab t (k + d)
      rw [← Nat.add_assoc, e, List.length_append]
      omega
  have := key (t.size - k)
  rw [show k + (t.size - k) = t.size by omega] at this
  exact this
theorem inside_part {lab : Nat → Lb} {t : Tr} {o j : Nat} (hj : j ≤ t.size) (ho : o < t.size) (f : lab o = .found) : (stepsK lab t o).length + 1 + ((List.range j).filterMap (nodeK lab t o)).length ≤ (stepsK lab t t.size).length := by
  have h := steps_part (lab := lab) (t := t) (k := o + 1) (by omega)
  rw [stepsK_succ, List.length_append] at h
  unfold blkK at h
  rw [if_pos f, List.length_cons] at h
  have e : ((List.range j).filterMap (nodeK lab t o)).length ≤ (insideK lab t o).length := by
    unfold insideK
    refine List.Sublist.length_le (List.Sublist.filterMap _ ?_)
    exact List.range_sublist.mpr hj
  omega
/-- the values of an order -/
def valN (o : List Nat) (i : Nat) : Int := ((o.getD i 0 : Nat) : Int)
theorem count_steps {lab : Nat → Lb} {t : Tr} (po : PossL lab t) : (ordersOf t.size t.size).countP (fun o => (List.range t.size).all fun i => decide (labAt (valN o) t i = lab i)) = (waysS (stepsK lab t t.size).reverse).sum * placesP 0 (t.size - (stepsK lab t t.size).length) ((stepsK lab t t.size).length + 1) := by
  have nd := steps_nodup lab t t.size
  have nd2 : ((stepsK lab t t.size).reverse.map (·.2)).Nodup := by
    rw [List.map_reverse]
    exact List.pairwise_reverse.mpr (nd.imp fun h e => h e.symm)
  have ndD : ((List.range t.size).filter fun i => decide (lab i = .dead)).Nodup := List.nodup_range.filter _
  have pm : (((List.range t.size).filter fun i => decide (lab i = .dead)) ++ (stepsK lab t t.size).reverse.map (·.2)).Perm (List.range t.size) := by
    refine (List.perm_ext_iff_of_nodup (List.nodup_append.mpr ⟨ndD, nd2, fun a ha b hb e => ?_⟩) List.nodup_range).mpr fun i => ?_
    · have h1 := of_decide_eq_true (List.mem_filter.mp ha).2
      rw [List.map_reverse, List.mem_reverse, ← e] at hb
      exact ((steps_mem po).mp hb).2 h1
    · rw [List.mem_append, List.mem_filter, List.map_reverse, List.mem_reverse, steps_mem po, List.mem_range, decide_eq_true_iff]
      constructor
      · rintro (h | h)
        · exact h.1
        · exact h.1
      · intro h
        by_cases c : lab i = .dead
        · exact .inl ⟨h, c⟩
        · exact .inr ⟨h, c⟩
  have len : ((List.range t.size).filter fun i => decide (lab i = .dead)).length = t.size - (stepsK lab t t.size).length := by
    have := pm.length_eq
    rw [List.length_append, List.length_map, List.length_reverse, List.length_range] at this
    omega
  rw [orders_count pm, ways_sum _ nd2]
  have dd := arrs_dead (stepsK lab t t.size).reverse _ (pm.nodup_iff.mpr List.nodup_range)
  rw [len, List.length_reverse] at dd
  rw [← dd]
  refine List.countP_congr fun s hs => ?_
  have ndA := pm.nodup_iff.mpr List.nodup_range
  have memA : ∀ x, x < t.size → x ∈ ((List.range t.size).filter fun i => decide (lab i = .dead)) ++ (stepsK lab t t.size).reverse.map (·.2) := fun x hx => pm.mem_iff.mpr (List.mem_range.mpr hx)
  obtain ⟨_, inj⟩ := arrs_val ndA hs
  have ev : ∀ n, n < t.size → valN ((List.range t.size).map s) n = (s n : Int) := fun n hn => by
    unfold valN
    rw [List.getD_eq_getElem?_getD, List.getElem?_map, List.getElem?_range hn]
    rfl
  rw [good_keeps s (valN ((List.range t.size).map s)) ev, ← keeps_iff po fun a b ha hb e => inj a b (memA a ha) (memA b hb) (by rw [ev a ha, ev b hb] at e; omega), List.all_eq_true]
  exact ⟨fun h n hn => of_decide_eq_true (h n (List.mem_range.mpr hn)), fun h n hn => decide_eq_true (h n (List.mem_range.mp hn))⟩
theorem orders_labs (g : Nat → Int) (t : Tr) : ordersN g t = (ordersOf t.size t.size).countP fun o => (List.range t.size).all fun i => decide (labAt (valN o) t i = labAt g t i) := by
  have po : PossL (labAt g t) t := fun n hn => labs_poss g t hn
  have nd := steps_nodup (labAt g t) t t.size
  have nd2 : ((stepsK (labAt g t) t t.size).reverse.map (·.2)).Nodup := by
    rw [List.map_reverse]
    exact List.pairwise_reverse.mpr (nd.imp fun h e => h e.symm)
  rw [count_steps po]
  unfold ordersN
  have e := (ways_cnt _ nd2).1
  rw [List.length_reverse] at e
  rw [ways_steps, e, placesP_any t.size 0]
  congr 2
  omega
end HSP
namespace HSP
open PySem PySem.Spec PyProof.Rows L2
section
variable {X : Cx}
/-- str of data -/
theorem cr_strD (hgd : X.A.guards = some []) (hu : X.A.units + 64 < cLine) : CallR X (.type "str") (rReprD X.K) := by
  intro pins s σ H vs us Q I r h
  obtain ⟨a, d, rfl, hd, hs, hn, h60, hz, q⟩ := h
  rw [Vals.ref1 r]
  obtain ⟨as, rd⟩ := Dp.reads I d (.ref a) (.ref a) hd rfl
  exact str_of_reads rd hs (fun z => by rw [hn] at z; cases z) hgd (by omega) (fun _ _ e => e) (fun h' u tk kp => ⟨.str _, H, I.kept kp, ⟨u, rfl⟩, q⟩) hz
end
/-- lists of booleans as data -/
def boolsD (l : List Bool) : PyData := .list (l.map PyData.bool)
theorem bools_dpAll {K : PySem.W.Frag} {H : Hp} : ∀ l : List Bool, DpAll K H (l.map V.bl) (l.map PyData.bool)
  | [] => .nil
  | b :: r => .cons (.bl b) (bools_dpAll r)
theorem bools2_fine (b c : Bool) : Fine (boolsD [b, c]) := by
  cases b <;> cases c <;> exact ⟨by decide +kernel, by decide +kernel, by decide +kernel, by decide +kernel⟩
theorem bools2_shown {b c d e : Bool} (h : (boolsD [b, c]).shown = (boolsD [d, e]).shown) : b = d ∧ c = e := by
  cases b <;> cases c <;> cases d <;> cases e <;> first | exact ⟨rfl, rfl⟩ | exact absurd h (by decide +kernel)
end HSP
namespace HSP
open PySem PySem.Spec PyProof.Rows L2
section
variable {X : Cx}
/-- str of a boolean -/
def rStrB : List V → Hp → VK → Prop := fun vs H Q => ∃ b : Bool, vs = [.bl b] ∧ Q (.str (if b then "True" else "False")) H
theorem cr_strB : CallR X (.type "str") rStrB := by
  intro pins s σ H vs us Q I r h
  obtain ⟨b, rfl, q⟩ := h
  obtain ⟨u, rfl, ru⟩ := vals1 r
  cases (show u = Value.bool b from ru)
  exact P.str_of_bool ⟨.str _, H, I.tok _, ⟨_, rfl⟩, q⟩
end
theorem strB_inj (a b : Bool) : decide (V.str (if a = true then "True" else "False") = V.str (if b = true then "True" else "False")) = (a == b) := by
  cases a <;> cases b <;> decide +kernel
theorem two_fine {a b : List Int} (ha : Tame a) (hb : Tame b) (la : a.length ≤ 100) (lb : b.length ≤ 100) : Fine (.list [intsD a, intsD b]) := by
  have fa := ints_fine ha (by omega)
  have fb := ints_fine hb (by omega)
  have l1 := intsD_len ha
  have l2 := intsD_len hb
  have ll := shown_list_le 3302 [intsD a, intsD b] fun d hd => by
    simp only [List.mem_cons, List.not_mem_nil, or_false] at hd
    rcases hd with rfl | rfl <;> omega
  refine ⟨?_, ?_, ?_, ?_⟩
  · simp only [PyData.showable, PyData.showableAll, fa.show_, fb.show_, Bool.and_self]
  · simp only [PyData.hasDict, PyData.hasDictAll, fa.dict, fb.dict, Bool.or_self]
  · have d1 : (intsD a).depth ≤ 2 := by
      have := ints_deep a
      unfold intsD
      simp only [PyData.depth]
      omega
    have d2 : (intsD b).depth ≤ 2 := by
      have := ints_deep b
      unfold intsD
      simp only [PyData.depth]
      omega
    simp only [PyData.depth, PyData.depthAll]
    omega
  · have : sizeLine = 16777216 := rfl
    have e2 : [intsD a, intsD b].length = 2 := rfl
    rw [e2] at ll
    omega
theorem tame_of {ns : List Int} (h : ∀ v, v ∈ ns → -2000000 ≤ v ∧ v ≤ 2000000) : Tame ns := fun v hv => by
  have := h v hv
  have e : (10 : Nat) ^ 30 = 1000000000000000000000000000000 := by decide +kernel
  rw [e]
  omega
theorem tame_near {ns : List Int} (h : Near ns) : Tame ns := tame_of fun v hv => by
  have := h v hv
  omega
theorem tame_nats {ws : List Nat} (h : ∀ x, x ∈ ws → x < 1000) : Tame (ws.map Int.ofNat) := tame_of fun v hv => by
  obtain ⟨x, hx, rfl⟩ := List.mem_map.mp hv
  have := h x hx
  show -2000000 ≤ ((x : Nat) : Int) ∧ ((x : Nat) : Int) ≤ 2000000
  omega
theorem nats_int (ws : List Nat) : ws.map natV = (ws.map Int.ofNat).map V.int := by
  rw [List.map_map]
  rfl
theorem DrAt.neN {H : Hp} {p q : Addr} {k : Nat} {ws : List Nat} (d : DrAt H p k) (e : H q = some (.lst (ws.map natV))) : q ≠ p := d.neOf (e.trans (by rw [nats_int]))
theorem DrAt.neT {H : Hp} {p q : Addr} {k : Nat} {kvs : List (List Key × V)} (d : DrAt H p k) (e : H q = some (.dT kvs)) : q ≠ p := fun z => by
  obtain ⟨n, j, b, e2, _⟩ := d
  rw [z, e2] at e
  exact nomatch (Option.some.inj e)
/-- what stands while the turns are made -/
structure St16 (p : Addr) (v : V) (t : Tr) (A : Addr) (ns : List Int) (W : Addr) (ws : List Nat) (L : Addr) (D : Nat → Nat → Nat) (Nl : Addr) (N : List Nat) (H H' : Hp) (c : Nat) : Prop where
  kp : Keep p H H'
  dr : DrAt H' p c
  ht : TrAt H' v t
  eA : H' A = some (.lst (ns.map V.int))
  eW : H' W = some (.lst (ws.map natV))
  eL : FarT H' L D
  eN : H' Nl = some (.lst (N.map natV))
section
variable {p : Addr} {v : V} {t : Tr} {A : Addr} {ns : List Int} {W : Addr} {ws : List Nat} {L : Addr} {D : Nat → Nat → Nat} {Nl : Addr} {N : List Nat} {H H1 H2 : Hp} {c : Nat}
theorem St16.mono (h : St16 p v t A ns W ws L D Nl N H H1 c) {c' : Nat} (l : c ≤ c') : St16 p v t A ns W ws L D Nl N H H1 c' := ⟨h.kp, h.dr.mono l, h.ht, h.eA, h.eW, h.eL, h.eN⟩
theorem St16.same (h : St16 p v t A ns W ws L D Nl N H H1 c) (s : Same H1 H2) : St16 p v t A ns W ws L D Nl N H H2 c :=
  ⟨h.kp.trans (.of s), h.dr.same s, h.ht.same s, s _ _ h.eA, s _ _ h.eW, (let ⟨kvs, e, tb⟩ := h.eL; ⟨kvs, s _ _ e, tb⟩), s _ _ h.eN⟩
theorem St16.draw (h : St16 p v t A ns W ws L D Nl N H H1 c) (k : Keep p H1 H2) {c' : Nat} (d : DrAt H2 p c') : St16 p v t A ns W ws L D Nl N H H2 c' :=
  ⟨h.kp.trans k, d, h.dr.tree k h.ht, k _ _ (h.dr.neOf h.eA) h.eA, k _ _ (h.dr.neN h.eW) h.eW, (let ⟨kvs, e, tb⟩ := h.eL; ⟨kvs, k _ _ (h.dr.neT e) e, tb⟩), k _ _ (h.dr.neN h.eN) h.eN⟩
end
section
variable {K : PySem.W.Frag}
/-- what can be kept by no means -/
def BadK (K : PySem.W.Frag) (H : Hp) (N : List Nat) (kp : V) : Prop :=
  NotLw K H kp ∨ ∃ (k : Addr) (ks : List Nat) (x : V) (r : List V), kp = .ref k ∧ ks.length ≤ 60 ∧ ks.Nodup ∧ (∀ y, y ∈ ks → y ∈ N) ∧ H k = some (.lst (ks.map natV ++ x :: r)) ∧
    (WholeV K H x false ∨ ∃ z : Int, x = .int z ∧ ((∀ n : Nat, n ∈ N → (n : Int) ≠ z) ∨ ∃ n : Nat, n ∈ ks ∧ (n : Int) = z))
theorem BadK.kept {H : Hp} {N : List Nat} {kp : V} (h : BadK K H N kp) (due : List Nat → Bool) : KeptAt K H kp N due false := by
  rcases h with h | ⟨k, ks, x, r, e, l, nd, inN, eK, bad⟩
  · exact .inl ⟨h, rfl⟩
  · exact .inr ⟨k, ks, e, l, nd, inN, .inr ⟨x, r, eK, rfl, bad⟩⟩
theorem BadK.same {H H' : Hp} {N : List Nat} {kp : V} (s : Same H H') (h : BadK K H N kp) : BadK K H' N kp := by
  rcases h with h | ⟨k, ks, x, r, e, l, nd, inN, eK, bad⟩
  · exact .inl (h.same s)
  · exact .inr ⟨k, ks, x, r, e, l, nd, inN, s _ _ eK, bad.imp (fun w => w.same s) id⟩
theorem split_dup : ∀ (ms ks : List Nat), ks.Nodup → ¬ (ks ++ ms).Nodup → ∃ ls x r, ks ++ ms = ls ++ x :: r ∧ ls.Nodup ∧ x ∈ ls
  | [], ks, nd, h => absurd (by rw [List.append_nil]; exact nd) h
  | m :: ms, ks, nd, h => by
    by_cases c : m ∈ ks
    · exact ⟨ks, m, ms, rfl, nd, c⟩
    · have nd2 : (ks ++ [m]).Nodup := by
        rw [List.nodup_append]
        exact ⟨nd, List.nodup_cons.mpr ⟨List.not_mem_nil, List.nodup_nil⟩, fun a ha b hb z => by
          rw [List.mem_singleton] at hb
          subst hb
          exact c (z ▸ ha)⟩
      have e : ks ++ m :: ms = (ks ++ [m]) ++ ms := by rw [List.append_assoc]; rfl
      rw [e] at h ⊢
      exact split_dup ms _ nd2 h
theorem bad_dup {H : Hp} {N ms : List Nat} {k : Addr} (e : H k = some (.lst (ms.map natV))) (inN : ∀ x, x ∈ ms → x ∈ N) (h : ¬ ms.Nodup) (l : ms.length ≤ 60) : BadK K H N (.ref k) := by
  obtain ⟨ks, x, r, eq, nd, hx⟩ := split_dup ms [] List.nodup_nil h
  rw [List.nil_append] at eq
  subst eq
  rw [List.length_append] at l
  refine .inr ⟨k, ks, natV x, r.map natV, rfl, by omega, nd, fun y hy => inN y (List.mem_append_left _ hy), ?_, .inr ⟨x, rfl, .inr ⟨x, hx, rfl⟩⟩⟩
  rw [e, List.map_append, List.map_cons]
/-- a list of nodes in which one occurs twice -/
def DupAt (N : List Nat) (H : Hp) (C : Addr) (x : V) : Prop := ∃ (k : Addr) (ms : List Nat), x = .ref k ∧ k ≠ C ∧ H k = some (.lst (ms.map natV)) ∧ (∀ y, y ∈ ms → y ∈ N) ∧ ¬ ms.Nodup ∧ ms.length ≤ 60
theorem DupAt.same {N : List Nat} {H H' : Hp} {C : Addr} {x : V} (s : Same H H') (h : DupAt N H C x) : DupAt N H' C x := by
  obtain ⟨k, ms, e, ne, ek, q⟩ := h
  exact ⟨k, ms, e, ne, s _ _ ek, q⟩
theorem DupAt.put {N : List Nat} {H : Hp} {C : Addr} {x : V} {o : HO} (h : DupAt N H C x) : DupAt N (upd H C o) C x := by
  obtain ⟨k, ms, e, ne, ek, q⟩ := h
  exact ⟨k, ms, e, ne, by rw [upd_ne ne]; exact ek, q⟩
theorem DupAt.bad {N : List Nat} {H : Hp} {C : Addr} {x : V} (h : DupAt N H C x) : BadK K H N x := by
  obtain ⟨k, ms, rfl, ne, ek, inN, nd, l⟩ := h
  exact bad_dup ek inN nd l
theorem dup_last {ks : List Nat} {c : Nat} (h : c ∈ ks) : ¬ (ks ++ [c]).Nodup := fun z => (List.nodup_append.mp z).2.2 c h c (List.mem_singleton.mpr rfl) rfl
theorem dup_first {ks : List Nat} {c : Nat} (h : c ∈ ks) : ¬ (c :: ks).Nodup := fun z => (List.nodup_cons.mp z).1 h
theorem bad_first {H : Hp} {N ks : List Nat} {k : Addr} {x : V} {r : List V} (e : H k = some (.lst (ks.map natV ++ x :: r))) (nd : ks.Nodup) (l : ks.length ≤ 60) (inN : ∀ x, x ∈ ks → x ∈ N) (w : WholeV K H x false ∨ ∃ z : Int, x = .int z ∧ ∀ n : Nat, n ∈ N → (n : Int) ≠ z) : BadK K H N (.ref k) :=
  .inr ⟨k, ks, x, r, rfl, l, nd, inN, e, w.imp id fun ⟨z, e, h⟩ => ⟨z, e, .inl h⟩⟩
/-- a list of one that is no node of N -/
def OneAt (N : List Nat) (H : Hp) (C : Addr) (x : V) : Prop := ∃ (k : Addr) (m : Nat), x = .ref k ∧ k ≠ C ∧ H k = some (.lst [natV m]) ∧ m ∉ N
theorem OneAt.same {N : List Nat} {H H' : Hp} {C : Addr} {x : V} (s : Same H H') (h : OneAt N H C x) : OneAt N H' C x := by
  obtain ⟨k, m, e, ne, ek, q⟩ := h
  exact ⟨k, m, e, ne, s _ _ ek, q⟩
theorem OneAt.put {N : List Nat} {H : Hp} {C : Addr} {x : V} {o : HO} (h : OneAt N H C x) : OneAt N (upd H C o) C x := by
  obtain ⟨k, m, e, ne, ek, q⟩ := h
  exact ⟨k, m, e, ne, by rw [upd_ne ne]; exact ek, q⟩
theorem OneAt.bad {N : List Nat} {H : Hp} {C : Addr} {x : V} (h : OneAt N H C x) : BadK K H N x := by
  obtain ⟨k, m, rfl, ne, ek, q⟩ := h
  exact bad_first (ks := []) (r := []) ek List.nodup_nil (Nat.zero_le _) (fun _ h => nomatch h) (.inr ⟨m, rfl, fun n hn e => q (by rw [← Int.ofNat.inj e]; exact hn)⟩)
theorem bad_twice {H : Hp} {N : List Nat} {k : Addr} {r : List V} (ne : N ≠ []) (e : H k = some (.lst ((List.replicate (2 : Int).toNat (cutV (N.map natV) none (some 1))).flatten ++ r))) : BadK K H N (.ref k) := by
  cases N with
  | nil => exact absurd rfl ne
  | cons c l =>
    refine .inr ⟨k, [c], natV c, r, rfl, by show 1 ≤ 60; decide, List.nodup_cons.mpr ⟨List.not_mem_nil, List.nodup_nil⟩, fun y hy => by rw [List.mem_singleton.mp hy]; exact List.mem_cons_self, ?_, .inr ⟨c, rfl, .inr ⟨c, List.mem_singleton.mpr rfl, rfl⟩⟩⟩
    rw [e, show cutV ((c :: l).map natV) none (some 1) = ((c :: l).map natV).take 1 from cut_to _ 1]
    rfl
theorem bad_twice_none {H : Hp} {N : List Nat} {k : Addr} {m : Nat} (big : ∀ n : Nat, n ∈ N → (n : Int) ≠ (m : Int)) (e : H k = some (.lst ((List.replicate (2 : Int).toNat (cutV (N.map natV) none (some 1))).flatten ++ [natV m]))) : BadK K H N (.ref k) := by
  by_cases c : N = []
  · subst c
    refine bad_first (ks := []) (x := natV m) (r := []) ?_ List.nodup_nil (Nat.zero_le _) (fun _ h => nomatch h) (.inr ⟨m, rfl, big⟩)
    rw [e, show cutV (([] : List Nat).map natV) none (some 1) = (([] : List Nat).map natV).take 1 from cut_to _ 1]
    rfl
  · exact bad_twice c e
theorem bad_alone {H : Hp} {N : List Nat} {k : Addr} {x : V} (e : H k = some (.lst [x])) (w : WholeV K H x false ∨ ∃ z : Int, x = .int z ∧ ∀ n : Nat, n ∈ N → (n : Int) ≠ z) : BadK K H N (.ref k) :=
  bad_first (ks := []) (r := []) e List.nodup_nil (Nat.zero_le _) (fun _ h => nomatch h) w
theorem same_new2 {H : Hp} {p : Addr} {o o' : HO} (h : H p = none) : Same H (upd (upd H p o) p o') := fun b u e => by
  rw [upd_ne (ne_of_none e h), upd_ne (ne_of_none e h)]
  exact e
theorem whole_none {H : Hp} : WholeV K H .non false := ⟨.type "NoneType", false, false, .base .non, kit_ty (by decide +kernel), kit_ty (by decide +kernel), rfl⟩
theorem whole_bool {H : Hp} {b : Bool} : WholeV K H (.bl b) false := ⟨.type "bool", true, true, .base (.bl b), kit_ty (by decide +kernel), kit_ty (by decide +kernel), rfl⟩
theorem whole_str {H : Hp} {x : Str} : WholeV K H (.str x) false := ⟨.type "str", false, false, .base (.str x), kit_ty (by decide +kernel), kit_ty (by decide +kernel), rfl⟩
theorem whole_lst {H : Hp} {a : Addr} {xs : List V} (e : H a = some (.lst xs)) : WholeV K H (.ref a) false := ⟨.type "list", false, false, .base (.lst e), kit_ty (by decide +kernel), kit_ty (by decide +kernel), rfl⟩
theorem notl_none {H : Hp} : NotLw K H .non := ⟨.type "NoneType", .base .non, kit_ty (by decide +kernel)⟩
theorem notl_int {H : Hp} {i : Int} : NotLw K H (.int i) := ⟨.type "int", .base (.int i), kit_ty (by decide +kernel)⟩
theorem notl_bool {H : Hp} {b : Bool} : NotLw K H (.bl b) := ⟨.type "bool", .base (.bl b), kit_ty (by decide +kernel)⟩
theorem notl_str {H : Hp} {x : Str} : NotLw K H (.str x) := ⟨.type "str", .base (.str x), kit_ty (by decide +kernel)⟩
theorem notl_tup {H : Hp} {a : Addr} {xs : List V} (e : H a = some (.tup xs)) : NotLw K H (.ref a) := ⟨.type "tuple", .base (.tup e), kit_ty (by decide +kernel)⟩
theorem notl_dK {H : Hp} {a : Addr} {kvs : List (Key × V)} (e : H a = some (.dK kvs)) : NotLw K H (.ref a) := ⟨.type "dict", .base (.dK e), kit_ty (by decide +kernel)⟩
end
end HSP
namespace HSP
open PySem PySem.Spec PyProof.Rows L2
section
variable {P : Program} {w : World} {K : PySem.W.Frag} {mg : Str → Option Value} {base : Heap}
theorem sc_law_right : FnScope n_law_right ["draws"] (defScope s_law_right) := ⟨rfl, rfl, rfl, by decide +kernel, rfl, by decide +kernel, by decide +kernel⟩
theorem ok_right (B : Bl mg) (Rp : mg "repr" = none) (N : Df P w K mg base "_law_next" 1 ["draws"] spNext) (T : Df P w K mg base "_law_tree" 12 ["draws", "room"] (spDraw 11)) (Z : Df P w K mg base "_law_size" 11 n_law_size (spSize 11)) (Va : Df P w K mg base "_law_values" 2 ["draws", "many"] spValues)
    (So : Df P w K mg base "_law_some" 2 ["draws", "many"] spSome) (No : Df P w K mg base "_law_nodes_of" 13 ["a_tree", "a_wished"] (spNodes 11)) (Fa : Df P w K mg base "_law_far" 14 ["a_tree", "a_wished"] (spFarT 11)) (Ke : Df P w K mg base "_law_keeps" 1 ["far", "a_values", "a_kept"] spKeeps)
    (Fi : Df P w K mg base "_law_filled" 1 ["far", "a_values", "a_kept", "nodes"] spFilled) (Ck : DfB P w K mg base "can_keep" 7 ["tree", "values", "wished", "kept"] ["kept", "wished", "values", "tree"] (spCanKeep K)) (a : At K mg "_law_right" s_law_right) : DfG P w K mg base "_law_right" 15 ["draws"] spRight := by
  refine DfG.mk' a sc_law_right (fun vs H Q E h => ?_) (fun _ _ _ _ _ _ us hl => match us, hl with | [_], _ => rfl) (fun f cdv A outer s H vs Q E hg hr h => ?_)
  · obtain ⟨p, k, rfl, _⟩ := h
    rfl
  obtain ⟨p, k, rfl, hd, hk, q⟩ := h
  refine ⟨_, (pss_cons (ps_set (i := 1) sc_law_right.nd rfl (.inr rfl) (pe_df T (hr.mono (by decide)) (pa_cons (pv 0) (pa_cons (pe_op op_mod (pe_callTy call_int1 (by rfl) B.int (by decide +kernel) (pa_cons (pe_df N (hr.mono (by decide)) (pa_cons (pv 0) pa_nil)) pa_nil)) pe_int) pa_nil))))
 (pss_cons (ps_set (i := 2) sc_law_right.nd rfl (.inl rfl) (pe_df Z (hr.mono (by decide)) (pa_cons (pv 1) pa_nil)))
 (pss_cons (ps_set (i := 3) sc_law_right.nd rfl (.inr rfl) (pe_df Va (hr.mono (by decide)) (pa_cons (pv 0) (pa_cons (pv 2) pa_nil))))
 (pss_cons (ps_set (i := 4) sc_law_right.nd rfl (.inr rfl) (pe_df So (hr.mono (by decide)) (pa_cons (pv 0) (pa_cons (pv 2) pa_nil))))
 (C8.pss_cut (ps_for PassesOwn.never rfl (pi_range1 (by rfl) B.range (pa_cons (pe_op op_mul pe_int (pe_callTy call_int1 (by rfl) B.int (by decide +kernel) (pa_cons (pe_cmpR (op_neN (Nat.lt_of_succ_lt (hu_of hr))) (pv 4) (pe_lst pa_nil) (nomark _)) pa_nil))) pa_nil)) (pg_name (i := 5) sc_law_right.nd rfl (.inl rfl)) (pss_cons (ps_set (i := 6) sc_law_right.nd rfl (.inl rfl) (pe_op op_mod (pe_callTy call_int1 (by rfl) B.int (by decide +kernel) (pa_cons (pe_df N (hr.mono (by decide)) (pa_cons (pv 0) pa_nil)) pa_nil)) (pe_callB call_len_seq (by rfl) B.len PySem.boot_len (pa_cons (pv 4) pa_nil))))
 (pss_one (ps_set (i := 4) sc_law_right.nd rfl (.inr rfl) (pe_op op_cat (pe_slice sl_list (pv 4) (po_some (pv 6)) po_none) (pe_revL (pe_slice sl_list (pv 4) po_none (po_some (pv 6)))))))))
 (C8.pss_cut (ps_set (i := 7) sc_law_right.nd rfl (.inl rfl) (pe_callB (cr_reprD hg hr.units) (by rfl) Rp (by decide +kernel) (pa_cons (pe_lst (pa_cons (pv 3) (pa_cons (pv 4) pa_nil))) pa_nil)))
 (pss_cons (ps_set (i := 8) sc_law_right.nd rfl (.inl rfl) (pe_df Fa hr (pa_cons (pv 1) (pa_cons (pv 4) pa_nil))))
 (pss_cons (ps_set (i := 9) sc_law_right.nd rfl (.inr rfl) (pe_df No (hr.mono (by decide)) (pa_cons (pv 1) (pa_cons (pv 4) pa_nil))))
 (C8.pss_cut (ps_for PassesOwn.never rfl (pi_range1 (by rfl) B.range (pa_cons pe_int pa_nil)) (pg_name (i := 10) sc_law_right.nd rfl (.inl rfl)) (C8.pss_cut (ps_set (i := 11) sc_law_right.nd rfl (.inr rfl) (pe_lc (own := [("node", 16)]) (g := (gName 16)) (by rfl) sc_law_right.nd (pi_list (pv 9)) (blkOk_by (N := n_law_right) (sc := defScope s_law_right) (by decide +kernel)) (fun _ _ _ _ _ => (pg_name (i := 16) sc_law_right.nd rfl (.inl rfl))) (fun _ _ _ _ _ => (pts_one (pt_cmpR op_eq (pe_op op_mod (pe_callTy call_int1 (by rfl) B.int (by decide +kernel) (pa_cons (pe_df N (hr.mono (by decide)) (pa_cons (pv 0) pa_nil)) pa_nil)) pe_int) pe_int (nomark _)))) (fun _ _ _ _ _ => (pv 16))))
 (C8.pss_cut (ps_if (pt_cmpR op_eq (pe_op op_mod (pe_callTy call_int1 (by rfl) B.int (by decide +kernel) (pa_cons (pe_df N (hr.mono (by decide)) (pa_cons (pv 0) pa_nil)) pa_nil)) pe_int) pe_int (nomark _)) (pss_one (ps_set (i := 11) sc_law_right.nd rfl (.inr rfl) (pe_revL (pv 11)))) pss_nil)
 (C8.pss_cut (ps_set (i := 12) sc_law_right.nd rfl (.inl rfl) (pe_callB (cr_reprD hg hr.units) (by rfl) Rp (by decide +kernel) (pa_cons (pv 11) pa_nil)))
 (pss_cons (ps_set (i := 13) sc_law_right.nd rfl (.inl rfl) (pe_df Ke (hr.mono (by decide)) (pa_cons (pv 8) (pa_cons (pv 3) (pa_cons (pv 11) pa_nil)))))
 (C8.pss_cut (ps_if (pt_cmpR op_ne (pe_callTy cr_strB (by rfl) B.str (by decide +kernel) (pa_cons (pe_df Ck.df (hr.mono (by decide)) (pa_cons (pv 1) (pa_cons (pv 3) (pa_cons (pv 4) (pa_cons (pv 11) pa_nil))))) pa_nil)) (pe_callTy cr_strB (by rfl) B.str (by decide +kernel) (pa_cons (pv 13) pa_nil)) (nomark _)) (pss_one (ps_ret pe_bl)) pss_nil)
 (pss_cons (ps_if (pt_cmpR op_ne (pe_df Fi (hr.mono (by decide)) (pa_cons (pv 8) (pa_cons (pv 3) (pa_cons (pv 11) (pa_cons (pv 9) pa_nil))))) (pv 13) (nomark _)) (pss_one (ps_ret pe_bl)) pss_nil)
 (pss_cons (ps_if (pt_cmpR op_ne (pe_callB (cr_reprD hg hr.units) (by rfl) Rp (by decide +kernel) (pa_cons (pv 11) pa_nil)) (pv 12) (nomark _)) (pss_one (ps_ret pe_bl)) pss_nil)
 (pss_cons (ps_if (pt_cmpR op_ne (pe_dfK Ck (hr.mono (by decide))  (pk_cons (pv 11) (pk_cons (pv 4) (pk_cons (pv 3) (pk_cons (pv 1) pk_nil))))) (pv 13) (nomark _)) (pss_one (ps_ret pe_bl)) pss_nil)
 (C8.pss_cut (ps_set (i := 14) sc_law_right.nd rfl (.inl rfl) (pe_op op_cat (pe_lc (own := [("node", 16)]) (g := (gName 16)) (tt := tYes) (by rfl) sc_law_right.nd (pi_list (pv 11)) (blkOk_by (N := n_law_right) (sc := defScope s_law_right) (by decide +kernel)) (fun _ _ _ _ _ => (pg_name (i := 16) sc_law_right.nd rfl (.inl rfl))) (fun _ _ _ _ _ => pts_nil) (fun _ _ _ _ _ => (pe_op op_cat (pv 11) (pe_lst (pa_cons (pv 16) pa_nil))))) (pe_lc (own := [("node", 16)]) (g := (gName 16)) (tt := tYes) (by rfl) sc_law_right.nd (pi_list (pv 11)) (blkOk_by (N := n_law_right) (sc := defScope s_law_right) (by decide +kernel)) (fun _ _ _ _ _ => (pg_name (i := 16) sc_law_right.nd rfl (.inl rfl))) (fun _ _ _ _ _ => pts_nil) (fun _ _ _ _ _ => (pe_op op_cat (pe_lst (pa_cons (pv 16) pa_nil)) (pv 11))))))
 (pss_one (ps_if (pt_cmpR (op_neN (Nat.lt_of_succ_lt (hu_of hr))) (pe_lc (own := [("some", 18)]) (g := (gName 18)) (by rfl) sc_law_right.nd (pi_list (pv 14)) (blkOk_by (N := n_law_right) (sc := defScope s_law_right) (by decide +kernel)) (fun _ _ _ _ _ => (pg_name (i := 18) sc_law_right.nd rfl (.inl rfl))) (fun _ _ _ _ _ => (pts_one (pt_cmpR op_notBl (pe_df Ck.df (hr.mono (by decide)) (pa_cons (pv 1) (pa_cons (pv 3) (pa_cons (pv 4) (pa_cons (pv 18) pa_nil))))) pe_bl (nomark _)))) (fun _ _ _ _ _ => (pv 18))) (pe_lst pa_nil) (nomark _)) (pss_one (ps_ret pe_bl)) pss_nil))))))))))))
 (C8.pss_cut (ps_if (pt_cmpR op_ne (pe_callB (cr_reprD hg hr.units) (by rfl) Rp (by decide +kernel) (pa_cons (pe_lst (pa_cons (pv 3) (pa_cons (pv 4) pa_nil))) pa_nil)) (pv 7) (nomark _)) (pss_one (ps_ret pe_bl)) pss_nil)
 (C8.pss_cut (ps_set (i := 15) sc_law_right.nd rfl (.inl rfl) (pe_lst (pa_cons (pe_op op_cat (pv 9) (pe_lst (pa_cons pe_non pa_nil))) (pa_cons (pe_op op_cat (pe_lst (pa_cons pe_non pa_nil)) (pv 9)) (pa_cons (pe_op op_cat (pv 9) (pe_lst (pa_cons pe_str (pa_cons (pe_tup (pa_cons pe_int pa_nil)) pa_nil)))) (pa_cons (pe_op op_cat (pe_lst (pa_cons (pe_un un_neg pe_int) pa_nil)) (pv 9)) pa_nil))))))
 (C8.pss_cut (ps_set (i := 15) sc_law_right.nd rfl (.inl rfl) (pe_op op_cat (pv 15) (pe_lst (pa_cons pe_non (pa_cons (pe_callTy call_tuple_of (by rfl) B.tuple (by decide +kernel) (pa_cons (pv 9) pa_nil)) (pa_cons (pe_lst (pa_cons pe_non pa_nil)) (pa_cons (pe_lst (pa_cons (pv 2) pa_nil)) (pa_cons (pe_lst (pa_cons (pe_un un_neg pe_int) pa_nil)) (pa_cons (pe_lst (pa_cons pe_bl pa_nil)) (pa_cons (pe_lst (pa_cons pe_str pa_nil)) (pa_cons (pe_lst (pa_cons (pe_lst pa_nil) pa_nil)) (pa_cons pe_dnewK (pa_cons (pe_op op_cat (pe_op op_rep (pe_slice sl_list (pv 9) po_none (po_some pe_int)) pe_int) (pe_lst (pa_cons (pv 2) pa_nil))) pa_nil)))))))))))))
 (C8.pss_cut (ps_set (i := 15) sc_law_right.nd rfl (.inl rfl) (pe_op op_cat (pe_op op_cat (pv 15) (pe_op op_rep (pe_lst (pa_cons (pe_op op_rep (pe_slice sl_list (pv 9) po_none (po_some pe_int)) pe_int) pa_nil)) (pe_callTy call_int1 (by rfl) B.int (by decide +kernel) (pa_cons (pe_cmpR (op_neN (Nat.lt_of_succ_lt (hu_of hr))) (pv 9) (pe_lst pa_nil) (nomark _)) pa_nil)))) (pe_lc (own := [("node", 16)]) (g := (gName 16)) (by rfl) sc_law_right.nd (pi_range1 (by rfl) B.range (pa_cons (pv 2) pa_nil)) (blkOk_by (N := n_law_right) (sc := defScope s_law_right) (by decide +kernel)) (fun _ _ _ _ _ => (pg_name (i := 16) sc_law_right.nd rfl (.inl rfl))) (fun _ _ _ _ _ => (pts_one (pt_cmpR (show OpR _ (compareOp .NotIn) (rIn K true) from op_notIn_seq) (pv 16) (pv 9) (by rfl)))) (fun _ _ _ _ _ => (pe_lst (pa_cons (pv 16) pa_nil))))))
 (C8.pss_cut (ps_set (i := 15) sc_law_right.nd rfl (.inl rfl) (pe_op op_cat (pv 15) (pe_lst (pa_cons pe_str (pa_cons pe_str (pa_cons pe_int (pa_cons pe_int (pa_cons pe_bl (pa_cons pe_bl (pa_cons (pe_disp (pps_cons pe_str pe_int pps_nil) rfl rfl (by intro z; cases z) (by decide)) (pa_cons (pe_disp (pps_cons pe_int pe_int pps_nil) rfl rfl (by intro z; cases z) (by decide)) pa_nil)))))))))))
 (pss_one (ps_ret (pe_cmpR (op_eqN (Nat.lt_of_succ_lt (hu_of hr))) (pe_lc (own := [("thing", 17)]) (g := (gName 17)) (by rfl) sc_law_right.nd (pi_list (pv 15)) (blkOk_by (N := n_law_right) (sc := defScope s_law_right) (by decide +kernel)) (fun _ _ _ _ _ => (pg_name (i := 17) sc_law_right.nd rfl (.inl rfl))) (fun _ _ _ _ _ => (pts_one (pt_cmpR op_notBl (pe_df Ck.df (hr.mono (by decide)) (pa_cons (pv 1) (pa_cons (pv 3) (pa_cons (pv 4) (pa_cons (pv 17) pa_nil))))) pe_bl (nomark _)))) (fun _ _ _ _ _ => (pv 17))) (pe_lst pa_nil) (nomark _)))))))))))))))))), ?_⟩
  refine ⟨_, rfl, _, rfl, p, k, rfl, hd, by omega, fun H1 r1 kp1 d1 a1 a2 => .inl ⟨_, rfl, _, _, rfl, rfl, (by show (0 : Int) < 11; decide), ?_⟩⟩
  have m1 := Int.emod_nonneg r1 (show (11 : Int) ≠ 0 by decide)
  have m2 := Int.emod_lt_of_pos r1 (show (0 : Int) < 11 by decide)
  refine ⟨p, (r1 % 11).toNat, k + 1, congrArg (fun z => [V.ref p, V.int z]) (by omega : r1 % 11 = (((r1 % 11).toNat : Nat) : Int)), by omega, d1, by omega, fun H2 v t kp2 d2 ht2 hs => ?_⟩
  have hht : t.ht < 11 := Nat.lt_of_le_of_lt t.ht_le (by omega)
  have d2' := d2.mono (show _ ≤ k + 45 by omega)
  have kpA := kp1.trans kp2
  have sz : t.size ≤ 10 := by omega
  refine ⟨v, rfl, v, t, rfl, ht2, hht, ?_⟩
  refine ⟨_, rfl, _, rfl, p, t.size, k + 45, rfl, by omega, d2', by omega, fun H3 A ns kp3 d3 nA eA lA near => ?_⟩
  have ht3 := d2'.tree kp3 ht2
  have kp4 := kpA.trans kp3
  have d3' := d3.mono (show _ ≤ k + 65 by omega)
  refine ⟨_, rfl, _, rfl, p, t.size, k + 65, rfl, by omega, d3', by omega, fun H4 W ws kp5 d4 nW eW up lt => ?_⟩
  have ht4 := d3'.tree kp5 ht3
  have eA4 := kp5 A _ (d3.neOf eA) eA
  have d4' := d4.mono (show _ ≤ k + 75 by omega)
  have kp6 := kp4.trans kp5
  have tn := tame_near near
  clear kp1 kp2 kp3 kp4 kp5 kpA d1 d2 d2' d3 d3' d4 ht2 ht3 nA nW eA near
  refine ⟨fun σ H' => ∃ (W : Addr) (ws : List Nat), (∃ y5 y6 : Option V, σ = [some (.ref p), some v, some (natV t.size), some (.ref A), some (.ref W), y5, y6, none, none, none, none, none, none, none, none, none, none, none, none]) ∧ Keep p H H' ∧ DrAt H' p (k + 77) ∧ TrAt H' v t ∧ H' A = some (.lst (ns.map V.int)) ∧ H' W = some (.lst (ws.map natV)) ∧ ws.Nodup ∧ ∀ x, x ∈ ws → x < t.size, ?_, fun σ H5 hX => ?_⟩
  · refine ⟨_, rfl, Nat.zero_le _, fun Z hZ => ⟨W, Z, _, rfl, rfl, .of (Same.new hZ _ _ eW), .of upd_same, .inr ⟨_, rfl, ?_⟩⟩⟩
    have sZ := Same.new (o := .lst []) hZ
    have eW5 := sZ _ _ eW
    have eA5 := sZ _ _ eA4
    have d5 := d4'.same sZ
    have kp7 := kp6.trans (Keep.of sZ)
    have ht5 := ht4.same sZ
    generalize upd H4 Z (.lst []) = H5 at eW5 eA5 d5 kp7 ht5 ⊢
    obtain ⟨cn, ecn, cn2, cn0⟩ : ∃ cn : Nat, (2 : Int) * (if (!(ws.map natV).isEmpty) = true then 1 else 0) = (cn : Int) ∧ cn ≤ 2 ∧ (0 < cn → ws ≠ []) := by
      cases ws with
      | nil => exact ⟨0, rfl, by omega, fun h => absurd h (Nat.lt_irrefl 0)⟩
      | cons w r => exact ⟨2, rfl, by omega, fun _ h => nomatch h⟩
    refine ⟨2, _, rfl, rfl, ?_, (cn : Int), ?_, by omega, by omega, ?_⟩
    · exact .inl ⟨by decide, by decide⟩
    · exact congrArg (fun z => [V.int z]) ecn
    refine for_range (lo := 0) (n := cn) (fun i σ H' => ∃ (W : Addr) (ws' : List Nat), (∃ y5 y6 : Option V, σ = [some (.ref p), some v, some (natV t.size), some (.ref A), some (.ref W), y5, y6, none, none, none, none, none, none, none, none, none, none, none, none]) ∧ Keep p H H' ∧ DrAt H' p (k + 75 + i) ∧ TrAt H' v t ∧ H' A = some (.lst (ns.map V.int)) ∧ H' W = some (.lst (ws'.map natV)) ∧ ws'.Perm ws) ⟨W, ws, ⟨_, _, rfl⟩, kp7, d5, ht5, eA5, eW5, .refl _⟩ (fun i σ H6 hi h6 => ?_) (fun σ H6 h6 => ?_)
    · obtain ⟨W2, ws2, ⟨y5, y6, rfl⟩, kp8, d8, ht8, eA8, eW8, pm⟩ := h6
      have ne : 0 < ws2.length := by
        rw [pm.length_eq]
        exact List.length_pos_iff.mpr (cn0 (by omega))
      have eW8' : H6 W2 = some (.lst ((ws2.map Int.ofNat).map V.int)) := by
        rw [eW8, List.map_map]
        rfl
      refine ⟨_, rfl, p, k + 75 + i, rfl, d8, by omega, fun H7 r2 kp9 d9 b1 b2 => .inl ⟨_, rfl, _, rfl, W2, _, rfl, .inl (.of (kp9 W2 _ (d8.neOf eW8') eW8)), _, _, rfl, rfl, ?_, ?_⟩⟩
      · rw [List.length_map]
        omega
      have eW9 := kp9 W2 _ (d8.neOf eW8') eW8
      have eA8' := kp9 A _ (d8.neOf eA8) eA8
      have ht9 := d8.tree kp9 ht8
      obtain ⟨at_, eat⟩ : ∃ at_ : Nat, r2 % ((ws2.map natV).length : Int) = (at_ : Int) := ⟨(r2 % ((ws2.map natV).length : Int)).toNat, by
        have := Int.emod_nonneg r2 (show ((ws2.map natV).length : Int) ≠ 0 by rw [List.length_map]; omega)
        omega⟩
      rw [show ((fun i j => V.int (i % j)) r2 ((ws2.map natV).length : Int)) = V.int (at_ : Int) from congrArg V.int eat]
      refine ⟨_, rfl, _, rfl, _, rfl, W2, _, rfl, .of eW9, fun S1 hS1 => ?_⟩
      have sS1 := Same.new (o := .lst (cutV (ws2.map natV) (some (at_ : Int)) none)) hS1
      refine ⟨_, rfl, _, rfl, _, rfl, W2, _, rfl, .of (sS1 _ _ eW9), fun S2 hS2 => ?_⟩
      have sS2 := sS1.trans (Same.new (o := .lst (cutV (ws2.map natV) none (some (at_ : Int)))) hS2)
      refine ⟨S2, _, rfl, .of upd_same, fun S3 hS3 => ?_⟩
      have n3 := Same.new (o := .lst (cutV (ws2.map natV) none (some (at_ : Int))).reverse) hS3
      have sS3 := sS2.trans n3
      have e1 := n3 _ _ (Same.new (o := .lst (cutV (ws2.map natV) none (some (at_ : Int)))) hS2 _ _ (upd_same (H := H7) (a := S1) (o := .lst (cutV (ws2.map natV) (some (at_ : Int)) none))))
      refine ⟨S1, S3, _, _, rfl, rfl, e1, upd_same, ?_, fun C hC => ?_⟩
      · have lw := few_belowW t.size (up.imp fun {a b} z => Nat.ne_of_lt z) lt
        have l2 := pm.length_eq
        rw [cut_from, cut_to, List.length_drop, List.length_reverse, List.length_take, List.length_map]
        exact Nat.le_of_lt (small1000 (by omega))
      have sC := sS3.trans (Same.new (o := .lst (cutV (ws2.map natV) (some (at_ : Int)) none ++ (cutV (ws2.map natV) none (some (at_ : Int))).reverse)) hC)
      refine ⟨C, ws2.drop at_ ++ (ws2.take at_).reverse, ⟨_, _, rfl⟩, (kp8.trans kp9).trans (Keep.of sC), d9.same sC, ht9.same sC, sC _ _ eA8', ?_, ?_⟩
      · rw [upd_same, cut_from, cut_to, ← List.map_drop, ← List.map_take, ← List.map_reverse, ← List.map_append]
      · have h1 : (ws2.drop at_ ++ (ws2.take at_).reverse).Perm (ws2.drop at_ ++ ws2.take at_) := (List.reverse_perm _).append_left _
        refine (h1.trans List.perm_append_comm).trans ?_
        rw [List.take_append_drop]
        exact pm
    · obtain ⟨W2, ws2, hσ, kp8, d8, ht8, eA8, eW8, pm⟩ := h6
      exact ⟨W2, ws2, hσ, kp8, d8.mono (by omega), ht8, eA8, eW8, pm.nodup_iff.mpr (up.imp fun {a b} z => Nat.ne_of_lt z), fun x hx => lt x (pm.mem_iff.mp hx)⟩
  obtain ⟨W, ws, ⟨y5, y6, rfl⟩, kp, dr, ht, eA, eW, nd, lt⟩ := hX
  have ws10 : ws.length ≤ t.size := few_belowW t.size nd lt
  have two : 2 ≤ sizeLine := by show 2 ≤ 16777216; decide
  have one : 1 ≤ sizeLine := by show 1 ≤ 16777216; decide
  have zero : 0 ≤ sizeLine := by show 0 ≤ 16777216; decide
  have fine := two_fine tn (tame_nats (ws := ws) fun x hx => by have := lt x hx; omega) (by omega) (by rw [List.length_map]; omega)
  refine ⟨fun σ H' => σ = [some (.ref p), some v, some (natV t.size), some (.ref A), some (.ref W), y5, y6, some (.str (PyData.list [intsD ns, intsD (ws.map Int.ofNat)]).shown), none, none, none, none, none, none, none, none, none, none, none] ∧ Keep p H H' ∧ DrAt H' p (k + 77) ∧ TrAt H' v t ∧ H' A = some (.lst (ns.map V.int)) ∧ H' W = some (.lst (ws.map natV)), ?_, fun σ H6 hB => ?_⟩
  · refine ⟨_, rfl, _, rfl, two, fun Q1 hQ1 => ?_⟩
    have sQ1 := Same.new (o := .lst [V.ref A, V.ref W]) hQ1
    have eW1 := sQ1 _ _ eW
    rw [nats_int] at eW1
    refine ⟨Q1, .list [intsD ns, intsD (ws.map Int.ofNat)], rfl, .lst (.of upd_same) (.cons (.lst (.of (sQ1 _ _ eA)) (ints_dpAll _)) (.cons (.lst (.of eW1) (ints_dpAll _)) .nil)), fine.show_, fine.dict, fine.deep, fine.len, ?_⟩
    exact ⟨rfl, kp.trans (.of sQ1), dr.same sQ1, ht.same sQ1, sQ1 _ _ eA, sQ1 _ _ eW⟩
  clear kp dr ht eA eW
  obtain ⟨rfl, kp, dr, ht, eA, eW⟩ := hB
  refine ⟨_, rfl, _, rfl, v, t, W, ws, rfl, ht, hht, sz, eW, nd, lt, fun H7 L D s7 nL eL aD => ?_⟩
  refine ⟨_, rfl, _, rfl, v, t, W, ws, rfl, ht.same s7, hht, by omega, s7 _ _ eW, nd, lt, fun H8 Nl N s8 nN eN hN => ?_⟩
  have s78 := s7.trans s8
  have stF : St16 p v t A ns W ws L D Nl N H H8 (k + 77) := ⟨kp.trans (.of s78), dr.same s78, ht.same s78, s78 _ _ eA, s78 _ _ eW, (let ⟨kvs, e, tb⟩ := eL; ⟨kvs, s8 _ _ e, tb⟩), eN⟩
  clear kp dr ht eA eW s7 s8 s78 nL eL nN eN
  have upE : Up (EdW t ws) := edge_up lt
  have N10 : N.length ≤ 10 := Nat.le_trans (nodes_few hN lt) sz
  have ndN : N.Nodup := hN.1.imp fun {a b} z => Nat.ne_of_lt z
  have ltN : ∀ x, x ∈ N → x < t.size := fun x hx => (List.mem_append.mp ((hN.2 x).mp hx)).elim (lt x) anc_in
  have edN : ∀ a b, EdW t ws a b → a ∈ N ∧ b ∈ N := fun a b e => ⟨(hN.2 a).mpr (edge_in e).1, (hN.2 b).mpr (edge_in e).2⟩
  have lA' : ns.length = t.size := lA
  refine ⟨fun σ H' => (∃ y10 y11 y12 y13 y14 : Option V, σ = [some (.ref p), some v, some (natV t.size), some (.ref A), some (.ref W), y5, y6, some (.str (PyData.list [intsD ns, intsD (ws.map Int.ofNat)]).shown), some (.ref L), some (.ref Nl), y10, y11, y12, y13, y14, none, none, none, none]) ∧ St16 p v t A ns W ws L D Nl N H H' (k + 165), ?_, fun σ H9 hT => ?_⟩
  · refine ⟨_, rfl, by decide, by decide, for_range (lo := 0) (n := 8) (fun i σ H' => (∃ y10 y11 y12 y13 y14 : Option V, σ = [some (.ref p), some v, some (natV t.size), some (.ref A), some (.ref W), y5, y6, some (.str (PyData.list [intsD ns, intsD (ws.map Int.ofNat)]).shown), some (.ref L), some (.ref Nl), y10, y11, y12, y13, y14, none, none, none, none]) ∧ St16 p v t A ns W ws L D Nl N H H' (k + 77 + 11 * i)) ⟨⟨_, _, _, _, _, rfl⟩, stF⟩ (fun i σ H9 hi h9 => ?_) (fun σ H9 h9 => ?_)⟩
    · obtain ⟨⟨y10, y11, y12, y13, y14, rfl⟩, s9⟩ := h9
      refine ⟨fun σ H' => ∃ (Kp : Addr) (ks : List Nat), (∃ y10 : Option V, σ = [some (.ref p), some v, some (natV t.size), some (.ref A), some (.ref W), y5, y6, some (.str (PyData.list [intsD ns, intsD (ws.map Int.ofNat)]).shown), some (.ref L), some (.ref Nl), y10, some (.ref Kp), y12, y13, y14, none, none, none, none]) ∧ St16 p v t A ns W ws L D Nl N H H' (k + 77 + 11 * i + 10) ∧ H' Kp = some (.lst (ks.map natV)) ∧ ks.Sublist N, ?_, fun σ H10 h10 => ?_⟩
      · refine ⟨_, rfl, Nl, rfl, ⟨_, .of s9.eN⟩, fun C hC => ?_⟩
        have nC := s9.dr.ne hC
        refine lc_it (walk_list (K := K) (a := Nl) (xs := N.map natV)) (fun j H' => ∃ ks : List Nat, Keep p H9 H' ∧ DrAt H' p (k + 77 + 11 * i + j) ∧ H' C = some (.lst (ks.map natV)) ∧ ks.Sublist (N.take j)) ⟨[], Keep.new hC, s9.dr.same (Same.new hC), upd_same, List.nil_sublist _⟩ (fun j H' _ h' => ?_) (fun j x H3 H4 hj h3 hy => ?_) (fun H3 h3 => ?_)
        · obtain ⟨_, kp, _⟩ := h'
          exact .of (kp _ _ (s9.dr.neN s9.eN) s9.eN)
        · obtain ⟨ks, kp3, d3, e3, sb⟩ := h3
          obtain ⟨rfl, hx⟩ := hy
          rw [List.getElem?_map] at hx
          obtain ⟨c, hc, rfl⟩ := Option.map_eq_some_iff.mp hx
          have lj := sb.length_le
          rw [List.length_take] at lj
          have et : N.take (j + 1) = N.take j ++ [c] := by rw [List.take_add_one, hc]; rfl
          have hj' : j < N.length := by rw [List.length_map] at hj; exact hj
          refine ⟨rfl, ?_⟩
          refine ⟨_, rfl, p, k + 77 + 11 * i + j, rfl, d3, by omega, fun H4 r2 kp4 d4 b1 b2 => .inl ⟨_, rfl, _, _, rfl, rfl, (by show (0 : Int) < 2; decide), rfl, _, rfl, ?_⟩⟩
          have e4 := kp4 C _ (d3.neN e3) e3
          refine ite2 (fun _ => ?_) (fun _ => ⟨ks, kp3.trans kp4, d4, e4, ?_⟩)
          · refine ⟨_, rfl, _, e4, ?_, ks ++ [c], Keep.put hC (kp3.trans kp4), d4.put nC, ?_, ?_⟩
            · rw [List.length_map]
              exact small1000 (by omega)
            · rw [upd_same, List.map_append]
              rfl
            · rw [et]
              exact sb.append (List.Sublist.refl _)
          · rw [et]
            exact sb.trans (List.sublist_append_left _ _)
        · obtain ⟨ks, kp3, d3, e3, sb⟩ := h3
          rw [List.length_map, List.take_length] at sb
          rw [List.length_map] at d3
          exact ⟨C, ks, ⟨_, rfl⟩, (s9.draw kp3 d3).mono (by omega), e3, sb⟩
      obtain ⟨Kp, ks, ⟨y10, rfl⟩, s10, eK, sb⟩ := h10
      clear s9
      refine ⟨fun σ H' => ∃ (Kp : Addr) (ks : List Nat), (∃ y10 : Option V, σ = [some (.ref p), some v, some (natV t.size), some (.ref A), some (.ref W), y5, y6, some (.str (PyData.list [intsD ns, intsD (ws.map Int.ofNat)]).shown), some (.ref L), some (.ref Nl), y10, some (.ref Kp), y12, y13, y14, none, none, none, none]) ∧ St16 p v t A ns W ws L D Nl N H H' (k + 77 + 11 * (i + 1)) ∧ H' Kp = some (.lst (ks.map natV)) ∧ ks.Nodup ∧ (∀ x, x ∈ ks → x ∈ N) ∧ ks.length ≤ 10, ?_, fun σ H11 h11 => ?_⟩
      · refine ⟨_, rfl, p, k + 77 + 11 * i + 10, rfl, s10.dr, by omega, fun H4 r kp4 d4 b1 b2 => .inl ⟨_, rfl, _, _, rfl, rfl, (by show (0 : Int) < 4; decide), rfl, _, rfl, ?_⟩⟩
        have e4 := kp4 Kp _ (s10.dr.neN eK) eK
        have lk := sb.length_le
        refine ite2 (fun _ => ?_) (fun _ => ⟨Kp, ks, ⟨_, rfl⟩, (s10.draw kp4 d4).mono (by omega), e4, ndN.sublist sb, fun x hx => sb.subset hx, by omega⟩)
        refine ⟨_, rfl, Kp, _, rfl, .of e4, fun R hR => ?_⟩
        have sR := Same.new (o := .lst (ks.map natV).reverse) hR
        exact ⟨R, ks.reverse, ⟨_, rfl⟩, ((s10.draw kp4 d4).same sR).mono (by omega), by rw [upd_same, List.map_reverse], (List.reverse_perm ks).nodup_iff.mpr (ndN.sublist sb), fun x hx => sb.subset (List.mem_reverse.mp hx), by rw [List.length_reverse]; omega⟩
      clear s10 eK sb
      obtain ⟨Kp, ks, ⟨y10, rfl⟩, s11, eK, ndk, inK, lk⟩ := h11
      have fineK := ints_fine (tame_nats (ws := ks) fun x hx => by have := ltN x (inK x hx); omega) (by rw [List.length_map]; omega)
      have dpK : ∀ {G : Hp}, G Kp = some (.lst (ks.map natV)) → Dp K G (.ref Kp) (intsD (ks.map Int.ofNat)) := fun {G} e => .lst (.of (e.trans (by rw [nats_int]))) (ints_dpAll _)
      refine ⟨fun σ H' => σ = [some (.ref p), some v, some (natV t.size), some (.ref A), some (.ref W), y5, y6, some (.str (PyData.list [intsD ns, intsD (ws.map Int.ofNat)]).shown), some (.ref L), some (.ref Nl), y10, some (.ref Kp), some (.str (intsD (ks.map Int.ofNat)).shown), y13, y14, none, none, none, none] ∧ H' = H11, ?_, fun σ H12 h12 => ?_⟩
      · exact ⟨_, rfl, Kp, intsD (ks.map Int.ofNat), rfl, dpK eK, fineK.show_, fineK.dict, fineK.deep, fineK.len, rfl, rfl⟩
      obtain ⟨rfl, rfl⟩ := h12
      refine ⟨_, rfl, _, rfl, _, rfl, L, A, Kp, D, ns, ks, rfl, s11.eL, s11.eA, eK, fun x hx => by have := ltN x (inK x hx); omega, fun H13 s13 => ?_⟩
      have st13 := s11.same s13
      have eK13 := s13 _ _ eK
      generalize edue : freeOf D (valAt ns) ns.length ks = due
      have edue' : freeOf D (valAt ns) t.size ks = due := by rw [← lA']; exact edue
      clear s11 eK s13
      have kept : ∀ {G : Hp}, G Kp = some (.lst (ks.map natV)) → KeptAt K G (.ref Kp) N (freeOf D (valAt ns) t.size) due := fun {G} e => .inr ⟨Kp, ks, rfl, by omega, ndk, inK, .inl ⟨e, edue'.symm⟩⟩
      refine ⟨fun σ H' => σ = [some (.ref p), some v, some (natV t.size), some (.ref A), some (.ref W), y5, y6, some (.str (PyData.list [intsD ns, intsD (ws.map Int.ofNat)]).shown), some (.ref L), some (.ref Nl), y10, some (.ref Kp), some (.str (intsD (ks.map Int.ofNat)).shown), some (.bl due), y14, none, none, none, none] ∧ St16 p v t A ns W ws L D Nl N H H' (k + 77 + 11 * (i + 1)) ∧ H' Kp = some (.lst (ks.map natV)), ?_, fun σ H14 h14 => ?_⟩
      · refine ⟨_, rfl, _, rfl, _, rfl, _, rfl, v, t, A, W, ns, ws, .ref Kp, N, D, due, rfl, st13.ht, by omega, st13.eA, lA', st13.eW, nd, lt, hN, aD, kept eK13, fun H14 s14 => ⟨due, rfl, _, rfl, due, rfl, ?_⟩⟩
        refine ⟨rfl, _, rfl, ?_⟩
        rw [show decide (V.str (if due = true then Str.ofString "True" else Str.ofString "False") = V.str (if due = true then Str.ofString "True" else Str.ofString "False")) = true from decide_eq_true rfl]
        exact iteF ⟨rfl, st13.same s14, s14 _ _ eK13⟩
      obtain ⟨rfl, s14, eK14⟩ := h14
      clear st13 eK13
      refine ⟨_, rfl, _, rfl, _, rfl, _, rfl, EdW t ws, L, A, Kp, Nl, D, ns, ks, N, rfl, s14.eL, aD, upE, s14.eA, eK14, s14.eN, inK, fun x hx => by have := ltN x hx; omega, hN.1, edN, N10, lk, fun H15 s15 => ?_⟩
      rw [edue]
      refine ⟨_, rfl, rfl, _, rfl, ?_⟩
      rw [decide_eq_true (show V.bl due = V.bl due from rfl)]
      refine iteF ?_
      have st15 := s14.same s15
      have eK15 := s15 _ _ eK14
      clear s14 s15 eK14
      refine ⟨_, rfl, Kp, intsD (ks.map Int.ofNat), rfl, dpK eK15, fineK.show_, fineK.dict, fineK.deep, fineK.len, ⟨_, rfl, rfl, _, rfl, ?_⟩⟩
      rw [decide_eq_true (show V.str (intsD (ks.map Int.ofNat)).shown = V.str (intsD (ks.map Int.ofNat)).shown from rfl)]
      refine iteF ?_
      refine ⟨_, rfl, _, rfl, _, rfl, _, rfl, rfl, rfl, v, t, A, W, ns, ws, .ref Kp, N, D, due, rfl, st15.ht, by omega, st15.eA, lA', st15.eW, nd, lt, hN, aD, kept eK15, fun H16 s16 => ⟨_, rfl, rfl, _, rfl, ?_⟩⟩
      rw [decide_eq_true (show V.bl due = V.bl due from rfl)]
      refine iteF ?_
      have st16 := st15.same s16
      have eK16 := s16 _ _ eK15
      clear st15 s16 eK15 kept
      refine ⟨fun σ H' => ∃ (M : Addr) (xs : List V), σ = [some (.ref p), some v, some (natV t.size), some (.ref A), some (.ref W), y5, y6, some (.str (PyData.list [intsD ns, intsD (ws.map Int.ofNat)]).shown), some (.ref L), some (.ref Nl), y10, some (.ref Kp), some (.str (intsD (ks.map Int.ofNat)).shown), some (.bl due), some (.ref M), none, none, none, none] ∧ St16 p v t A ns W ws L D Nl N H H' (k + 77 + 11 * (i + 1)) ∧ H' M = some (.lst xs) ∧ xs.length ≤ 20 ∧ ∀ x, x ∈ xs → BadK K H' N x, ?_, fun σ H17 h17 => ?_⟩
      · refine ⟨_, rfl, Kp, rfl, ⟨_, .of eK16⟩, fun C1 hC1 => ?_⟩
        refine lc_it (walk_list (K := K) (a := Kp) (xs := ks.map natV)) (fun j H' => Same H16 H' ∧ ∃ xs, H' C1 = some (.lst xs) ∧ xs.length = j ∧ ∀ x, x ∈ xs → DupAt N H' C1 x) ⟨Same.new hC1, [], upd_same, rfl, fun _ h => nomatch h⟩ (fun j H' _ h' => .of (h'.1 _ _ eK16)) (fun j x G1 G2 hj h17 hy => ?_) (fun H17 h17 => ?_)
        · obtain ⟨s17, xs, e17, l17, d17⟩ := h17
          obtain ⟨rfl, hx⟩ := hy
          rw [List.getElem?_map] at hx
          obtain ⟨c, hc, rfl⟩ := Option.map_eq_some_iff.mp hx
          have ck := List.mem_of_getElem? hc
          have hj' : j < ks.length := by rw [List.length_map] at hj; exact hj
          refine ⟨rfl, ?_⟩
          refine ⟨_, rfl, _, rfl, one, fun T hT => ⟨Kp, T, _, _, rfl, rfl, (Same.new hT) _ _ (s17 _ _ eK16), upd_same, ?_, fun R hR => ?_⟩⟩
          · rw [List.length_map]
            show ks.length + 1 ≤ sizeLine
            exact Nat.le_of_lt (small1000 (by omega))
          have sT := Same.new (o := .lst [natV c]) hT
          have sR := sT.trans (Same.new (o := .lst (ks.map natV ++ [natV c])) hR)
          have neR : R ≠ C1 := fun z => by
            have := sT _ _ e17
            rw [← z, hR] at this
            cases this
          refine ⟨_, sR _ _ e17, ?_, ?_, _, upd_same, ?_, fun x hx => ?_⟩
          · rw [l17]
            exact small1000 (by omega)
          · exact fun b o e => by
              rw [upd_ne (ne_of_none e hC1)]
              exact (s17.trans sR) b o e
          · rw [List.length_append, l17]
            rfl
          · rcases List.mem_append.mp hx with hx | hx
            · exact ((d17 x hx).same sR).put
            · rw [List.mem_singleton.mp hx]
              exact .put ⟨R, ks ++ [c], rfl, neR, by rw [upd_same]; simp only [List.map_append, List.map_cons, List.map_nil, List.singleton_append], fun y hy => inK y (by
                simp only [List.mem_append, List.mem_cons, List.not_mem_nil, or_false] at hy
                rcases hy with hy | hy
                · exact hy
                · exact hy ▸ ck), dup_last ck, by simp only [List.length_append, List.length_cons, List.length_nil]; omega⟩
        obtain ⟨s17, xs, e17, l17, d17⟩ := h17
        have eK17 := s17 _ _ eK16
        refine ⟨_, rfl, Kp, rfl, ⟨_, .of eK17⟩, fun C2 hC2 => ?_⟩
        refine lc_it (walk_list (K := K) (a := Kp) (xs := ks.map natV)) (fun j H' => Same H17 H' ∧ ∃ xs, H' C2 = some (.lst xs) ∧ xs.length = j ∧ ∀ x, x ∈ xs → DupAt N H' C2 x) ⟨Same.new hC2, [], upd_same, rfl, fun _ h => nomatch h⟩ (fun j H' _ h' => .of (h'.1 _ _ eK17)) (fun j x G1 G2 hj h18 hy => ?_) (fun H18 h18 => ?_)
        · obtain ⟨s18, ys, e18, l18, d18⟩ := h18
          obtain ⟨rfl, hx⟩ := hy
          rw [List.getElem?_map] at hx
          obtain ⟨c, hc, rfl⟩ := Option.map_eq_some_iff.mp hx
          have ck := List.mem_of_getElem? hc
          have hj' : j < ks.length := by rw [List.length_map] at hj; exact hj
          refine ⟨rfl, ?_⟩
          refine ⟨_, rfl, one, fun T hT => ⟨_, rfl, T, Kp, _, _, rfl, rfl, upd_same, (Same.new hT) _ _ (s18 _ _ eK17), ?_, fun R hR => ?_⟩⟩
          · rw [List.length_map]
            show 1 + ks.length ≤ sizeLine
            exact Nat.le_of_lt (small1000 (by omega))
          have sT := Same.new (o := .lst [natV c]) hT
          have sR := sT.trans (Same.new (o := .lst ([natV c] ++ ks.map natV)) hR)
          have neR : R ≠ C2 := fun z => by
            have := sT _ _ e18
            rw [← z, hR] at this
            cases this
          refine ⟨_, sR _ _ e18, ?_, ?_, _, upd_same, ?_, fun x hx => ?_⟩
          · rw [l18]
            exact small1000 (by omega)
          · exact fun b o e => by
              rw [upd_ne (ne_of_none e hC2)]
              exact (s18.trans sR) b o e
          · rw [List.length_append, l18]
            rfl
          · rcases List.mem_append.mp hx with hx | hx
            · exact ((d18 x hx).same sR).put
            · rw [List.mem_singleton.mp hx]
              exact .put ⟨R, c :: ks, rfl, neR, by rw [upd_same]; simp only [List.map_append, List.map_cons, List.map_nil, List.singleton_append], fun y hy => inK y (by
                simp only [List.mem_append, List.mem_cons, List.not_mem_nil, or_false] at hy
                rcases hy with hy | hy
                · exact hy ▸ ck
                · exact hy), dup_first ck, by simp only [List.length_append, List.length_cons, List.length_nil]; omega⟩
        obtain ⟨s18, ys, e18, l18, d18⟩ := h18
        rw [List.length_map] at l17 l18
        refine ⟨C1, C2, xs, ys, rfl, rfl, s18 _ _ e17, e18, ?_, fun M hM => ?_⟩
        · exact Nat.le_of_lt (small1000 (by omega))
        have sM := Same.new (o := .lst (xs ++ ys)) hM
        refine ⟨M, xs ++ ys, rfl, st16.same (s17.trans (s18.trans sM)), upd_same, by rw [List.length_append]; omega, fun x hx => ?_⟩
        rcases List.mem_append.mp hx with hx | hx
        · exact ((d17 x hx).same (s18.trans sM)).bad
        · exact ((d18 x hx).same sM).bad
      obtain ⟨M, xs, rfl, s17, eM, lx, bad⟩ := h17
      clear st16 eK16
      refine ⟨_, rfl, M, rfl, ⟨_, .of eM⟩, fun C hC => ?_⟩
      refine lc_it (walk_list (K := K) (a := M) (xs := xs)) (fun _ H' => Same H17 H' ∧ H' C = some (.lst [])) ⟨Same.new hC, upd_same⟩ (fun j H' _ h' => .of (h'.1 _ _ eM)) (fun j x H18 H19 hj h18 hy => ?_) (fun H18 h18 => ?_)
      · obtain ⟨rfl, hx⟩ := hy
        have bx := (bad x (List.mem_of_getElem? hx)).same h18.1
        have sx := s17.same h18.1
        refine ⟨rfl, ?_⟩
        refine ⟨_, rfl, _, rfl, _, rfl, _, rfl, v, t, A, W, ns, ws, x, N, D, false, rfl, sx.ht, by omega, sx.eA, lA', sx.eW, nd, lt, hN, aD, bx.kept _, fun H20 s20 => ?_⟩
        refine ⟨false, false, rfl, rfl, _, rfl, ?_⟩
        exact iteF ⟨h18.1.trans s20, s20 _ _ h18.2⟩
      obtain ⟨s18, e18⟩ := h18
      refine ⟨zero, fun Z hZ => ⟨C, Z, [], rfl, rfl, .of ((Same.new hZ) _ _ e18), .of upd_same, _, rfl, ?_⟩⟩
      exact iteF ⟨⟨_, _, _, _, _, rfl⟩, s17.same (s18.trans (Same.new hZ))⟩
    · obtain ⟨⟨y10, y11, y12, y13, y14, rfl⟩, s9⟩ := h9
      exact ⟨⟨_, _, _, _, _, rfl⟩, s9.mono (by omega)⟩
  obtain ⟨⟨y10, y11, y12, y13, y14, rfl⟩, st⟩ := hT
  clear stF
  refine ⟨fun σ H' => σ = [some (.ref p), some v, some (natV t.size), some (.ref A), some (.ref W), y5, y6, some (.str (PyData.list [intsD ns, intsD (ws.map Int.ofNat)]).shown), some (.ref L), some (.ref Nl), y10, y11, y12, y13, y14, none, none, none, none] ∧ St16 p v t A ns W ws L D Nl N H H' (k + 165), ?_, fun σ H10 h10 => ?_⟩
  · refine ⟨_, rfl, _, rfl, two, fun Q2 hQ2 => ?_⟩
    have sQ2 := Same.new (o := .lst [V.ref A, V.ref W]) hQ2
    have eW1 := sQ2 _ _ st.eW
    rw [nats_int] at eW1
    refine ⟨Q2, .list [intsD ns, intsD (ws.map Int.ofNat)], rfl, .lst (.of upd_same) (.cons (.lst (.of (sQ2 _ _ st.eA)) (ints_dpAll _)) (.cons (.lst (.of eW1) (ints_dpAll _)) .nil)), fine.show_, fine.dict, fine.deep, fine.len, ⟨_, rfl, rfl, _, rfl, ?_⟩⟩
    rw [decide_eq_true (show V.str (PyData.list [intsD ns, intsD (ws.map Int.ofNat)]).shown = V.str (PyData.list [intsD ns, intsD (ws.map Int.ofNat)]).shown from rfl)]
    exact iteF ⟨rfl, st.same sQ2⟩
  clear st
  obtain ⟨rfl, st⟩ := h10
  have inN : ∀ x, x ∈ N → x ∈ N := fun _ h => h
  have lenM : (N.map natV).length = N.length := List.length_map _
  have neg : ∀ n : Nat, n ∈ N → (n : Int) ≠ -1 := fun n _ => by omega
  have big : ∀ n : Nat, n ∈ N → (n : Int) ≠ (t.size : Int) := fun n hn => by have := ltN n hn; omega
  refine ⟨fun σ H' => ∃ (O : Addr) (xs : List V), σ = [some (.ref p), some v, some (natV t.size), some (.ref A), some (.ref W), y5, y6, some (.str (PyData.list [intsD ns, intsD (ws.map Int.ofNat)]).shown), some (.ref L), some (.ref Nl), y10, y11, y12, y13, y14, some (.ref O), none, none, none] ∧ St16 p v t A ns W ws L D Nl N H H' (k + 165) ∧ H' O = some (.lst xs) ∧ xs.length ≤ 4 ∧ ∀ x, x ∈ xs → BadK K H' N x, ?_, fun σ H11 h11 => ?_⟩
  · refine ⟨_, rfl, one, fun T1 h1 => ⟨Nl, T1, _, _, rfl, rfl, (Same.new h1) _ _ st.eN, upd_same, ?_, fun R1 hR1 => ?_⟩⟩
    · rw [lenM]
      show N.length + 1 ≤ sizeLine
      exact Nat.le_of_lt (small1000 (by omega))
    have s1 := (Same.new (o := .lst [V.non]) h1).trans (Same.new (o := .lst (N.map natV ++ [V.non])) hR1)
    have b1 : BadK K (upd (upd H10 T1 (.lst [V.non])) R1 (.lst (N.map natV ++ [V.non]))) N (.ref R1) := bad_first upd_same ndN (by omega) inN (.inl whole_none)
    generalize upd (upd H10 T1 (.lst [V.non])) R1 (.lst (N.map natV ++ [V.non])) = G1 at s1 b1 ⊢
    refine ⟨one, fun T2 h2 => ⟨_, rfl, T2, Nl, _, _, rfl, rfl, upd_same, (Same.new h2) _ _ (s1 _ _ st.eN), ?_, fun R2 hR2 => ?_⟩⟩
    · rw [lenM]
      show 1 + N.length ≤ sizeLine
      exact Nat.le_of_lt (small1000 (by omega))
    have s2 := s1.trans ((Same.new (o := .lst [V.non]) h2).trans (Same.new (o := .lst ([V.non] ++ N.map natV)) hR2))
    have b2 : BadK K (upd (upd G1 T2 (.lst [V.non])) R2 (.lst ([V.non] ++ N.map natV))) N (.ref R2) := bad_first (ks := []) upd_same List.nodup_nil (Nat.zero_le _) (fun _ h => nomatch h) (.inl whole_none)
    have b1 := b1.same ((Same.new (o := .lst [V.non]) h2).trans (Same.new (o := .lst ([V.non] ++ N.map natV)) hR2))
    generalize upd (upd G1 T2 (.lst [V.non])) R2 (.lst ([V.non] ++ N.map natV)) = G2 at s2 b1 b2 ⊢
    clear s1
    refine ⟨_, rfl, one, fun Tt ht => ⟨two, fun T3 h3 => ?_⟩⟩
    have sA := (Same.new (o := .tup [V.int 0]) ht).trans (Same.new (o := .lst [V.str (.ofString "0"), V.ref Tt]) h3)
    refine ⟨Nl, T3, _, _, rfl, rfl, sA _ _ (s2 _ _ st.eN), upd_same, ?_, fun R3 hR3 => ?_⟩
    · rw [lenM]
      show N.length + 2 ≤ sizeLine
      exact Nat.le_of_lt (small1000 (by omega))
    have sB := sA.trans (Same.new (o := .lst (N.map natV ++ [V.str (.ofString "0"), V.ref Tt])) hR3)
    have b3 : BadK K (upd (upd (upd G2 Tt (.tup [V.int 0])) T3 (.lst [V.str (.ofString "0"), V.ref Tt])) R3 (.lst (N.map natV ++ [V.str (.ofString "0"), V.ref Tt]))) N (.ref R3) := bad_first upd_same ndN (by omega) inN (.inl whole_str)
    have b1 := b1.same sB
    have b2 := b2.same sB
    have s3 := s2.trans sB
    generalize upd (upd (upd G2 Tt (.tup [V.int 0])) T3 (.lst [V.str (.ofString "0"), V.ref Tt])) R3 (.lst (N.map natV ++ [V.str (.ofString "0"), V.ref Tt])) = G3 at s3 b1 b2 b3 ⊢
    clear s2 sA sB
    refine ⟨_, rfl, one, fun T4 h4 => ⟨_, rfl, T4, Nl, _, _, rfl, rfl, upd_same, (Same.new h4) _ _ (s3 _ _ st.eN), ?_, fun R4 hR4 => ?_⟩⟩
    · rw [lenM]
      show 1 + N.length ≤ sizeLine
      exact Nat.le_of_lt (small1000 (by omega))
    have sC := (Same.new (o := .lst [V.int (-1)]) h4).trans (Same.new (o := .lst ([V.int (-1)] ++ N.map natV)) hR4)
    have b4 : BadK K (upd (upd G3 T4 (.lst [V.int (-1)])) R4 (.lst ([V.int (-1)] ++ N.map natV))) N (.ref R4) := bad_first (ks := []) upd_same List.nodup_nil (Nat.zero_le _) (fun _ h => nomatch h) (.inr ⟨-1, rfl, neg⟩)
    have four : 4 ≤ sizeLine := by show 4 ≤ 16777216; decide
    refine ⟨four, fun O hO => ?_⟩
    have sO := Same.new (o := .lst [V.ref R1, V.ref R2, V.ref R3, V.ref R4]) hO
    refine ⟨O, _, rfl, st.same (s3.trans (sC.trans sO)), upd_same, by show 4 ≤ 4; decide, fun x hx => ?_⟩
    simp only [List.mem_cons, List.not_mem_nil, or_false] at hx
    rcases hx with rfl | rfl | rfl | rfl
    · exact b1.same (sC.trans sO)
    · exact b2.same (sC.trans sO)
    · exact b3.same (sC.trans sO)
    · exact b4.same sO
  clear st
  obtain ⟨O, xs, rfl, st, eO, lO, bad⟩ := h11
  refine ⟨fun σ H' => ∃ (O : Addr) (xs : List V), σ = [some (.ref p), some v, some (natV t.size), some (.ref A), some (.ref W), y5, y6, some (.str (PyData.list [intsD ns, intsD (ws.map Int.ofNat)]).shown), some (.ref L), some (.ref Nl), y10, y11, y12, y13, y14, some (.ref O), none, none, none] ∧ St16 p v t A ns W ws L D Nl N H H' (k + 165) ∧ H' O = some (.lst xs) ∧ xs.length ≤ 14 ∧ ∀ x, x ∈ xs → BadK K H' N x, ?_, fun σ H12 h12 => ?_⟩
  · have ten : 10 ≤ sizeLine := by show 10 ≤ 16777216; decide
    refine ⟨_, rfl, _, rfl, Nl, _, rfl, .inl ⟨.of st.eN, fun a1 h1 => ?_⟩⟩
    have s1 := Same.new (o := .tup (N.map natV)) h1
    have e1 : (upd H11 a1 (.tup (N.map natV))) a1 = some (.tup (N.map natV)) := upd_same
    generalize upd H11 a1 (.tup (N.map natV)) = J1 at s1 e1 ⊢
    refine ⟨one, fun a2 h2 => ?_⟩
    have s2 := Same.new (o := .lst [V.non]) h2
    have e2 : (upd J1 a2 (.lst [V.non])) a2 = some (.lst [V.non]) := upd_same
    generalize upd J1 a2 (.lst [V.non]) = J2 at s2 e2 ⊢
    refine ⟨_, rfl, one, fun a3 h3 => ?_⟩
    have s3 := Same.new (o := .lst [natV t.size]) h3
    have e3 : (upd J2 a3 (.lst [natV t.size])) a3 = some (.lst [natV t.size]) := upd_same
    generalize upd J2 a3 (.lst [natV t.size]) = J3 at s3 e3 ⊢
    refine ⟨_, rfl, one, fun a4 h4 => ?_⟩
    have s4 := Same.new (o := .lst [V.int (-1)]) h4
    have e4 : (upd J3 a4 (.lst [V.int (-1)])) a4 = some (.lst [V.int (-1)]) := upd_same
    generalize upd J3 a4 (.lst [V.int (-1)]) = J4 at s4 e4 ⊢
    refine ⟨one, fun a5 h5 => ?_⟩
    have s5 := Same.new (o := .lst [V.bl true]) h5
    have e5 : (upd J4 a5 (.lst [V.bl true])) a5 = some (.lst [V.bl true]) := upd_same
    generalize upd J4 a5 (.lst [V.bl true]) = J5 at s5 e5 ⊢
    refine ⟨one, fun a6 h6 => ?_⟩
    have s6 := Same.new (o := .lst [V.str (.ofString "0")]) h6
    have e6 : (upd J5 a6 (.lst [V.str (.ofString "0")])) a6 = some (.lst [V.str (.ofString "0")]) := upd_same
    generalize upd J5 a6 (.lst [V.str (.ofString "0")]) = J6 at s6 e6 ⊢
    refine ⟨zero, fun a7 h7 => ?_⟩
    have s7 := Same.new (o := .lst []) h7
    have e7 : (upd J6 a7 (.lst [])) a7 = some (.lst []) := upd_same
    generalize upd J6 a7 (.lst []) = J7 at s7 e7 ⊢
    refine ⟨one, fun a8 h8 => ?_⟩
    have s8 := Same.new (o := .lst [V.ref a7]) h8
    have e8 : (upd J7 a8 (.lst [V.ref a7])) a8 = some (.lst [V.ref a7]) := upd_same
    generalize upd J7 a8 (.lst [V.ref a7]) = J8 at s8 e8 ⊢
    refine fun a9 h9 => ?_
    have s9 := Same.new (o := .dK []) h9
    have e9 : (upd J8 a9 (.dK [])) a9 = some (.dK []) := upd_same
    generalize upd J8 a9 (.dK []) = J9 at s9 e9 ⊢
    have t9 := s1.trans (s2.trans (s3.trans (s4.trans (s5.trans (s6.trans (s7.trans (s8.trans (s9))))))))
    refine ⟨_, rfl, _, rfl, Nl, _, rfl, .of (t9 _ _ st.eN), fun a10 h10 => ?_⟩
    have s10 := Same.new (o := .lst (cutV (N.map natV) none (some 1))) h10
    have e10 : (upd J9 a10 (.lst (cutV (N.map natV) none (some 1)))) a10 = some (.lst (cutV (N.map natV) none (some 1))) := upd_same
    generalize upd J9 a10 (.lst (cutV (N.map natV) none (some 1))) = J10 at s10 e10 ⊢
    have lc1 : (cutV (N.map natV) none (some 1)).length ≤ 1 := by
      rw [show cutV (N.map natV) none (some 1) = (N.map natV).take 1 from cut_to _ 1, List.length_take]
      omega
    refine ⟨a10, 2, _, rfl, rfl, e10, by decide, by decide, ?_, fun a11 h11 => ?_⟩
    · exact Nat.le_of_lt (small1000 (by show _ * 2 ≤ 1000; omega))
    have s11 := Same.new (o := .lst (List.replicate (2 : Int).toNat (cutV (N.map natV) none (some 1))).flatten) h11
    have e11 : (upd J10 a11 (.lst (List.replicate (2 : Int).toNat (cutV (N.map natV) none (some 1))).flatten)) a11 = some (.lst (List.replicate (2 : Int).toNat (cutV (N.map natV) none (some 1))).flatten) := upd_same
    generalize upd J10 a11 (.lst (List.replicate (2 : Int).toNat (cutV (N.map natV) none (some 1))).flatten) = J11 at s11 e11 ⊢
    refine ⟨_, rfl, one, fun a12 h12 => ?_⟩
    have s12 := Same.new (o := .lst [natV t.size]) h12
    have e12 : (upd J11 a12 (.lst [natV t.size])) a12 = some (.lst [natV t.size]) := upd_same
    generalize upd J11 a12 (.lst [natV t.size]) = J12 at s12 e12 ⊢
    have lr2 : ((List.replicate (2 : Int).toNat (cutV (N.map natV) none (some 1))).flatten).length ≤ 2 := by
      show ([cutV (N.map natV) none (some 1), cutV (N.map natV) none (some 1)].flatten).length ≤ 2
      simp only [List.flatten_cons, List.flatten_nil, List.length_append, List.length_nil]
      omega
    refine ⟨a11, a12, _, _, rfl, rfl, s12 _ _ e11, e12, ?_, fun a13 h13 => ?_⟩
    · exact Nat.le_of_lt (small1000 (by show _ + 1 ≤ 1000; omega))
    have s13 := Same.new (o := .lst ((List.replicate (2 : Int).toNat (cutV (N.map natV) none (some 1))).flatten ++ [natV t.size])) h13
    have e13 : (upd J12 a13 (.lst ((List.replicate (2 : Int).toNat (cutV (N.map natV) none (some 1))).flatten ++ [natV t.size]))) a13 = some (.lst ((List.replicate (2 : Int).toNat (cutV (N.map natV) none (some 1))).flatten ++ [natV t.size])) := upd_same
    generalize upd J12 a13 (.lst ((List.replicate (2 : Int).toNat (cutV (N.map natV) none (some 1))).flatten ++ [natV t.size])) = J13 at s13 e13 ⊢
    refine ⟨ten, fun a14 h14 => ?_⟩
    have s14 := Same.new (o := .lst [V.non, V.ref a1, V.ref a2, V.ref a3, V.ref a4, V.ref a5, V.ref a6, V.ref a8, V.ref a9, V.ref a13]) h14
    have e14 : (upd J13 a14 (.lst [V.non, V.ref a1, V.ref a2, V.ref a3, V.ref a4, V.ref a5, V.ref a6, V.ref a8, V.ref a9, V.ref a13])) a14 = some (.lst [V.non, V.ref a1, V.ref a2, V.ref a3, V.ref a4, V.ref a5, V.ref a6, V.ref a8, V.ref a9, V.ref a13]) := upd_same
    generalize upd J13 a14 (.lst [V.non, V.ref a1, V.ref a2, V.ref a3, V.ref a4, V.ref a5, V.ref a6, V.ref a8, V.ref a9, V.ref a13]) = J14 at s14 e14 ⊢
    have t14 := s1.trans (s2.trans (s3.trans (s4.trans (s5.trans (s6.trans (s7.trans (s8.trans (s9.trans (s10.trans (s11.trans (s12.trans (s13.trans (s14)))))))))))))
    refine ⟨O, a14, _, _, rfl, rfl, t14 _ _ eO, e14, ?_, fun a15 h15 => ?_⟩
    · exact Nat.le_of_lt (small1000 (by show _ + 10 ≤ 1000; omega))
    have s15 := Same.new (o := .lst (xs ++ [V.non, V.ref a1, V.ref a2, V.ref a3, V.ref a4, V.ref a5, V.ref a6, V.ref a8, V.ref a9, V.ref a13])) h15
    have e15 : (upd J14 a15 (.lst (xs ++ [V.non, V.ref a1, V.ref a2, V.ref a3, V.ref a4, V.ref a5, V.ref a6, V.ref a8, V.ref a9, V.ref a13]))) a15 = some (.lst (xs ++ [V.non, V.ref a1, V.ref a2, V.ref a3, V.ref a4, V.ref a5, V.ref a6, V.ref a8, V.ref a9, V.ref a13])) := upd_same
    generalize upd J14 a15 (.lst (xs ++ [V.non, V.ref a1, V.ref a2, V.ref a3, V.ref a4, V.ref a5, V.ref a6, V.ref a8, V.ref a9, V.ref a13])) = J15 at s15 e15 ⊢
    refine ⟨a15, _, rfl, st.same (t14.trans s15), e15, by rw [List.length_append]; show _ + 10 ≤ 14; omega, fun x hx => ?_⟩
    rcases List.mem_append.mp hx with hx | hx
    · exact (bad x hx).same (t14.trans s15)
    simp only [List.mem_cons, List.not_mem_nil, or_false] at hx
    rcases hx with rfl | rfl | rfl | rfl | rfl | rfl | rfl | rfl | rfl | rfl
    · exact .inl notl_none
    · exact .inl (notl_tup ((s2.trans (s3.trans (s4.trans (s5.trans (s6.trans (s7.trans (s8.trans (s9.trans (s10.trans (s11.trans (s12.trans (s13.trans (s14.trans (s15)))))))))))))) _ _ e1))
    · exact bad_alone ((s3.trans (s4.trans (s5.trans (s6.trans (s7.trans (s8.trans (s9.trans (s10.trans (s11.trans (s12.trans (s13.trans (s14.trans (s15))))))))))))) _ _ e2) (.inl whole_none)
    · exact bad_alone ((s4.trans (s5.trans (s6.trans (s7.trans (s8.trans (s9.trans (s10.trans (s11.trans (s12.trans (s13.trans (s14.trans (s15)))))))))))) _ _ e3) (.inr ⟨t.size, rfl, big⟩)
    · exact bad_alone ((s5.trans (s6.trans (s7.trans (s8.trans (s9.trans (s10.trans (s11.trans (s12.trans (s13.trans (s14.trans (s15))))))))))) _ _ e4) (.inr ⟨-1, rfl, neg⟩)
    · exact bad_alone ((s6.trans (s7.trans (s8.trans (s9.trans (s10.trans (s11.trans (s12.trans (s13.trans (s14.trans (s15)))))))))) _ _ e5) (.inl whole_bool)
    · exact bad_alone ((s7.trans (s8.trans (s9.trans (s10.trans (s11.trans (s12.trans (s13.trans (s14.trans (s15))))))))) _ _ e6) (.inl whole_str)
    · exact bad_alone ((s9.trans (s10.trans (s11.trans (s12.trans (s13.trans (s14.trans (s15))))))) _ _ e8) (.inl (whole_lst ((s8.trans (s9.trans (s10.trans (s11.trans (s12.trans (s13.trans (s14.trans (s15)))))))) _ _ e7)))
    · exact .inl (notl_dK ((s10.trans (s11.trans (s12.trans (s13.trans (s14.trans (s15)))))) _ _ e9))
    · exact bad_twice_none big ((s14.trans (s15)) _ _ e13)
  clear st
  obtain ⟨O, xs, rfl, st, eO, lO, bad⟩ := h12
  refine ⟨fun σ H' => ∃ (O : Addr) (xs : List V), σ = [some (.ref p), some v, some (natV t.size), some (.ref A), some (.ref W), y5, y6, some (.str (PyData.list [intsD ns, intsD (ws.map Int.ofNat)]).shown), some (.ref L), some (.ref Nl), y10, y11, y12, y13, y14, some (.ref O), none, none, none] ∧ St16 p v t A ns W ws L D Nl N H H' (k + 165) ∧ H' O = some (.lst xs) ∧ xs.length ≤ 25 ∧ ∀ x, x ∈ xs → BadK K H' N x, ?_, fun σ H13 h13 => ?_⟩
  · obtain ⟨cn, ecn, cn1, cn0⟩ : ∃ cn : Nat, (if (!(N.map natV).isEmpty) = true then (1 : Int) else 0) = (cn : Int) ∧ cn ≤ 1 ∧ (0 < cn → N ≠ []) := by
      cases N with
      | nil => exact ⟨0, rfl, by omega, fun h => absurd h (Nat.lt_irrefl 0)⟩
      | cons w r => exact ⟨1, rfl, by omega, fun _ h => nomatch h⟩
    have lc1 : (cutV (N.map natV) none (some 1)).length ≤ 1 := by
      rw [show cutV (N.map natV) none (some 1) = (N.map natV).take 1 from cut_to _ 1, List.length_take]
      omega
    refine ⟨_, rfl, _, rfl, _, rfl, Nl, _, rfl, .of st.eN, fun a1 h1 => ?_⟩
    have s1 := Same.new (o := .lst (cutV (N.map natV) none (some 1))) h1
    have e1 : (upd H12 a1 (.lst (cutV (N.map natV) none (some 1)))) a1 = some (.lst (cutV (N.map natV) none (some 1))) := upd_same
    generalize upd H12 a1 (.lst (cutV (N.map natV) none (some 1))) = J1 at s1 e1 ⊢
    refine ⟨a1, 2, _, rfl, rfl, e1, by decide, by decide, ?_, fun a2 h2 => ?_⟩
    · exact Nat.le_of_lt (small1000 (by show _ * 2 ≤ 1000; omega))
    have s2 := Same.new (o := .lst (List.replicate (2 : Int).toNat (cutV (N.map natV) none (some 1))).flatten) h2
    have e2 : (upd J1 a2 (.lst (List.replicate (2 : Int).toNat (cutV (N.map natV) none (some 1))).flatten)) a2 = some (.lst (List.replicate (2 : Int).toNat (cutV (N.map natV) none (some 1))).flatten) := upd_same
    generalize upd J1 a2 (.lst (List.replicate (2 : Int).toNat (cutV (N.map natV) none (some 1))).flatten) = J2 at s2 e2 ⊢
    refine ⟨one, fun a3 h3 => ?_⟩
    have s3 := Same.new (o := .lst [V.ref a2]) h3
    have e3 : (upd J2 a3 (.lst [V.ref a2])) a3 = some (.lst [V.ref a2]) := upd_same
    generalize upd J2 a3 (.lst [V.ref a2]) = J3 at s3 e3 ⊢
    refine ⟨_, rfl, zero, fun a4 h4 => ?_⟩
    have s4 := Same.new (o := .lst []) h4
    have e4 : (upd J3 a4 (.lst [])) a4 = some (.lst []) := upd_same
    generalize upd J3 a4 (.lst []) = J4 at s4 e4 ⊢
    have t4 := s1.trans (s2.trans (s3.trans (s4)))
    refine ⟨Nl, a4, _, rfl, rfl, .of (t4 _ _ st.eN), .of e4, .inr ⟨_, rfl, ?_⟩⟩
    rw [ecn]
    refine ⟨a3, (cn : Int), _, rfl, rfl, s4 _ _ e3, by omega, by omega, ?_, fun a5 h5 => ?_⟩
    · exact Nat.le_of_lt (small1000 (by show 1 * _ ≤ 1000; omega))
    rw [Int.toNat_natCast]
    have s5 := Same.new (o := .lst (List.replicate cn [V.ref a2]).flatten) h5
    have e5 : (upd J4 a5 (.lst (List.replicate cn [V.ref a2]).flatten)) a5 = some (.lst (List.replicate cn [V.ref a2]).flatten) := upd_same
    generalize upd J4 a5 (.lst (List.replicate cn [V.ref a2]).flatten) = J5 at s5 e5 ⊢
    have lcn : ((List.replicate cn [V.ref a2]).flatten).length = cn := by
      rw [List.length_flatten, List.map_replicate, List.sum_replicate_nat]
      show cn * 1 = cn
      omega
    have mcn : ∀ x, x ∈ (List.replicate cn [V.ref a2]).flatten → x = V.ref a2 ∧ N ≠ [] := fun x hx => by
      obtain ⟨l, hl, hx⟩ := List.mem_flatten.mp hx
      obtain ⟨h0, rfl⟩ := List.mem_replicate.mp hl
      exact ⟨List.mem_singleton.mp hx, cn0 (by omega)⟩
    have t5 := s1.trans (s2.trans (s3.trans (s4.trans (s5))))
    refine ⟨O, a5, _, _, rfl, rfl, t5 _ _ eO, e5, ?_, fun a6 h6 => ?_⟩
    · exact Nat.le_of_lt (small1000 (by omega))
    have s6 := Same.new (o := .lst (xs ++ (List.replicate cn [V.ref a2]).flatten)) h6
    have e6 : (upd J5 a6 (.lst (xs ++ (List.replicate cn [V.ref a2]).flatten))) a6 = some (.lst (xs ++ (List.replicate cn [V.ref a2]).flatten)) := upd_same
    generalize upd J5 a6 (.lst (xs ++ (List.replicate cn [V.ref a2]).flatten)) = J6 at s6 e6 ⊢
    have t6 := s1.trans (s2.trans (s3.trans (s4.trans (s5.trans (s6)))))
    have bad6 : ∀ x, x ∈ xs ++ (List.replicate cn [V.ref a2]).flatten → BadK K J6 N x := fun x hx => by
      rcases List.mem_append.mp hx with hx | hx
      · exact (bad x hx).same t6
      · obtain ⟨rfl, ne⟩ := mcn x hx
        exact bad_twice (r := []) ne (((s3.trans (s4.trans (s5.trans (s6)))) _ _ e2).trans (by rw [List.append_nil]))
    have l6 : (xs ++ (List.replicate cn [V.ref a2]).flatten).length ≤ 15 := by rw [List.length_append]; omega
    generalize xs ++ (List.replicate cn [V.ref a2]).flatten = xs6 at e6 bad6 l6
    have st6 := st.same t6
    clear s1 e1 s2 e2 s3 e3 s4 e4 s5 e5 s6 t4 t5 t6 lcn mcn h1 h2 h3 h4 h5 h6 bad eO lO lc1 cn0 cn1 ecn
    refine ⟨_, rfl, _, rfl, by omega, by omega, fun C hC => ?_⟩
    refine lc_range (lo := 0) (n := t.size) (fun i H' => Same J6 H' ∧ ∃ ys, H' C = some (.lst ys) ∧ ys.length ≤ i ∧ ∀ x, x ∈ ys → OneAt N H' C x) ⟨Same.new hC, [], upd_same, Nat.le_refl _, fun _ h => nomatch h⟩ (fun i H3 hi h3 => ?_) (fun H3 h3 => ?_)
    · obtain ⟨s3, ys, e3, l3, o3⟩ := h3
      refine ⟨rfl, ?_⟩
      refine ⟨_, rfl, _, rfl, Nl, _, rfl, .inl (.of (s3 _ _ st6.eN)), rfl, flat_nats _, _, rfl, ?_⟩
      rw [show V.int (0 + (i : Int)) = natV i from congrArg V.int (by omega)]
      rw [show (if true = true then !inV (natV i) (N.map natV) else inV (natV i) (N.map natV)) = !decide (i ∈ N) from congrArg (!·) (inV_nat i _)]
      by_cases c : i ∈ N
      · rw [decide_eq_true c]
        exact iteF ⟨s3, ys, e3, by omega, o3⟩
      rw [decide_eq_false c]
      refine iteT ?_
      refine ⟨_, rfl, one, fun T hT => ?_⟩
      have sT := Same.new (o := .lst [natV i]) hT
      refine ⟨_, sT _ _ e3, small1000 (by omega), fun b o e => ?_, _, upd_same, ?_, fun x hx => ?_⟩
      · rw [upd_ne (ne_of_none e hC)]
        exact (s3.trans sT) b o e
      · rw [List.length_append]
        show _ + 1 ≤ _
        omega
      · rcases List.mem_append.mp hx with hx | hx
        · exact ((o3 x hx).same sT).put
        · rw [List.mem_singleton.mp hx]
          refine .put ⟨T, i, rfl, fun z => ?_, upd_same, c⟩
          rw [← z, hT] at e3
          cases e3
    obtain ⟨s3, ys, e3, l3, o3⟩ := h3
    refine ⟨a6, C, _, _, rfl, rfl, s3 _ _ e6, e3, ?_, fun O2 hO2 => ?_⟩
    · exact Nat.le_of_lt (small1000 (by omega))
    have sO := Same.new (o := .lst (xs6 ++ ys)) hO2
    refine ⟨O2, _, rfl, st6.same (s3.trans sO), upd_same, by rw [List.length_append]; omega, fun x hx => ?_⟩
    rcases List.mem_append.mp hx with hx | hx
    · exact (bad6 x hx).same (s3.trans sO)
    · exact ((o3 x hx).same sO).bad
  clear st
  obtain ⟨O, xs, rfl, st, eO, lO, bad⟩ := h13
  refine ⟨fun σ H' => ∃ (O : Addr) (xs : List V), σ = [some (.ref p), some v, some (natV t.size), some (.ref A), some (.ref W), y5, y6, some (.str (PyData.list [intsD ns, intsD (ws.map Int.ofNat)]).shown), some (.ref L), some (.ref Nl), y10, y11, y12, y13, y14, some (.ref O), none, none, none] ∧ St16 p v t A ns W ws L D Nl N H H' (k + 165) ∧ H' O = some (.lst xs) ∧ xs.length ≤ 33 ∧ ∀ x, x ∈ xs → BadK K H' N x, ?_, fun σ H14 h14 => ?_⟩
  · have eight : 8 ≤ sizeLine := by show 8 ≤ 16777216; decide
    refine ⟨_, rfl, fun a1 h1 => ⟨upd_same, [(Sum.inr (.ofString "0"), V.int 0)], rfl, by decide, ?_⟩⟩
    have s1 := same_new2 (o := .dK []) (o' := .dK (mergeK [] [((Sum.inr (.ofString "0") : Key), V.int 0)])) h1
    have e1 : (upd (upd H13 a1 (.dK [])) a1 (.dK (mergeK [] [((Sum.inr (.ofString "0") : Key), V.int 0)]))) a1 = some (.dK (mergeK [] [((Sum.inr (.ofString "0") : Key), V.int 0)])) := upd_same
    generalize upd (upd H13 a1 (.dK [])) a1 (.dK (mergeK [] [((Sum.inr (.ofString "0") : Key), V.int 0)])) = J1 at s1 e1 ⊢
    refine fun a2 h2 => ⟨upd_same, [(Sum.inl 0, V.int 0)], rfl, by decide, ?_⟩
    have s2 := same_new2 (o := .dK []) (o' := .dK (mergeK [] [((Sum.inl 0 : Key), V.int 0)])) h2
    have e2 : (upd (upd J1 a2 (.dK [])) a2 (.dK (mergeK [] [((Sum.inl 0 : Key), V.int 0)]))) a2 = some (.dK (mergeK [] [((Sum.inl 0 : Key), V.int 0)])) := upd_same
    generalize upd (upd J1 a2 (.dK [])) a2 (.dK (mergeK [] [((Sum.inl 0 : Key), V.int 0)])) = J2 at s2 e2 ⊢
    refine ⟨eight, fun a3 h3 => ?_⟩
    have s3 := Same.new (o := .lst [V.str (.ofString ""), V.str (.ofString "0"), V.int 0, V.int 1, V.bl true, V.bl false, V.ref a1, V.ref a2]) h3
    have e3 : (upd J2 a3 (.lst [V.str (.ofString ""), V.str (.ofString "0"), V.int 0, V.int 1, V.bl true, V.bl false, V.ref a1, V.ref a2])) a3 = some (.lst [V.str (.ofString ""), V.str (.ofString "0"), V.int 0, V.int 1, V.bl true, V.bl false, V.ref a1, V.ref a2]) := upd_same
    generalize upd J2 a3 (.lst [V.str (.ofString ""), V.str (.ofString "0"), V.int 0, V.int 1, V.bl true, V.bl false, V.ref a1, V.ref a2]) = J3 at s3 e3 ⊢
    refine ⟨O, a3, _, _, rfl, rfl, s3 _ _ (s2 _ _ (s1 _ _ eO)), e3, ?_, fun a4 h4 => ?_⟩
    · exact Nat.le_of_lt (small1000 (by show _ + 8 ≤ 1000; omega))
    have s4 := Same.new (o := .lst (xs ++ [V.str (.ofString ""), V.str (.ofString "0"), V.int 0, V.int 1, V.bl true, V.bl false, V.ref a1, V.ref a2])) h4
    have e4 : (upd J3 a4 (.lst (xs ++ [V.str (.ofString ""), V.str (.ofString "0"), V.int 0, V.int 1, V.bl true, V.bl false, V.ref a1, V.ref a2]))) a4 = some (.lst (xs ++ [V.str (.ofString ""), V.str (.ofString "0"), V.int 0, V.int 1, V.bl true, V.bl false, V.ref a1, V.ref a2])) := upd_same
    generalize upd J3 a4 (.lst (xs ++ [V.str (.ofString ""), V.str (.ofString "0"), V.int 0, V.int 1, V.bl true, V.bl false, V.ref a1, V.ref a2])) = J4 at s4 e4 ⊢
    have t4 := s1.trans (s2.trans (s3.trans (s4)))
    refine ⟨a4, _, rfl, st.same t4, e4, by rw [List.length_append]; show _ + 8 ≤ 33; omega, fun x hx => ?_⟩
    rcases List.mem_append.mp hx with hx | hx
    · exact (bad x hx).same t4
    simp only [List.mem_cons, List.not_mem_nil, or_false] at hx
    rcases hx with rfl | rfl | rfl | rfl | rfl | rfl | rfl | rfl
    · exact .inl notl_str
    · exact .inl notl_str
    · exact .inl notl_int
    · exact .inl notl_int
    · exact .inl notl_bool
    · exact .inl notl_bool
    · exact .inl (notl_dK ((s2.trans (s3.trans (s4))) _ _ e1))
    · exact .inl (notl_dK ((s3.trans (s4)) _ _ e2))
  clear st
  obtain ⟨O, xs, rfl, st, eO, lO, bad⟩ := h14
  refine ⟨_, rfl, O, rfl, ⟨_, .of eO⟩, fun C hC => ?_⟩
  refine lc_it (walk_list (K := K) (a := O) (xs := xs)) (fun _ H' => Same H14 H' ∧ H' C = some (.lst [])) ⟨Same.new hC, upd_same⟩ (fun j H' _ h' => .of (h'.1 _ _ eO)) (fun j x H18 H19 hj h18 hy => ?_) (fun H18 h18 => ?_)
  · obtain ⟨rfl, hx⟩ := hy
    have bx := (bad x (List.mem_of_getElem? hx)).same h18.1
    have sx := st.same h18.1
    refine ⟨rfl, ?_⟩
    refine ⟨_, rfl, _, rfl, _, rfl, _, rfl, v, t, A, W, ns, ws, x, N, D, false, rfl, sx.ht, by omega, sx.eA, lA', sx.eW, nd, lt, hN, aD, bx.kept _, fun H20 s20 => ?_⟩
    refine ⟨false, false, rfl, rfl, _, rfl, ?_⟩
    exact iteF ⟨h18.1.trans s20, s20 _ _ h18.2⟩
  obtain ⟨s18, e18⟩ := h18
  refine ⟨zero, fun Z hZ => ⟨C, Z, [], rfl, rfl, .of ((Same.new hZ) _ _ e18), .of upd_same, ?_⟩⟩
  have st2 := st.same (s18.trans (Same.new (o := .lst []) hZ))
  exact q _ st2.kp (st2.dr.mono (by omega))
end
end HSP
namespace HSP
open PySem PySem.Spec PyProof.Rows L2
section
variable {P : Program} {w : World} {K : PySem.W.Frag} {mg : Str → Option Value} {base : Heap}
/-! ### law -/
theorem sc_law : FnScope n_law ["script"] (defScope s_law) := ⟨rfl, rfl, rfl, by decide +kernel, rfl, by decide +kernel, by decide +kernel⟩
def spLaw (K : PySem.W.Frag) : Sp := fun vs H Q _ => ∃ (a : Addr) (ns : List Int), vs = [.ref a] ∧ SqL K H a (ns.map V.int) ∧ ns.length ≤ 63 ∧ ∀ H', Q (.bl true) H'
theorem ok_law {f : Addr} {fd : FuncData} (B : Bl mg) (F : Fun K "law" "law" s_law f fd) (D : Df P w K mg base "_law_draws" 1 ["cell"] spDraws) (R : DfG P w K mg base "_law_right" 15 ["draws"] spRight) : FnG P w K mg base CX0 16 f fd ["script"] (spLaw K) := by
  refine FnG.mk' F sc_law (fun vs H Q E h => ?_) (fun cdv A outer s H vs Q E hg hr h => ?_)
  · obtain ⟨a, ns, rfl, _⟩ := h
    rfl
  obtain ⟨a, ns, rfl, hS, h63, q⟩ := h
  refine ⟨_, PSs.nox (pss_cons (ps_for PassesOwn.never rfl (pi_list (pe_op op_cat (pe_slice sl_list (pv 0) po_none (po_some pe_int)) (pe_lst (pa_cons pe_int pa_nil)))) (pg_name (i := 1) sc_law.nd rfl (.inl rfl)) (pss_cons (ps_set (i := 2) sc_law.nd rfl (.inl rfl) (pe_df D (hr.mono (by decide)) (pa_cons (pv 1) pa_nil)))
 (pss_one (ps_for PassesOwn.never rfl (pi_range1 (by rfl) B.range (pa_cons pe_int pa_nil)) (pg_name (i := 3) sc_law.nd rfl (.inl rfl)) (pss_one (ps_if (pt_not (pt_val (pe_dfG R hg hr (pa_cons (pv 2) pa_nil)))) (pss_one (ps_ret pe_bl)) pss_nil))))))
 (pss_one (ps_ret pe_bl))), ?_⟩
  refine ⟨_, rfl, 6, rfl, a, _, rfl, hS, fun c1 hc1 => ?_⟩
  refine ⟨(by show 1 ≤ sizeLine; decide), fun c2 hc2 => ?_⟩
  have s1 := Same.new (o := .lst (cutV (ns.map V.int) none (some 6))) hc1
  have s2 := Same.new (o := .lst [V.int 0]) hc2
  refine ⟨c1, c2, _, _, rfl, rfl, s2 _ _ upd_same, upd_same, ?_, fun C hC => ?_⟩
  · have z := cutV_length (ns.map V.int) none (some 6)
    rw [List.length_map] at z
    show _ + 1 ≤ sizeLine
    exact Nat.le_of_lt (small1000 (by omega))
  have cells : ∀ x, x ∈ cutV (ns.map V.int) none (some 6) ++ [V.int 0] → ∃ z, x = V.int z := fun x hx => by
    rcases List.mem_append.mp hx with hx | hx
    · have h1 := List.mem_of_mem_take hx
      have h2 := List.mem_of_mem_drop h1
      obtain ⟨z, _, rfl⟩ := List.mem_map.mp h2
      exact ⟨z, rfl⟩
    · exact ⟨0, List.mem_singleton.mp hx⟩
  have eC : (upd (upd (upd H c1 (.lst (cutV (ns.map V.int) none (some 6)))) c2 (.lst [V.int 0])) C (.lst (cutV (ns.map V.int) none (some 6) ++ [V.int 0]))) C = some (.lst (cutV (ns.map V.int) none (some 6) ++ [V.int 0])) := upd_same
  generalize cutV (ns.map V.int) none (some 6) ++ [V.int 0] = xs at cells eC ⊢
  generalize upd (upd (upd H c1 (.lst (cutV (ns.map V.int) none (some 6)))) c2 (.lst [V.int 0])) C (.lst xs) = H1 at eC ⊢
  refine ⟨C, rfl, ⟨_, .of eC⟩, for_list (xs := xs) (fun i σ H' => ∃ y0 y1 y2 y3, σ = [y0, y1, y2, y3] ∧ H' C = some (.lst xs)) ⟨_, _, _, _, rfl, eC⟩ (fun i σ H2 _ h2 => ?_) (fun i x σ H2 hx h2 => ?_) (fun σ H2 _ => q H2)⟩
  · obtain ⟨_, _, _, _, _, e2⟩ := h2
    exact .of e2
  · obtain ⟨y0, y1, y2, y3, rfl, e2⟩ := h2
    obtain ⟨z, rfl⟩ := cells x (List.mem_of_getElem? hx)
    refine ⟨_, rfl, z, rfl, fun H3 p s3 np d3 => ?_⟩
    have nC : C ≠ p := ne_of_none e2 np
    refine ⟨2, rfl, by decide, by decide, ?_⟩
    refine for_range (lo := 0) (n := 2) (fun j σ H' => ∃ y0 y1 y3, σ = [y0, y1, some (.ref p), y3] ∧ H' C = some (.lst xs) ∧ DrAt H' p (200 * j)) ⟨_, _, _, rfl, s3 _ _ e2, d3⟩ (fun j σ H4 hj h4 => ?_) (fun σ H4 h4 => ?_)
    · obtain ⟨y0, y1, y3, rfl, e4, d4⟩ := h4
      refine ⟨_, rfl, p, 200 * j, rfl, d4, by omega, fun H5 k5 d5 => ⟨true, rfl, iteF ?_⟩⟩
      exact ⟨_, _, _, rfl, k5 C _ nC e4, d5.mono (by omega)⟩
    · obtain ⟨y0, y1, y3, rfl, e4, _⟩ := h4
      exact ⟨_, _, _, _, rfl, e4⟩
end
/-! ## what the top has written -/
theorem all_mk {l : PySem.W.OpenLaw} {w : World} {K : PySem.W.Frag} {h : Heap} {mg : Str → Option Value} {fa : Addr} (X : K.In h) (G : h.Ns mainGlobals mg) (hfa : mg "law" = some (.ref fa))
    {f1 : Addr} {od1 an1 : Option Addr} {sl1 : Array (Option Value)} {oc1 kV1 dc1 pm1 cd1 ct1 : Value}
    (a1 : PySem.W.nsIn K mainGlobals "is_whole" = some (some (.ref f1))) (l1 : K.lookup f1 = some ⟨oc1, od1, .func (PySem.W.fnOf "is_whole" "is_whole" (defArgs s_is_whole) (defBody s_is_whole) (defScope s_is_whole) .none kV1 dc1 pm1 an1 cd1 ct1), sl1⟩) (c1 : PySem.W.codeIn K cd1 "is_whole" = true) (k1 : PySem.W.keepIn K (.ref f1) = true)
    {f2 : Addr} {od2 an2 : Option Addr} {sl2 : Array (Option Value)} {oc2 kV2 dc2 pm2 cd2 ct2 : Value}
    (a2 : PySem.W.nsIn K mainGlobals "is_node" = some (some (.ref f2))) (l2 : K.lookup f2 = some ⟨oc2, od2, .func (PySem.W.fnOf "is_node" "is_node" (defArgs s_is_node) (defBody s_is_node) (defScope s_is_node) .none kV2 dc2 pm2 an2 cd2 ct2), sl2⟩) (c2 : PySem.W.codeIn K cd2 "is_node" = true) (k2 : PySem.W.keepIn K (.ref f2) = true)
    {f3 : Addr} {od3 an3 : Option Addr} {sl3 : Array (Option Value)} {oc3 kV3 dc3 pm3 cd3 ct3 : Value}
    (a3 : PySem.W.nsIn K mainGlobals "is_tree" = some (some (.ref f3))) (l3 : K.lookup f3 = some ⟨oc3, od3, .func (PySem.W.fnOf "is_tree" "is_tree" (defArgs s_is_tree) (defBody s_is_tree) (defScope s_is_tree) .none kV3 dc3 pm3 an3 cd3 ct3), sl3⟩) (c3 : PySem.W.codeIn K cd3 "is_tree" = true) (k3 : PySem.W.keepIn K (.ref f3) = true)
    {f4 : Addr} {od4 an4 : Option Addr} {sl4 : Array (Option Value)} {oc4 kV4 dc4 pm4 cd4 ct4 : Value}
    (a4 : PySem.W.nsIn K mainGlobals "count_nodes" = some (some (.ref f4))) (l4 : K.lookup f4 = some ⟨oc4, od4, .func (PySem.W.fnOf "count_nodes" "count_nodes" (defArgs s_count_nodes) (defBody s_count_nodes) (defScope s_count_nodes) .none kV4 dc4 pm4 an4 cd4 ct4), sl4⟩) (c4 : PySem.W.codeIn K cd4 "count_nodes" = true) (k4 : PySem.W.keepIn K (.ref f4) = true)
    {f5 : Addr} {od5 an5 : Option Addr} {sl5 : Array (Option Value)} {oc5 kV5 dc5 pm5 cd5 ct5 : Value}
    (a5 : PySem.W.nsIn K mainGlobals "walk" = some (some (.ref f5))) (l5 : K.lookup f5 = some ⟨oc5, od5, .func (PySem.W.fnOf "walk" "walk" (defArgs s_walk) (defBody s_walk) (defScope s_walk) .none kV5 dc5 pm5 an5 cd5 ct5), sl5⟩) (c5 : PySem.W.codeIn K cd5 "walk" = true) (k5 : PySem.W.keepIn K (.ref f5) = true)
    {f6 : Addr} {od6 an6 : Option Addr} {sl6 : Array (Option Value)} {oc6 kV6 dc6 pm6 cd6 ct6 : Value}
    (a6 : PySem.W.nsIn K mainGlobals "paths_of" = some (some (.ref f6))) (l6 : K.lookup f6 = some ⟨oc6, od6, .func (PySem.W.fnOf "paths_of" "paths_of" (defArgs s_paths_of) (defBody s_paths_of) (defScope s_paths_of) .none kV6 dc6 pm6 an6 cd6 ct6), sl6⟩) (c6 : PySem.W.codeIn K cd6 "paths_of" = true) (k6 : PySem.W.keepIn K (.ref f6) = true)
    {f7 : Addr} {od7 an7 : Option Addr} {sl7 : Array (Option Value)} {oc7 kV7 dc7 pm7 cd7 ct7 : Value}
    (a7 : PySem.W.nsIn K mainGlobals "check_tree" = some (some (.ref f7))) (l7 : K.lookup f7 = some ⟨oc7, od7, .func (PySem.W.fnOf "check_tree" "check_tree" (defArgs s_check_tree) (defBody s_check_tree) (defScope s_check_tree) .none kV7 dc7 pm7 an7 cd7 ct7), sl7⟩) (c7 : PySem.W.codeIn K cd7 "check_tree" = true) (k7 : PySem.W.keepIn K (.ref f7) = true)
    {f8 : Addr} {od8 an8 : Option Addr} {sl8 : Array (Option Value)} {oc8 kV8 dc8 pm8 cd8 ct8 : Value}
    (a8 : PySem.W.nsIn K mainGlobals "check_row" = some (some (.ref f8))) (l8 : K.lookup f8 = some ⟨oc8, od8, .func (PySem.W.fnOf "check_row" "check_row" (defArgs s_check_row) (defBody s_check_row) (defScope s_check_row) .none kV8 dc8 pm8 an8 cd8 ct8), sl8⟩) (c8 : PySem.W.codeIn K cd8 "check_row" = true) (k8 : PySem.W.keepIn K (.ref f8) = true)
    {f9 : Addr} {od9 an9 : Option Addr} {sl9 : Array (Option Value)} {oc9 kV9 dc9 pm9 cd9 ct9 : Value}
    (a9 : PySem.W.nsIn K mainGlobals "check_values" = some (some (.ref f9))) (l9 : K.lookup f9 = some ⟨oc9, od9, .func (PySem.W.fnOf "check_values" "check_values" (defArgs s_check_values) (defBody s_check_values) (defScope s_check_values) .none kV9 dc9 pm9 an9 cd9 ct9), sl9⟩) (c9 : PySem.W.codeIn K cd9 "check_values" = true) (k9 : PySem.W.keepIn K (.ref f9) = true)
    {f10 : Addr} {od10 an10 : Option Addr} {sl10 : Array (Option Value)} {oc10 kV10 dc10 pm10 cd10 ct10 : Value}
    (a10 : PySem.W.nsIn K mainGlobals "check_wished" = some (some (.ref f10))) (l10 : K.lookup f10 = some ⟨oc10, od10, .func (PySem.W.fnOf "check_wished" "check_wished" (defArgs s_check_wished) (defBody s_check_wished) (defScope s_check_wished) .none kV10 dc10 pm10 an10 cd10 ct10), sl10⟩) (c10 : PySem.W.codeIn K cd10 "check_wished" = true) (k10 : PySem.W.keepIn K (.ref f10) = true)
    {f11 : Addr} {od11 an11 : Option Addr} {sl11 : Array (Option Value)} {oc11 kV11 dc11 pm11 cd11 ct11 : Value}
    (a11 : PySem.W.nsIn K mainGlobals "check_wishes" = some (some (.ref f11))) (l11 : K.lookup f11 = some ⟨oc11, od11, .func (PySem.W.fnOf "check_wishes" "check_wishes" (defArgs s_check_wishes) (defBody s_check_wishes) (defScope s_check_wishes) .none kV11 dc11 pm11 an11 cd11 ct11), sl11⟩) (c11 : PySem.W.codeIn K cd11 "check_wishes" = true) (k11 : PySem.W.keepIn K (.ref f11) = true)
    {f12 : Addr} {od12 an12 : Option Addr} {sl12 : Array (Option Value)} {oc12 kV12 dc12 pm12 cd12 ct12 : Value}
    (a12 : PySem.W.nsIn K mainGlobals "greater_nodes" = some (some (.ref f12))) (l12 : K.lookup f12 = some ⟨oc12, od12, .func (PySem.W.fnOf "greater_nodes" "greater_nodes" (defArgs s_greater_nodes) (defBody s_greater_nodes) (defScope s_greater_nodes) .none kV12 dc12 pm12 an12 cd12 ct12), sl12⟩) (c12 : PySem.W.codeIn K cd12 "greater_nodes" = true) (k12 : PySem.W.keepIn K (.ref f12) = true)
    {f13 : Addr} {od13 an13 : Option Addr} {sl13 : Array (Option Value)} {oc13 kV13 dc13 pm13 cd13 ct13 : Value}
    (a13 : PySem.W.nsIn K mainGlobals "distances" = some (some (.ref f13))) (l13 : K.lookup f13 = some ⟨oc13, od13, .func (PySem.W.fnOf "distances" "distances" (defArgs s_distances) (defBody s_distances) (defScope s_distances) .none kV13 dc13 pm13 an13 cd13 ct13), sl13⟩) (c13 : PySem.W.codeIn K cd13 "distances" = true) (k13 : PySem.W.keepIn K (.ref f13) = true)
    {f14 : Addr} {od14 an14 : Option Addr} {sl14 : Array (Option Value)} {oc14 kV14 dc14 pm14 cd14 ct14 : Value}
    (a14 : PySem.W.nsIn K mainGlobals "conflicts" = some (some (.ref f14))) (l14 : K.lookup f14 = some ⟨oc14, od14, .func (PySem.W.fnOf "conflicts" "conflicts" (defArgs s_conflicts) (defBody s_conflicts) (defScope s_conflicts) .none kV14 dc14 pm14 an14 cd14 ct14), sl14⟩) (c14 : PySem.W.codeIn K cd14 "conflicts" = true) (k14 : PySem.W.keepIn K (.ref f14) = true)
    {f15 : Addr} {od15 an15 : Option Addr} {sl15 : Array (Option Value)} {oc15 kV15 dc15 pm15 cd15 ct15 : Value}
    (a15 : PySem.W.nsIn K mainGlobals "can_keep" = some (some (.ref f15))) (l15 : K.lookup f15 = some ⟨oc15, od15, .func (PySem.W.fnOf "can_keep" "can_keep" (defArgs s_can_keep) (defBody s_can_keep) (defScope s_can_keep) .none kV15 dc15 pm15 an15 cd15 ct15), sl15⟩) (c15 : PySem.W.codeIn K cd15 "can_keep" = true) (k15 : PySem.W.keepIn K (.ref f15) = true)
    {f16 : Addr} {od16 an16 : Option Addr} {sl16 : Array (Option Value)} {oc16 kV16 dc16 pm16 cd16 ct16 : Value}
    (a16 : PySem.W.nsIn K mainGlobals "_law_draws" = some (some (.ref f16))) (l16 : K.lookup f16 = some ⟨oc16, od16, .func (PySem.W.fnOf "_law_draws" "_law_draws" (defArgs s_law_draws) (defBody s_law_draws) (defScope s_law_draws) .none kV16 dc16 pm16 an16 cd16 ct16), sl16⟩) (c16 : PySem.W.codeIn K cd16 "_law_draws" = true) (k16 : PySem.W.keepIn K (.ref f16) = true)
    {f17 : Addr} {od17 an17 : Option Addr} {sl17 : Array (Option Value)} {oc17 kV17 dc17 pm17 cd17 ct17 : Value}
    (a17 : PySem.W.nsIn K mainGlobals "_law_next" = some (some (.ref f17))) (l17 : K.lookup f17 = some ⟨oc17, od17, .func (PySem.W.fnOf "_law_next" "_law_next" (defArgs s_law_next) (defBody s_law_next) (defScope s_law_next) .none kV17 dc17 pm17 an17 cd17 ct17), sl17⟩) (c17 : PySem.W.codeIn K cd17 "_law_next" = true) (k17 : PySem.W.keepIn K (.ref f17) = true)
    {f18 : Addr} {od18 an18 : Option Addr} {sl18 : Array (Option Value)} {oc18 kV18 dc18 pm18 cd18 ct18 : Value}
    (a18 : PySem.W.nsIn K mainGlobals "_law_size" = some (some (.ref f18))) (l18 : K.lookup f18 = some ⟨oc18, od18, .func (PySem.W.fnOf "_law_size" "_law_size" (defArgs s_law_size) (defBody s_law_size) (defScope s_law_size) .none kV18 dc18 pm18 an18 cd18 ct18), sl18⟩) (c18 : PySem.W.codeIn K cd18 "_law_size" = true) (k18 : PySem.W.keepIn K (.ref f18) = true)
    {f19 : Addr} {od19 an19 : Option Addr} {sl19 : Array (Option Value)} {oc19 kV19 dc19 pm19 cd19 ct19 : Value}
    (a19 : PySem.W.nsIn K mainGlobals "_law_tree" = some (some (.ref f19))) (l19 : K.lookup f19 = some ⟨oc19, od19, .func (PySem.W.fnOf "_law_tree" "_law_tree" (defArgs s_law_tree) (defBody s_law_tree) (defScope s_law_tree) .none kV19 dc19 pm19 an19 cd19 ct19), sl19⟩) (c19 : PySem.W.codeIn K cd19 "_law_tree" = true) (k19 : PySem.W.keepIn K (.ref f19) = true)
    {f20 : Addr} {od20 an20 : Option Addr} {sl20 : Array (Option Value)} {oc20 kV20 dc20 pm20 cd20 ct20 : Value}
    (a20 : PySem.W.nsIn K mainGlobals "_law_values" = some (some (.ref f20))) (l20 : K.lookup f20 = some ⟨oc20, od20, .func (PySem.W.fnOf "_law_values" "_law_values" (defArgs s_law_values) (defBody s_law_values) (defScope s_law_values) .none kV20 dc20 pm20 an20 cd20 ct20), sl20⟩) (c20 : PySem.W.codeIn K cd20 "_law_values" = true) (k20 : PySem.W.keepIn K (.ref f20) = true)
    {f21 : Addr} {od21 an21 : Option Addr} {sl21 : Array (Option Value)} {oc21 kV21 dc21 pm21 cd21 ct21 : Value}
    (a21 : PySem.W.nsIn K mainGlobals "_law_way" = some (some (.ref f21))) (l21 : K.lookup f21 = some ⟨oc21, od21, .func (PySem.W.fnOf "_law_way" "_law_way" (defArgs s_law_way) (defBody s_law_way) (defScope s_law_way) .none kV21 dc21 pm21 an21 cd21 ct21), sl21⟩) (c21 : PySem.W.codeIn K cd21 "_law_way" = true) (k21 : PySem.W.keepIn K (.ref f21) = true)
    {f22 : Addr} {od22 an22 : Option Addr} {sl22 : Array (Option Value)} {oc22 kV22 dc22 pm22 cd22 ct22 : Value}
    (a22 : PySem.W.nsIn K mainGlobals "_law_some" = some (some (.ref f22))) (l22 : K.lookup f22 = some ⟨oc22, od22, .func (PySem.W.fnOf "_law_some" "_law_some" (defArgs s_law_some) (defBody s_law_some) (defScope s_law_some) .none kV22 dc22 pm22 an22 cd22 ct22), sl22⟩) (c22 : PySem.W.codeIn K cd22 "_law_some" = true) (k22 : PySem.W.keepIn K (.ref f22) = true)
    {f23 : Addr} {od23 an23 : Option Addr} {sl23 : Array (Option Value)} {oc23 kV23 dc23 pm23 cd23 ct23 : Value}
    (a23 : PySem.W.nsIn K mainGlobals "_law_near" = some (some (.ref f23))) (l23 : K.lookup f23 = some ⟨oc23, od23, .func (PySem.W.fnOf "_law_near" "_law_near" (defArgs s_law_near) (defBody s_law_near) (defScope s_law_near) .none kV23 dc23 pm23 an23 cd23 ct23), sl23⟩) (c23 : PySem.W.codeIn K cd23 "_law_near" = true) (k23 : PySem.W.keepIn K (.ref f23) = true)
    {f24 : Addr} {od24 an24 : Option Addr} {sl24 : Array (Option Value)} {oc24 kV24 dc24 pm24 cd24 ct24 : Value}
    (a24 : PySem.W.nsIn K mainGlobals "_law_nodes_of" = some (some (.ref f24))) (l24 : K.lookup f24 = some ⟨oc24, od24, .func (PySem.W.fnOf "_law_nodes_of" "_law_nodes_of" (defArgs s_law_nodes_of) (defBody s_law_nodes_of) (defScope s_law_nodes_of) .none kV24 dc24 pm24 an24 cd24 ct24), sl24⟩) (c24 : PySem.W.codeIn K cd24 "_law_nodes_of" = true) (k24 : PySem.W.keepIn K (.ref f24) = true)
    {f25 : Addr} {od25 an25 : Option Addr} {sl25 : Array (Option Value)} {oc25 kV25 dc25 pm25 cd25 ct25 : Value}
    (a25 : PySem.W.nsIn K mainGlobals "_law_far" = some (some (.ref f25))) (l25 : K.lookup f25 = some ⟨oc25, od25, .func (PySem.W.fnOf "_law_far" "_law_far" (defArgs s_law_far) (defBody s_law_far) (defScope s_law_far) .none kV25 dc25 pm25 an25 cd25 ct25), sl25⟩) (c25 : PySem.W.codeIn K cd25 "_law_far" = true) (k25 : PySem.W.keepIn K (.ref f25) = true)
    {f26 : Addr} {od26 an26 : Option Addr} {sl26 : Array (Option Value)} {oc26 kV26 dc26 pm26 cd26 ct26 : Value}
    (a26 : PySem.W.nsIn K mainGlobals "_law_keeps" = some (some (.ref f26))) (l26 : K.lookup f26 = some ⟨oc26, od26, .func (PySem.W.fnOf "_law_keeps" "_law_keeps" (defArgs s_law_keeps) (defBody s_law_keeps) (defScope s_law_keeps) .none kV26 dc26 pm26 an26 cd26 ct26), sl26⟩) (c26 : PySem.W.codeIn K cd26 "_law_keeps" = true) (k26 : PySem.W.keepIn K (.ref f26) = true)
    {f27 : Addr} {od27 an27 : Option Addr} {sl27 : Array (Option Value)} {oc27 kV27 dc27 pm27 cd27 ct27 : Value}
    (a27 : PySem.W.nsIn K mainGlobals "_law_filled" = some (some (.ref f27))) (l27 : K.lookup f27 = some ⟨oc27, od27, .func (PySem.W.fnOf "_law_filled" "_law_filled" (defArgs s_law_filled) (defBody s_law_filled) (defScope s_law_filled) .none kV27 dc27 pm27 an27 cd27 ct27), sl27⟩) (c27 : PySem.W.codeIn K cd27 "_law_filled" = true) (k27 : PySem.W.keepIn K (.ref f27) = true)
    {f28 : Addr} {od28 an28 : Option Addr} {sl28 : Array (Option Value)} {oc28 kV28 dc28 pm28 cd28 ct28 : Value}
    (a28 : PySem.W.nsIn K mainGlobals "_law_right" = some (some (.ref f28))) (l28 : K.lookup f28 = some ⟨oc28, od28, .func (PySem.W.fnOf "_law_right" "_law_right" (defArgs s_law_right) (defBody s_law_right) (defScope s_law_right) .none kV28 dc28 pm28 an28 cd28 ct28), sl28⟩) (c28 : PySem.W.codeIn K cd28 "_law_right" = true) (k28 : PySem.W.keepIn K (.ref f28) = true)
    {f29 : Addr} {od29 an29 : Option Addr} {sl29 : Array (Option Value)} {oc29 kV29 dc29 pm29 cd29 ct29 : Value}
    (a29 : PySem.W.nsIn K mainGlobals "law" = some (some (.ref f29))) (l29 : K.lookup f29 = some ⟨oc29, od29, .func (PySem.W.fnOf "law" "law" (defArgs s_law) (defBody s_law) (defScope s_law) .none kV29 dc29 pm29 an29 cd29 ct29), sl29⟩) (c29 : PySem.W.codeIn K cd29 "law" = true) (k29 : PySem.W.keepIn K (.ref f29) = true)
    (z0 : PySem.W.nsIn K mainGlobals "isinstance" = some none)
    (z1 : PySem.W.nsIn K mainGlobals "int" = some none)
    (z2 : PySem.W.nsIn K mainGlobals "bool" = some none)
    (z3 : PySem.W.nsIn K mainGlobals "tuple" = some none)
    (z4 : PySem.W.nsIn K mainGlobals "list" = some none)
    (z5 : PySem.W.nsIn K mainGlobals "str" = some none)
    (z6 : PySem.W.nsIn K mainGlobals "len" = some none)
    (z7 : PySem.W.nsIn K mainGlobals "range" = some none)
    (z8 : PySem.W.nsIn K mainGlobals "enumerate" = some none)
    (z9 : PySem.W.nsIn K mainGlobals "sorted" = some none)
    (z10 : PySem.W.nsIn K mainGlobals "set" = some none)
    (z11 : PySem.W.nsIn K mainGlobals "sum" = some none)
    (z12 : PySem.W.nsIn K mainGlobals "max" = some none)
    (z13 : PySem.W.nsIn K mainGlobals "abs" = some none)
    (z14 : PySem.W.nsIn K mainGlobals "zip" = some none)
    (z15 : PySem.W.nsIn K mainGlobals "min" = some none)
    (z16 : PySem.W.nsIn K mainGlobals "repr" = some none)
    (z17 : PySem.W.nsIn K mainGlobals "any" = some none)
    (z18 : PySem.W.nsIn K mainGlobals "dict" = some none)
    : ∃ fd : FuncData, (∀ (s : Shared) (v : Value), BindsTo s fd ⟨[v], []⟩ [("script", v)]) ∧ ∀ base : Heap, K.In base → base.Ns mainGlobals mg → FnG l.prog w K mg base CX0 16 fa fd ["script"] (spLaw K) := by
  cases hfa.symm.trans (PySem.W.mg_of X G a29)
  have B : Bl mg := ⟨PySem.W.mg_none_of X G z0, PySem.W.mg_none_of X G z1, PySem.W.mg_none_of X G z2, PySem.W.mg_none_of X G z3, PySem.W.mg_none_of X G z4, PySem.W.mg_none_of X G z5, PySem.W.mg_none_of X G z6, PySem.W.mg_none_of X G z7, PySem.W.mg_none_of X G z8, PySem.W.mg_none_of X G z9, PySem.W.mg_none_of X G z10, PySem.W.mg_none_of X G z11, PySem.W.mg_none_of X G z12, PySem.W.mg_none_of X G z13, PySem.W.mg_none_of X G z14, PySem.W.mg_none_of X G z15⟩
  have A1 : At K mg "is_whole" s_is_whole := ⟨_, _, PySem.W.mg_of X G a1, fun_mk l1 c1 k1⟩
  have A2 : At K mg "is_node" s_is_node := ⟨_, _, PySem.W.mg_of X G a2, fun_mk l2 c2 k2⟩
  have A3 : At K mg "is_tree" s_is_tree := ⟨_, _, PySem.W.mg_of X G a3, fun_mk l3 c3 k3⟩
  have A4 : At K mg "count_nodes" s_count_nodes := ⟨_, _, PySem.W.mg_of X G a4, fun_mk l4 c4 k4⟩
  have A5 : At K mg "walk" s_walk := ⟨_, _, PySem.W.mg_of X G a5, fun_mk l5 c5 k5⟩
  have A6 : At K mg "paths_of" s_paths_of := ⟨_, _, PySem.W.mg_of X G a6, fun_mk l6 c6 k6⟩
  have A7 : At K mg "check_tree" s_check_tree := ⟨_, _, PySem.W.mg_of X G a7, fun_mk l7 c7 k7⟩
  have A8 : At K mg "check_row" s_check_row := ⟨_, _, PySem.W.mg_of X G a8, fun_mk l8 c8 k8⟩
  have A9 : At K mg "check_values" s_check_values := ⟨_, _, PySem.W.mg_of X G a9, fun_mk l9 c9 k9⟩
  have A10 : At K mg "check_wished" s_check_wished := ⟨_, _, PySem.W.mg_of X G a10, fun_mk l10 c10 k10⟩
  have A11 : At K mg "check_wishes" s_check_wishes := ⟨_, _, PySem.W.mg_of X G a11, fun_mk l11 c11 k11⟩
  have A12 : At K mg "greater_nodes" s_greater_nodes := ⟨_, _, PySem.W.mg_of X G a12, fun_mk l12 c12 k12⟩
  have A13 : At K mg "distances" s_distances := ⟨_, _, PySem.W.mg_of X G a13, fun_mk l13 c13 k13⟩
  have A14 : At K mg "conflicts" s_conflicts := ⟨_, _, PySem.W.mg_of X G a14, fun_mk l14 c14 k14⟩
  have A15 : At K mg "can_keep" s_can_keep := ⟨_, _, PySem.W.mg_of X G a15, fun_mk l15 c15 k15⟩
  have A16 : At K mg "_law_draws" s_law_draws := ⟨_, _, PySem.W.mg_of X G a16, fun_mk l16 c16 k16⟩
  have A17 : At K mg "_law_next" s_law_next := ⟨_, _, PySem.W.mg_of X G a17, fun_mk l17 c17 k17⟩
  have A18 : At K mg "_law_size" s_law_size := ⟨_, _, PySem.W.mg_of X G a18, fun_mk l18 c18 k18⟩
  have A19 : At K mg "_law_tree" s_law_tree := ⟨_, _, PySem.W.mg_of X G a19, fun_mk l19 c19 k19⟩
  have A20 : At K mg "_law_values" s_law_values := ⟨_, _, PySem.W.mg_of X G a20, fun_mk l20 c20 k20⟩
  have A21 : At K mg "_law_way" s_law_way := ⟨_, _, PySem.W.mg_of X G a21, fun_mk l21 c21 k21⟩
  have A22 : At K mg "_law_some" s_law_some := ⟨_, _, PySem.W.mg_of X G a22, fun_mk l22 c22 k22⟩
  have A23 : At K mg "_law_near" s_law_near := ⟨_, _, PySem.W.mg_of X G a23, fun_mk l23 c23 k23⟩
  have A24 : At K mg "_law_nodes_of" s_law_nodes_of := ⟨_, _, PySem.W.mg_of X G a24, fun_mk l24 c24 k24⟩
  have A25 : At K mg "_law_far" s_law_far := ⟨_, _, PySem.W.mg_of X G a25, fun_mk l25 c25 k25⟩
  have A26 : At K mg "_law_keeps" s_law_keeps := ⟨_, _, PySem.W.mg_of X G a26, fun_mk l26 c26 k26⟩
  have A27 : At K mg "_law_filled" s_law_filled := ⟨_, _, PySem.W.mg_of X G a27, fun_mk l27 c27 k27⟩
  have A28 : At K mg "_law_right" s_law_right := ⟨_, _, PySem.W.mg_of X G a28, fun_mk l28 c28 k28⟩
  refine ⟨PySem.W.fnOf "law" "law" (defArgs s_law) (defBody s_law) (defScope s_law) .none kV29 dc29 pm29 an29 cd29 ct29, fun s v => .of_eq rfl, fun base _ _ => ?_⟩
  have WhX := ok_wholeX (P := l.prog) (w := w) (base := base) B A1
  have Wh := ok_whole (P := l.prog) (w := w) (base := base) B A1
  have In := ok_isN Wh A2
  have Tr := ok_tree (P := l.prog) (w := w) (base := base) B A3
  have Co := ok_count (P := l.prog) (w := w) (base := base) A4
  have Wa := ok_walk Co A5
  have Pa := ok_paths B Co Wa A6
  have Ct := ok_chkT Tr A7
  have Cr := ok_chkR B Wh A8
  have Cv := ok_chkV B Cr Co Ct A9
  have Cd := ok_chkWd B Co In A10
  have Cs := ok_chkWs Cv Cd A11
  have Gr := ok_greater B Pa A12
  have Di := ok_dist B Gr A13
  have Cf := ok_conf B Di A14
  have Ck := okB_canKeep B (PySem.W.mg_none_of X G z17) Cs Cf WhX A15
  have Dr := ok_draws (P := l.prog) (w := w) (base := base) B A16
  have N := ok_next (P := l.prog) (w := w) (base := base) B A17
  have Z := ok_size (P := l.prog) (w := w) (base := base) A18 11
  have T := ok_drawT B N A19 11
  have Va := ok_values B N A20
  have Wy := ok_way B Z A21
  have So := ok_some B N A22
  have Ne := ok_near B Wy A23
  have No := ok_nodes B Wy A24
  have Fa := ok_far B (PySem.W.mg_none_of X G z18) No Ne A25
  have Ke := ok_keeps (P := l.prog) (w := w) (base := base) B A26
  have Fi := ok_filled (P := l.prog) (w := w) (base := base) B (PySem.W.mg_none_of X G z18) A27
  have R := ok_right B (PySem.W.mg_none_of X G z16) N T Z Va So No Fa Ke Fi Ck A28
  exact ok_law B (fun_mk l29 c29 k29) Dr R
end HSP
open PySem PySem.W PyProof.Rows
set_option maxHeartbeats 0 in
theorem PySem.Challenge.cw_halfsearch_k16_values_that_can_stay_holds : PySem.Challenge.rw_halfsearch_k16_values_that_can_stay.Holds := by
  w_on; o_law; k_head; (case hw => w_witness2)
  k_fill
  refine HSP.walk_ofG (l := PySem.Challenge.rw_halfsearch_k16_values_that_can_stay) (n := 63) (k := 16) (x := "script") (sp := fun w => HSP.spLaw _) rfl (by decide) rfl ⟨rfl, by decide, by decide⟩ (fun w h Y => PySem.W.kIn_of Y) ?F (fun _ _ a ns hl _ hS => ⟨a, ns, rfl, hS, hl, fun _ => rfl⟩)
  case F =>
    intro w mg fa h KX G hmg
    refine' HSP.all_mk KX G hmg ?a1 ?l1 ?c1 ?k1 ?a2 ?l2 ?c2 ?k2 ?a3 ?l3 ?c3 ?k3 ?a4 ?l4 ?c4 ?k4 ?a5 ?l5 ?c5 ?k5 ?a6 ?l6 ?c6 ?k6 ?a7 ?l7 ?c7 ?k7 ?a8 ?l8 ?c8 ?k8 ?a9 ?l9 ?c9 ?k9 ?a10 ?l10 ?c10 ?k10 ?a11 ?l11 ?c11 ?k11 ?a12 ?l12 ?c12 ?k12 ?a13 ?l13 ?c13 ?k13 ?a14 ?l14 ?c14 ?k14 ?a15 ?l15 ?c15 ?k15 ?a16 ?l16 ?c16 ?k16 ?a17 ?l17 ?c17 ?k17 ?a18 ?l18 ?c18 ?k18 ?a19 ?l19 ?c19 ?k19 ?a20 ?l20 ?c20 ?k20 ?a21 ?l21 ?c21 ?k21 ?a22 ?l22 ?c22 ?k22 ?a23 ?l23 ?c23 ?k23 ?a24 ?l24 ?c24 ?k24 ?a25 ?l25 ?c25 ?k25 ?a26 ?l26 ?c26 ?k26 ?a27 ?l27 ?c27 ?k27 ?a28 ?l28 ?c28 ?k28 ?a29 ?l29 ?c29 ?k29 ?z0 ?z1 ?z2 ?z3 ?z4 ?z5 ?z6 ?z7 ?z8 ?z9 ?z10 ?z11 ?z12 ?z13 ?z14 ?z15 ?z16 ?z17 ?z18
    (case a1 => k_is)
    (case l1 => k_is)
    (case c1 => k_is)
    (case k1 => k_is)
    (case a2 => k_is)
    (case l2 => k_is)
    (case c2 => k_is)
    (case k2 => k_is)
    (case a3 => k_is)
    (case l3 => k_is)
    (case c3 => k_is)
    (case k3 => k_is)
    (case a4 => k_is)
    (case l4 => k_is)
    (case c4 => k_is)
    (case k4 => k_is)
    (case a5 => k_is)
    (case l5 => k_is)
    (case c5 => k_is)
    (case k5 => k_is)
    (case a6 => k_is)
    (case l6 => k_is)
    (case c6 => k_is)
    (case k6 => k_is)
    (case a7 => k_is)
    (case l7 => k_is)
    (case c7 => k_is)
    (case k7 => k_is)
    (case a8 => k_is)
    (case l8 => k_is)
    (case c8 => k_is)
    (case k8 => k_is)
    (case a9 => k_is)
    (case l9 => k_is)
    (case c9 => k_is)
    (case k9 => k_is)
    (case a10 => k_is)
    (case l10 => k_is)
    (case c10 => k_is)
    (case k10 => k_is)
    (case a11 => k_is)
    (case l11 => k_is)
    (case c11 => k_is)
    (case k11 => k_is)
    (case a12 => k_is)
    (case l12 => k_is)
    (case c12 => k_is)
    (case k12 => k_is)
    (case a13 => k_is)
    (case l13 => k_is)
    (case c13 => k_is)
    (case k13 => k_is)
    (case a14 => k_is)
    (case l14 => k_is)
    (case c14 => k_is)
    (case k14 => k_is)
    (case a15 => k_is)
    (case l15 => k_is)
    (case c15 => k_is)
    (case k15 => k_is)
    (case a16 => k_is)
    (case l16 => k_is)
    (case c16 => k_is)
    (case k16 => k_is)
    (case a17 => k_is)
    (case l17 => k_is)
    (case c17 => k_is)
    (case k17 => k_is)
    (case a18 => k_is)
    (case l18 => k_is)
    (case c18 => k_is)
    (case k18 => k_is)
    (case a19 => k_is)
    (case l19 => k_is)
    (case c19 => k_is)
    (case k19 => k_is)
    (case a20 => k_is)
    (case l20 => k_is)
    (case c20 => k_is)
    (case k20 => k_is)
    (case a21 => k_is)
    (case l21 => k_is)
    (case c21 => k_is)
    (case k21 => k_is)
    (case a22 => k_is)
    (case l22 => k_is)
    (case c22 => k_is)
    (case k22 => k_is)
    (case a23 => k_is)
    (case l23 => k_is)
    (case c23 => k_is)
    (case k23 => k_is)
    (case a24 => k_is)
    (case l24 => k_is)
    (case c24 => k_is)
    (case k24 => k_is)
    (case a25 => k_is)
    (case l25 => k_is)
    (case c25 => k_is)
    (case k25 => k_is)
    (case a26 => k_is)
    (case l26 => k_is)
    (case c26 => k_is)
    (case k26 => k_is)
    (case a27 => k_is)
    (case l27 => k_is)
    (case c27 => k_is)
    (case k27 => k_is)
    (case a28 => k_is)
    (case l28 => k_is)
    (case c28 => k_is)
    (case k28 => k_is)
    (case a29 => k_is)
    (case l29 => k_is)
    (case c29 => k_is)
    (case k29 => k_is)
    (case z0 => k_is)
    (case z1 => k_is)
    (case z2 => k_is)
    (case z3 => k_is)
    (case z4 => k_is)
    (case z5 => k_is)
    (case z6 => k_is)
    (case z7 => k_is)
    (case z8 => k_is)
    (case z9 => k_is)
    (case z10 => k_is)
    (case z11 => k_is)
    (case z12 => k_is)
    (case z13 => k_is)
    (case z14 => k_is)
    (case z15 => k_is)
    (case z16 => k_is)
    (case z17 => k_is)
    (case z18 => k_is)
