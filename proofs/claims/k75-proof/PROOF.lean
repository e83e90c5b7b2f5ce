import PyProof.Rows.All
import Wide.All
import OpenK.AllK
import Wide.FinOn
import PyProof.EqAt
import PyProof.EqKinds
import PyProof.TupleCall
import PyProof.ZipIter
import PyProof.EnumMake
import PyProof.Draws
import PyProof.LayNew
import PyProof.Rows.SortShell
import PyProof.IsRules
import PyProof.ListIndex
import PyProof.Cells
import PyProof.CompUse
import PyProof.DictItems
import PyProof.DictItemsLoops
import PyProof.Rows.MinMaxN
import PyProof.Rows.Range3
import KE.KRevIter
import PyProof.DictWalks
import PyProof.NeKinds
import PyProof.DictList
import PyProof.DictUpdate
import PyProof.Rows.Tup
import PyProof.FactsAll.tuple_2
import PyProof.Rows.CallKwBuiltin
import KE.KDictSum
import Lean
import PySem.Challenge.RW_plusless_k75_whole_rows_and_tables
set_option Elab.async false
set_option linter.all false
set_option maxRecDepth 100000
section

set_option Elab.async false
set_option linter.all false
set_option maxRecDepth 100000
namespace PySem
def ZO (o : Obj) : Prop := ∃ fs : Array Value, o.data = .fields fs ∧ fs[2]? = some .none
def Heap.Zat (h : Heap) (e : Addr) : Prop := ∃ o, h.get? e = some o ∧ ZO o
section
variable {M : Model} {A : Around} {E : Value → Shared → Prop} {s : Shared} {bs : Heap} {en : Env} {out : List Env} {L e : Addr} {cl a0 : Value}
end
end PySem
namespace PySem
open PyProof.Rows
theorem entry_unchain : entryFor table "proto.unchain" = some Builtin.«proto.unchain» := entryFor_of_tree (by kernel_rfl)
theorem plain_unchain : plainId "proto.unchain" = true := by decide +kernel
section
variable {prog : Program} {w : World} {A : Around} {E : Value → Shared → Prop} {s : Shared}
theorem unchainZ {ea ha : Addr} {Q : Value → Shared → Prop} (z : s.heap.Zat ha) (h : Q .none s) : wpAny (model prog w) A (runValue (.builtin "proto.unchain" ⟨[.ref ea, .ref ha, .ref ha, .bool false], []⟩)) Q E s := by
  obtain ⟨o, ho, fs, hd, h2⟩ := z
  refine wpAny_runValue (codeAny_builtin entry_unchain ?_)
  rw [Around.under_plainId plain_unchain _]
  unfold Builtin.«proto.unchain»
  refine wpAny_bind (wpAny_field ho hd h2 ?_)
  rw [if_pos (by rfl)]
  refine wpAny_bind (wpAny_pure ?_)
  exact wpAny_pure h
theorem raiseNewZ {α : Type} {ea ha : Addr} {o : Obj} {fs : Array Value} {Q : α → Shared → Prop} (hh : A.handled = some (.ref ha)) (z : s.heap.Zat ha) (ne : ha ≠ ea) (he : s.heap.get? ea = some o) (hd : o.data = .fields fs) (hs : 2 < fs.size)
    (h : E (.ref ea) { s with heap := s.heap.update ea (Obj.mapFields (fun y => y.setIfInBounds 2 (.ref ha))) }) : wpAny (model prog w) A (raiseNew (.ref ea) : Sem α) Q E s := by
  unfold raiseNew
  refine wpAny_bind (wpAny_handled ?_)
  rw [hh]
  dsimp only
  rw [if_pos (by simpa using ne)]
  refine wpAny_bind (wpAny_holding (unchainZ z ?_))
  refine wpAny_bind ?_
  show wpAny _ _ (setField (.ref ea) 2 (.ref ha)) _ _ s
  exact wpAny_setField he hd hs (wpAny_throw h)
theorem rangeEndZ {it ha : Addr} {x left step : Int} {Q : Option Value → Shared → Prop} (hh : A.handled = some (.ref ha)) (z : s.heap.Zat ha) (hit : IsRangeIter s.heap it x left step) (hl : left ≤ 0)
    (k : ∀ h', Heap.ExtBut it s.heap h' → Q none { s with heap := h' }) : wpAny (model prog w) A (pyNext (.ref it)) Q E s := by
  have ty : s.TypeIs (.ref it) "range_iterator" := ⟨_, hit, rfl⟩
  have lta : ha < s.heap.objs.size := let ⟨o, q, _⟩ := z; Heap.lt_size q
  unfold pyNext
  refine wpAny_bind (wpAny_attempt (wpAny_callSpecial?_slot (name := Str.ofString "__next__") ty F.slot_range_iterator_next (wpAny_call_entry F.slot_range_iterator_next ty F.entry_range_iterator_next ?_ (F.args_range_iterator_next_1 _))))
  show wpAny _ _ (field (.ref it) 0 >>= _) _ _ s
  refine wpAny_bind (wpAny_field hit rfl (x := rawInt x) rfl ?_)
  show wpAny _ _ (field (.ref it) 1 >>= _) _ _ s
  refine wpAny_bind (wpAny_field hit rfl (x := rawInt left) rfl ?_)
  show wpAny _ _ (field (.ref it) 2 >>= _) _ _ s
  refine wpAny_bind (wpAny_field hit rfl (x := rawInt step) rfl ?_)
  show wpAny _ _ (if left ≤ 0 then _ else _) _ _ s
  rw [if_pos hl]
  refine wpAny_bind (wpAny_rule ?_)
  refine wpAny_bind ?_
  show wpAny _ _ (newExc (.type "StopIteration") [] >>= _) _ _ _
  refine wpAny_bind ?_
  simp only [newExc, newTuple]
  refine wpAny_bind (wpAny_newObj_type ?_ (by size_fits))
  refine wpAny_bind (m := firstArgMember _ _) (wpAny_of_eq (a := Value.none) (by first | rfl | (simp only [firstArgMember]; rfl)) ?_)
  refine wpAny_newObj_type ?_ (by size_fits)
  refine raiseNewZ (ha := ha) (by first | exact hh | (show A.in1.handled = _; exact hh)) ?_ ?_ (Heap.get?_push_size _ rfl) rfl ?_ ?_
  · obtain ⟨o, q, r⟩ := z
    exact ⟨o, Heap.get?_push_of_some _ (Heap.get?_push_of_some _ q), r⟩
  · exact Nat.ne_of_lt (Nat.lt_of_lt_of_le lta (by rw [Heap.size_push]; exact Nat.le_succ _))
  · rw [Array.size_append]; exact Nat.lt_of_lt_of_le (show 2 < 6 by decide) (Nat.le_add_right _ _)
  · dsimp only
    generalize hfn : Obj.mapFields (fun y => y.setIfInBounds 2 (Value.ref ha)) = fn
    generalize hg : s.heap.push { cls := Value.type "tuple", data := Data.seq #[] } = g
    generalize hex : ({ cls := Value.type "StopIteration", data := Data.fields (#[Value.ref s.heap.objs.size, Value.none, Value.none, Value.none, Value.bool false, Value.none] ++ ownMembersOf (Value.type "StopIteration") []) } : Obj) = ex
    have c0 : ex.cls = .type "StopIteration" := by rw [← hex]
    have d0 : ∃ fs, ex.data = .fields fs := ⟨_, by rw [← hex]⟩
    obtain ⟨fs, d0⟩ := d0
    have p0 : (g.push ex).get? g.objs.size = some ex := Heap.get?_push_size g (Obj.isFreed_of_fields d0)
    have d1 : (fn ex).data = .fields (fs.setIfInBounds 2 (.ref ha)) := by rw [← hfn]; exact Obj.data_mapFields d0 _
    have c1 : (fn ex).cls = .type "StopIteration" := by rw [← hfn]; exact (Obj.cls_mapFields _ _).trans c0
    have e1 : ((g.push ex).update g.objs.size fn).get? g.objs.size = some (fn ex) := Heap.get?_update_self fn p0 (Obj.isFreed_of_fields d1)
    refine wpAny_bind (wpAny_isInstance (T := "StopIteration") (b := true) ⟨fn ex, e1, c1⟩ isSubtype_stop ?_)
    refine wpAny_pure (k _ fun b o _ q => ?_)
    have q1 : g.get? b = some o := by rw [← hg]; exact Heap.get?_push_of_some _ q
    rw [Heap.get?_update_other (g.push ex) fn (Nat.ne_of_gt (Heap.lt_size q1))]
    exact Heap.get?_push_of_some ex q1
end
end PySem
namespace L2
open PySem PySem.Spec PyProof.Rows
abbrev Key := Sum Int Str
def keyIs : Key → Value → Bool
  | .inl k, v => Value.isInt k v
  | .inr x, v => Value.isStrOf x v
def keyH (w : World) : Key → Int
  | .inl k => hashInt k
  | .inr x => hashStr w x
theorem keyIs_shape : ∀ {k : Key} {v : Value}, keyIs k v = true → (∃ i t, k = Sum.inl i ∧ v = Value.int i t) ∨ (∃ x t, k = Sum.inr x ∧ v = Value.str x t)
  | .inl i, v, h => by
    obtain ⟨t, e⟩ := Value.isInt_shape (k := i) (v := v) h
    exact .inl ⟨i, t, rfl, e⟩
  | .inr x, v, h => by
    obtain ⟨t, e⟩ := Value.isStrOf_shape (x := x) (v := v) h
    exact .inr ⟨x, t, rfl, e⟩
theorem keyIs_int (i : Int) (t : Tok) : keyIs (.inl i) (.int i t) = true := by simp [keyIs, Value.isInt]
theorem keyIs_str (x : Str) (t : Tok) : keyIs (.inr x) (.str x t) = true := by simp [keyIs, Value.isStrOf]
theorem key_ll (a b : Int) : decide ((Sum.inl a : Key) = Sum.inl b) = (a == b) := by
  by_cases e : a = b
  · subst e; simp
  · have h : ¬ (Sum.inl a : Key) = Sum.inl b := fun q => e (Sum.inl.inj q)
    rw [decide_eq_false h]
    exact (beq_eq_false_iff_ne.mpr e).symm
theorem key_rr (a b : Str) : decide ((Sum.inr a : Key) = Sum.inr b) = decide (a = b) := by
  by_cases e : a = b
  · subst e; simp
  · have h : ¬ (Sum.inr a : Key) = Sum.inr b := fun q => e (Sum.inr.inj q)
    rw [decide_eq_false h, decide_eq_false e]
theorem key_lr (a : Int) (b : Str) : decide ((Sum.inl a : Key) = Sum.inr b) = false := decide_eq_false (fun q => nomatch q)
theorem key_rl (a : Str) (b : Int) : decide ((Sum.inr a : Key) = Sum.inl b) = false := decide_eq_false (fun q => nomatch q)
def mixKind (prog : Program) (w : World) : PySem.KeyKind prog w Key where
  is := keyIs
  hash := keyH w
  inj := fun v a b ha hb => by
    rcases keyIs_shape ha with ⟨i, t, rfl, rfl⟩ | ⟨x, t, rfl, rfl⟩
    · rcases keyIs_shape hb with ⟨j, u, rfl, e⟩ | ⟨y, u, rfl, e⟩
      · injection e with e1 _; rw [e1]
      · exact nomatch e
    · rcases keyIs_shape hb with ⟨j, u, rfl, e⟩ | ⟨y, u, rfl, e⟩
      · exact nomatch e
      · injection e with e1 _; rw [e1]
  byValue := fun k v h => by
    rcases keyIs_shape h with ⟨i, t, rfl, rfl⟩ | ⟨x, t, rfl, rfl⟩ <;> rfl
  pyHash := fun hv h => by
    rcases keyIs_shape hv with ⟨i, t, rfl, rfl⟩ | ⟨x, t, rfl, rfl⟩
    · exact wpAny_pyHash_int h
    · exact wpAny_pyHash_str h
  eqBool := fun hu hv h => by
    rcases keyIs_shape hu with ⟨i, t, rfl, rfl⟩ | ⟨x, t, rfl, rfl⟩
    · rcases keyIs_shape hv with ⟨j, u, rfl, rfl⟩ | ⟨y, u, rfl, rfl⟩
      · rw [key_ll] at h; exact wpAny_eqBool_int h
      · rw [key_lr] at h; exact SeqAt.EqAt.int_str i t y u _ _ _ _ h
    · rcases keyIs_shape hv with ⟨j, u, rfl, rfl⟩ | ⟨y, u, rfl, rfl⟩
      · rw [key_rl] at h; exact SeqAt.EqAt.str_int x t j u _ _ _ _ h
      · rw [key_rr] at h; exact wpAny_eqBool_str h
  «strs» := fun k x t v h => by
    rcases keyIs_shape h with ⟨i, u, rfl, e⟩ | ⟨y, u, rfl, e⟩
    · exact nomatch e
    · injection e with e1 _
      subst e1
      cases v <;> rfl
theorem mixKind_is (prog : Program) (w : World) (k : Key) (v : Value) : (mixKind prog w).is k v = keyIs k v := rfl
theorem mixKind_int (prog : Program) (w : World) (i : Int) (t : Tok) : (mixKind prog w).is (.inl i) (.int i t) = true := keyIs_int i t
theorem mixKind_str (prog : Program) (w : World) (x : Str) (t : Tok) : (mixKind prog w).is (.inr x) (.str x t) = true := keyIs_str x t
end L2
namespace L2
open PySem PySem.Spec PyProof.Rows
inductive V where
  | non | bl (b : Bool) | int (i : Int) | str (x : Str) | byt (b : Array UInt8) | flt (b : UInt64) | ref (a : Addr) | ty (n : String)
  deriving DecidableEq
def RelV : V → Value → Prop
  | .non, u => u = Value.none
  | .bl b, u => u = Value.bool b
  | .int i, u => ∃ t, u = Value.int i t
  | .str x, u => ∃ t, u = Value.str x t
  | .byt b, u => ∃ t, u = Value.bytes b t
  | .flt b, u => ∃ t, u = Value.float b t
  | .ref a, u => u = Value.ref a
  | .ty n, u => u = Value.type n
abbrev Vals : List V → List Value → Prop := Paired RelV
theorem Vals.length {xs : List V} {us : List Value} (r : Vals xs us) : xs.length = us.length := Paired.length r
theorem Vals.get : ∀ {xs : List V} {us : List Value} {i : Nat} {x : V}, Vals xs us → xs[i]? = some x → ∃ u, us[i]? = some u ∧ RelV x u
  | _, _, _, _, .nil, e => by simp at e
  | _, _, 0, _, .cons r _, e => by simp at e; subst e; exact ⟨_, rfl, r⟩
  | _, _, i + 1, x, .cons _ t, e => by
    obtain ⟨u, h1, h2⟩ := Vals.get (i := i) (x := x) t (by simpa using e)
    exact ⟨u, by simpa using h1, h2⟩
theorem Vals.set {x : V} {u : Value} (r : RelV x u) : ∀ {xs : List V} {us : List Value} (i : Nat), Vals xs us → Vals (xs.set i x) (us.set i u)
  | _, _, _, .nil => .nil
  | _, _, 0, .cons _ t => .cons r t
  | _, _, i + 1, .cons q t => .cons q (Vals.set r i t)
theorem Vals.append : ∀ {xs ys : List V} {us ws : List Value}, Vals xs us → Vals ys ws → Vals (xs ++ ys) (us ++ ws)
  | _, _, _, _, .nil, s => s
  | _, _, _, _, .cons r t, s => .cons r (Vals.append t s)
theorem Vals.take : ∀ {xs : List V} {us : List Value} (n : Nat), Vals xs us → Vals (xs.take n) (us.take n)
  | _, _, 0, _ => .nil
  | _, _, _ + 1, .nil => .nil
  | _, _, n + 1, .cons r t => .cons r (Vals.take n t)
theorem Vals.drop : ∀ {xs : List V} {us : List Value} (n : Nat), Vals xs us → Vals (xs.drop n) (us.drop n)
  | _, _, 0, r => r
  | _, _, _ + 1, .nil => .nil
  | _, _, n + 1, .cons _ t => Vals.drop n t
def RelO : Option V → Option Value → Prop
  | some v, some u => RelV v u
  | none, none => True
  | _, _ => False
def KV {κ : Type} : List (κ × V) → List (κ × Value) → Prop := Paired fun (p : κ × V) (q : κ × Value) => p.1 = q.1 ∧ RelV p.2 q.2
def kV : Key → V
  | .inl i => .int i
  | .inr x => .str x
inductive HO where
  /-- a list -/
  | lst (xs : List V)
  /-- a tuple (never changes) -/
  | tup (xs : List V)
  /-- a dict whose keys are ints and texts; one whose keys are tuples of ints and texts (the empty one is both) -/
  | dK (kvs : List (Key × V)) | dT (kvs : List (List Key × V))
  /-- a set of ints: its members, its size -/
  | set (S : Int → Bool) (n : Nat)
  /-- an instance of the class at C, its dict at dx, its attributes -/
  | ins (C dx : Addr) (fs : List (Str × V))
  /-- the dict of the instance at x -/
  | own (x : Addr)
  /-- the dict of an exception -/
  | xd (fs : List (Str × V))
  /-- a bound method, f of x -/
  | met (f x : Addr)
  /-- a range object lo, lo + 1, .. below hi -/
  | rng (lo hi : Int)
  /-- a thing that is known to the object (the script; a dict while a loop walks it): read, never written while it is so -/
  | frz (o : Obj) (u : HO)
  /-- a code object's table -/
  | tbl (ps : Array Value)
  /-- any other thing, by what is true of its one object (a def of one's own: SetO a S n := HO.ext fun h => ..) -/
  | ext (φ : Heap → Prop)
abbrev Hp := Addr → Option HO
def upd (H : Hp) (a : Addr) (o : HO) : Hp := fun b => if b = a then some o else H b
theorem upd_same {H : Hp} {a : Addr} {o : HO} : upd H a o a = some o := by unfold upd; rw [if_pos rfl]
theorem upd_ne {H : Hp} {a b : Addr} {o : HO} (h : b ≠ a) : upd H a o b = H b := by unfold upd; rw [if_neg h]
theorem ne_of {H : Hp} {a b : Addr} {o u : HO} (h : H a = some o) (h' : H b = some u) (d : o ≠ u) : a ≠ b := by
  intro e; subst e; rw [h] at h'; exact d (Option.some.inj h')
theorem ne_of_none {H : Hp} {a b : Addr} {o : HO} (h : H a = some o) (h' : H b = none) : a ≠ b := by
  intro e; subst e; rw [h] at h'; cases h'
section
variable (P : Program) (w : World)
def ObjOk (H : Hp) (h : Heap) (a : Addr) : HO → Prop
  | .lst xs => xs.length ≤ sizeLine ∧ ∃ (its : List Value) (n : Nat), Vals xs its ∧ h.get? a = some { cls := .type "list", data := .seq its.toArray n }
  | .tup xs => xs.length ≤ sizeLine ∧ ∃ its : List Value, Vals xs its ∧ IsTup h a its.toArray
  | .dK kvs => kvs.length ≤ sizeLine ∧ (a == sysModules) = false ∧ ∃ vs, KV kvs vs ∧ h.DictOf (mixKind P w) a vs
  | .dT kvs => kvs.length ≤ sizeLine ∧ (a == sysModules) = false ∧ ∃ xs : List (List Key × Addr × Value),
      Paired (fun (p : List Key × V) (q : List Key × Addr × Value) => p.1 = q.1 ∧ H q.2.1 = some (.tup (p.1.map kV)) ∧ RelV p.2 q.2.2) kvs xs ∧
      ∃ o es ep, h.get? a = some o ∧ o.ExactDict ∧ o.data = .dict es ep ∧ es.toList = xs.map (entryOfKey (tupleKind (mixKind P w))) ∧ (xs.map (·.1)).Nodup
  | .set S n => h.SetOf (intKind P w) a S n
  | .ins C dx fs => H dx = some (.own a) ∧ fs.length ≤ 1000 ∧ dx ≠ a ∧ h.get? a = some (PySem.W.instObj C dx) ∧
      ∃ mA, h.Ns1 dx mA ∧ (∀ f, RelO (fs.lookup f) (mA f)) ∧ PySem.Within mA (fs.map (·.1))
  | .own _ => ∃ o, h.get? a = some o
  | .xd fs => ∃ mA, h.Ns1 a mA ∧ ∀ f, RelO (fs.lookup f) (mA f)
  | .rng lo hi => ∃ t u v, h.get? a = some { cls := .type "range", data := .fields #[.int lo t, .int hi u, .int 1 v] }
  | .frz o u => h.get? a = some o ∧ ObjOk H h a u
  | .tbl ps => h.get? a = some { cls := .none, data := .fields ps }
  | .met f x => h.get? a = some (PySem.W.methodObj (.ref f) (.ref x))
  | .ext φ => φ h ∧ (∃ o, h.get? a = some o) ∧ ∀ h1 h2 : Heap, φ h1 → (∀ o, h1.get? a = some o → h2.get? a = some o) → φ h2
def HOk (H : Hp) (h : Heap) : Prop := ∀ a o, H a = some o → ObjOk P w H h a o
end
section
variable {P : Program} {w : World} {H H' : Hp} {h h' : Heap} {a : Addr} {o : HO}
theorem ObjOk.lt (x : ObjOk P w H h a o) : a < h.objs.size := by
  cases o with
  | lst xs => obtain ⟨_, _, _, _, e⟩ := x; exact Heap.lt_size e
  | tup xs => obtain ⟨_, _, _, p⟩ := x; exact p.lt
  | dK kvs => obtain ⟨_, _, _, _, o, _, _, e, _⟩ := x; exact Heap.lt_size e
  | dT kvs => obtain ⟨_, _, _, _, o, _, _, e, _⟩ := x; exact Heap.lt_size e
  | set S n => obtain ⟨o, _, _, _, e, _⟩ := x; exact Heap.lt_size e
  | ins C dx fs => obtain ⟨_, _, _, e, _⟩ := x; exact Heap.lt_size e
  | own y => obtain ⟨_, e⟩ := x; exact Heap.lt_size e
  | xd fs => obtain ⟨_, ⟨_, _, _, e, _⟩, _⟩ := x; exact Heap.lt_size e
  | rng lo hi => obtain ⟨_, _, _, e⟩ := x; exact Heap.lt_size e
  | frz ob u => obtain ⟨e, _⟩ := x; exact Heap.lt_size e
  | tbl ps => exact Heap.lt_size (show h.get? a = some _ from x)
  | met f y => exact Heap.lt_size (show h.get? a = some _ from x)
  | ext φ => obtain ⟨_, ⟨_, e⟩, _⟩ := x; exact Heap.lt_size e
theorem Paired.mapP {α β : Type} {F G : α → β → Prop} : ∀ {l₁ : List α} {l₂ : List β}, Paired F l₁ l₂ → (∀ a b, F a b → G a b) → Paired G l₁ l₂
  | _, _, .nil, _ => .nil
  | _, _, .cons r t, f => .cons (f _ _ r) (Paired.mapP t f)
theorem ObjOk.stay (x : ObjOk P w H h a o) (k : ∀ b u, (b = a ∨ H b = some (.own a)) → h.get? b = some u → h'.get? b = some u)
    (ho : ∀ b, H b = some (.own a) → H' b = some (.own a)) (ht : ∀ b xs, H b = some (.tup xs) → H' b = some (.tup xs)) : ObjOk P w H' h' a o := by
  induction o with
  | lst xs => obtain ⟨z, its, n, r, e⟩ := x; exact ⟨z, its, n, r, k _ _ (.inl rfl) e⟩
  | tup xs => obtain ⟨z, its, r, ob, e, c⟩ := x; exact ⟨z, its, r, ob, k _ _ (.inl rfl) e, c⟩
  | dK kvs => obtain ⟨z, y, vs, r, ob, es, ep, e, c⟩ := x; exact ⟨z, y, vs, r, ob, es, ep, k _ _ (.inl rfl) e, c⟩
  | dT kvs =>
    obtain ⟨z, y, xs, r, ob, es, ep, e, c⟩ := x
    exact ⟨z, y, xs, Paired.mapP r fun p q z => ⟨z.1, ht _ _ z.2.1, z.2.2⟩, ob, es, ep, k _ _ (.inl rfl) e, c⟩
  | set S n => obtain ⟨ob, es, ep, t, e, c⟩ := x; exact ⟨ob, es, ep, t, k _ _ (.inl rfl) e, c⟩
  | ins C dx fs =>
    obtain ⟨d, z, ne, e, mA, ⟨od, es, ep, e2, c⟩, r⟩ := x
    exact ⟨ho _ d, z, ne, k _ _ (.inl rfl) e, mA, ⟨od, es, ep, k _ _ (.inr d) e2, c⟩, r⟩
  | own y => obtain ⟨ob, e⟩ := x; exact ⟨ob, k _ _ (.inl rfl) e⟩
  | xd fs => obtain ⟨mA, ⟨od, es, ep, e, c⟩, r⟩ := x; exact ⟨mA, ⟨od, es, ep, k _ _ (.inl rfl) e, c⟩, r⟩
  | rng lo hi => obtain ⟨t, u, v, e⟩ := x; exact ⟨t, u, v, k _ _ (.inl rfl) e⟩
  | frz ob u ih => obtain ⟨e, q⟩ := x; exact ⟨k _ _ (.inl rfl) e, ih q⟩
  | tbl ps =>
    have e : h.get? a = some { cls := .none, data := .fields ps } := x
    show h'.get? a = some { cls := .none, data := .fields ps }
    exact k a _ (.inl rfl) e
  | met f y =>
    have e : h.get? a = some (PySem.W.methodObj (.ref f) (.ref y)) := x
    show h'.get? a = some (PySem.W.methodObj (.ref f) (.ref y))
    exact k a _ (.inl rfl) e
  | ext φ => obtain ⟨p, ⟨o, e⟩, st⟩ := x; exact ⟨st _ _ p fun o q => k _ _ (.inl rfl) q, ⟨o, k _ _ (.inl rfl) e⟩, st⟩
theorem HOk.lt (x : HOk P w H h) (e : H a = some o) : a < h.objs.size := (x a o e).lt
theorem HOk.fresh (x : HOk P w H h) (e : h.objs.size ≤ a) : H a = none := by
  cases q : H a with
  | none => rfl
  | some u => exact absurd (Nat.lt_of_lt_of_le (x.lt q) e) (Nat.lt_irrefl _)
theorem HOk.kept (x : HOk P w H h) (k : ∀ b u, h.get? b = some u → h'.get? b = some u) : HOk P w H h' := fun a o e =>
  (x a o e).stay (fun b u _ q => k b u q) (fun _ q => q) fun _ _ q => q
theorem HOk.laid (x : HOk P w H h) (k : ∀ b u, h.get? b = some u → h'.get? b = some u) (hp : h.objs.size ≤ a) (new : ObjOk P w (upd H a o) h' a o) : HOk P w (upd H a o) h' := fun b u e => by
  have hn := x.fresh hp
  by_cases hb : b = a
  · subst hb; rw [upd_same] at e; cases e; exact new
  · rw [upd_ne hb] at e
    exact (x b u e).stay (fun c v _ q => k c v q) (fun c q => by rw [upd_ne (ne_of_none q hn)]; exact q) fun c xs q => by rw [upd_ne (ne_of_none q hn)]; exact q
end
def Rd (H : Hp) (a : Addr) (u : HO) : Prop := H a = some u ∨ ∃ o, H a = some (.frz o u)
theorem Rd.ok {P : Program} {w : World} {H : Hp} {h : Heap} {a : Addr} {u : HO} (r : Rd H a u) (x : HOk P w H h) : ObjOk P w H h a u := by
  rcases r with r | ⟨o, r⟩
  · exact x a u r
  · obtain ⟨_, q⟩ := x a _ r
    exact q
def Mut : Option HO → Prop
  | some (.lst _) => True
  | some (.dK _) => True
  | some (.dT _) => True
  | some (.set _ _) => True
  | some (.ins _ _ _) => True
  | some (.ext _) => True
  | _ => False
section
variable {P : Program} {w : World} {H : Hp} {h h' : Heap} {x e : Addr} {o' : HO}
theorem HOk.write (ok : HOk P w H h) (mu : Mut (H x)) (he : e = x ∨ H e = some (.own x)) (k : ∀ b u, b ≠ e → h.get? b = some u → h'.get? b = some u) (heo : ∃ u, h'.get? e = some u)
    (new : ObjOk P w (upd H x o') h' x o') : HOk P w (upd H x o') h' := fun b u q => by
  have nown : ∀ c y, H c = some (.own y) → c ≠ x := fun c y r z => by subst z; rw [r] at mu; exact mu
  have ntup : ∀ c xs, H c = some (.tup xs) → c ≠ x := fun c xs r z => by subst z; rw [r] at mu; exact mu
  by_cases hb : b = x
  · subst hb; rw [upd_same] at q; cases q; exact new
  · rw [upd_ne hb] at q
    by_cases hbe : b = e
    · have q' : H b = some (.own x) := by
        rcases he with z | z
        · exact absurd (hbe.trans z) hb
        · rw [hbe]; exact z
      rw [q] at q'; cases q'
      obtain ⟨v, hv⟩ := heo
      exact ⟨v, by rw [hbe]; exact hv⟩
    · refine (ok b u q).stay (fun c v hc r => k c v ?_ r) (fun c r => by rw [upd_ne (nown c b r)]; exact r) fun c xs r => by rw [upd_ne (ntup c xs r)]; exact r
      rcases hc with rfl | hc
      · exact hbe
      · rintro rfl
        rcases he with z | z
        · exact nown c b hc z
        · rw [hc] at z; cases z; exact hb rfl
end
structure Un (fs ex : List Addr) (H H' : Hp) (h h' : Heap) : Prop where
  keep : ∀ b o, h.get? b = some o → H b = none → b ∉ fs → b ∉ ex → h'.get? b = some o
  slot : ∀ b o, h.get? b = some o → H b = none → b ∈ fs → b ∉ ex → ∃ sl, h'.get? b = some { o with slots := sl }
  free : ∀ b o, h.get? b = some o → H b = none → b ∉ ex → H' b = none
  there : ∀ b o, h.get? b = some o → b ∉ ex → ∃ o', h'.get? b = some o'
  tups : ∀ b xs, H b = some (.tup xs) → H' b = some (.tup xs)
  frzs : ∀ b o u, H b = some (.frz o u) → H' b = some (.frz o u)
  tbls : ∀ b ps, H b = some (.tbl ps) → ∃ more, H' b = some (.tbl (ps ++ more))
section
variable {fs fs' ex ex' : List Addr} {H H1 H2 : Hp} {h h1 h2 h' : Heap} {a x e : Addr} {o : HO}
theorem Un.any (u : Un fs ex H H1 h h1) {b : Addr} {ob : Obj} (q : h.get? b = some ob) (n : H b = none) (hx : b ∉ ex) : ∃ sl, h1.get? b = some { ob with slots := sl } := by
  by_cases hb : b ∈ fs
  · exact u.slot b ob q n hb hx
  · exact ⟨ob.slots, u.keep b ob q n hb hx⟩
theorem Un.trans (a : Un fs ex H H1 h h1) (b : Un fs ex H1 H2 h1 h2) : Un fs ex H H2 h h2 where
  keep := fun c ob q n hc hx => b.keep c ob (a.keep c ob q n hc hx) (a.free c ob q n hx) hc hx
  slot := fun c ob q n hc hx => by
    obtain ⟨sl, e1⟩ := a.slot c ob q n hc hx
    obtain ⟨sl', e2⟩ := b.slot c _ e1 (a.free c ob q n hx) hc hx
    exact ⟨sl', e2⟩
  free := fun c ob q n hx => by
    obtain ⟨o', e1⟩ := a.there c ob q hx
    exact b.free c o' e1 (a.free c ob q n hx) hx
  there := fun c ob q hx => by
    obtain ⟨o', e1⟩ := a.there c ob q hx
    exact b.there c o' e1 hx
  tups := fun c xs q => b.tups c xs (a.tups c xs q)
  frzs := fun c ob xs q => b.frzs c ob xs (a.frzs c ob xs q)
  tbls := fun c ps q => by
    obtain ⟨m1, e1⟩ := a.tbls c ps q
    obtain ⟨m2, e2⟩ := b.tbls c _ e1
    exact ⟨m1 ++ m2, by rw [e2, Array.append_assoc]⟩
theorem Un.kept (k : ∀ b u, h.get? b = some u → h'.get? b = some u) : Un fs ex H H h h' :=
  ⟨fun b ob q _ _ _ => k b ob q, fun b ob q _ _ _ => ⟨ob.slots, k b ob q⟩, fun _ _ _ n _ => n, fun b ob q _ => ⟨ob, k b ob q⟩, fun _ _ q => q, fun _ _ _ q => q, fun _ ps q => ⟨#[], by rw [q]; simp⟩⟩
theorem Un.refl : Un fs ex H H h h := Un.kept fun _ _ q => q
theorem Un.laid (k : ∀ b u, h.get? b = some u → h'.get? b = some u) (hp : h.objs.size ≤ a) (hn : H a = none) : Un fs ex H (upd H a o) h h' where
  keep := fun b u q _ _ _ => k b u q
  slot := fun b u q _ _ _ => ⟨u.slots, k b u q⟩
  free := fun b u q n _ => by rw [upd_ne (Nat.ne_of_lt (Nat.lt_of_lt_of_le (Heap.lt_size q) hp))]; exact n
  there := fun b u q _ => ⟨u, k b u q⟩
  tups := fun b xs q => by rw [upd_ne (ne_of_none q hn)]; exact q
  frzs := fun b u xs q => by rw [upd_ne (ne_of_none q hn)]; exact q
  tbls := fun b ps q => ⟨#[], by rw [upd_ne (ne_of_none q hn), q]; simp⟩
theorem Un.write (mu : Mut (H x)) (he : e = x ∨ H e = some (.own x)) (k : ∀ b u, b ≠ e → h.get? b = some u → h'.get? b = some u) (heo : ∃ u, h'.get? e = some u) : Un fs ex H (upd H x o) h h' := by
  have hx : ∀ b, H b = none → b ≠ x := fun b n z => by subst z; rw [n] at mu; exact mu
  have hb : ∀ b, H b = none → b ≠ e := fun b n z => by
    subst z
    rcases he with r | r
    · exact hx b n r
    · rw [n] at r; cases r
  have hm : ∀ b u, H b = some u → ¬ Mut (some u) → b ≠ x := fun b u q nm z => by subst z; rw [q] at mu; exact nm mu
  refine ⟨fun b u q n _ _ => k b u (hb b n) q, fun b u q n _ _ => ⟨u.slots, k b u (hb b n) q⟩, fun b u q n _ => by rw [upd_ne (hx b n)]; exact n, fun b u q _ => ?_,
    fun b xs q => by rw [upd_ne (hm b _ q fun z => z)]; exact q, fun b u xs q => by rw [upd_ne (hm b _ q fun z => z)]; exact q, fun b ps q => ⟨#[], by rw [upd_ne (hm b _ q fun z => z), q]; simp⟩⟩
  by_cases hbe : b = e
  · subst hbe; exact heo
  · exact ⟨u, k b u hbe q⟩
end
def trk (h : Heap) (H : Hp) : List Addr := (List.range h.objs.size).filter fun a => (H a).isSome
def hidT (h : Heap) (H : Hp) : Heap := PySem.W.hideAll h (trk h H)
theorem hidT_size (h : Heap) (H : Hp) : (hidT h H).objs.size = h.objs.size := PySem.W.hideAll_size _ _
theorem hidT_get {h : Heap} {H : Hp} {b : Addr} {o : Obj} (e : h.get? b = some o) (n : H b = none) : (hidT h H).get? b = some o :=
  PySem.W.hideAll_get _ e fun hm => by
    have q : (H b).isSome = true := (List.mem_filter.mp hm).2
    rw [n] at q; simp at q
theorem of_hidT {h : Heap} {H : Hp} {b : Addr} {o : Obj} (e : (hidT h H).get? b = some o) : h.get? b = some o ∧ H b = none := by
  have e' : h.get? b = some o := PySem.W.of_hideAll (trk h H) e
  refine ⟨e', ?_⟩
  cases q : H b with
  | none => rfl
  | some x =>
    have hm : b ∈ trk h H := List.mem_filter.mpr ⟨List.mem_range.mpr (Heap.lt_size e'), by simp [q]⟩
    have z : (hidT h H).get? b = none := PySem.W.hideAll_none (trk h H) hm
    rw [z] at e; cases e
end L2
namespace L2
open PySem PySem.Spec PyProof.Rows
structure Mod (K : PySem.W.Frag) (mg : Str → Option Value) (base : Heap) : Prop where
  kin : K.In base
  glob : base.Ns mainGlobals mg
  blt : ∃ mb, base.Ns builtinsNs mb ∧ ∀ x : Str, x ≠ "__name__" → mb x = bootBuiltins x
  nolimit : base.NoLimit
structure Cx where
  prog : Program
  w : World
  K : PySem.W.Frag
  mg : Str → Option Value
  base : Heap
  A : Around
  N : List Str
  s₀ : Shared
  H₀ : Hp
  env : Env
  outer : List Env
  stack : List Env
  ex : List Addr
  fn : Str → Bool
  calm : Bool
  pn : List (Addr × Obj)
  xe : Value → Shared → Prop
def frs (l : List Env) : List Addr := l.filterMap (·.frame)
abbrev Cx.fs (X : Cx) : List Addr := frs X.outer
def Vis (sc : Scope) (x : Str) : Prop := sc.names.lookup x = some .local ∨ sc.names.lookup x = some .cell ∨ sc.names.lookup x = some .free
def Loc (sc : Scope) (x : Str) : Prop := sc.names.lookup x = some .local ∨ sc.names.lookup x = some .cell
def Look (env : Env) (h : Heap) (m : Str → Option Value) (x : Str) (u : Value) : Prop :=
  (env.kindOf x = some .local ∧ m x = some u) ∨ ((env.kindOf x = some .cell ∨ env.kindOf x = some .free) ∧ ∃ c, env.cells.lookup x = some c ∧ h.IsCell c (some u))
structure Cx.Ok (X : Cx) : Prop where
  mod : Mod X.K X.mg X.base
  kind : X.env.scope.kind = .function
  glob : X.env.globals = mainGlobals
  blt : X.env.builtins = builtinsNs
  above : X.s₀.heap.objs.size ≤ X.env.locals
  inj : ∀ x y c, X.env.cells.lookup x = some c → X.env.cells.lookup y = some c → x = y
  has : ∀ x, (X.env.kindOf x = some .cell ∨ X.env.kindOf x = some .free) → ∃ c, X.env.cells.lookup x = some c
  cab : ∀ x c, X.fn x = true → X.env.cells.lookup x = some c → X.s₀.heap.objs.size ≤ c
  hd : X.calm = true → X.A.handled = none
  frames : X.A.frames = some X.stack
  stk : X.stack = X.outer ∨ (X.stack = X.env :: X.outer ∧ X.env.frame = some X.env.locals)
  exf : ∀ b ∈ X.ex, b ≠ X.env.locals ∧ ∀ x c, X.env.cells.lookup x = some c → c ≠ b
  bs : ∀ b o, X.base.get? b = some o → X.s₀.heap.get? b = some o ∧ X.H₀ b = none
  bsz : X.base.objs.size ≤ X.s₀.heap.objs.size
  noex : ∀ b o, X.base.get? b = some o → b ∉ X.ex
  exfs : ∀ b ∈ X.ex, b ∉ X.fs
  funs : X.s₀.heap.FunFrames X.base X.outer
  frf : ∀ b ∈ X.fs, X.H₀ b = none
structure Inv (X : Cx) (pins : List (Addr × Obj)) (σ : List (Option V)) (H : Hp) (s : Shared) : Prop where
  ok : X.Ok
  os : s.os = X.s₀.os
  bare : AllBare s.gens
  base : Un X.fs X.ex X.H₀ H X.s₀.heap s.heap
  loc : ∃ m, s.heap.Ns X.env.locals m ∧ ∀ (i : Nat) (x : Str) (v : V), X.N[i]? = some x → σ[i]? = some (some v) → Vis X.env.scope x → ∃ u, RelV v u ∧ Look X.env s.heap m x u
  cell : ∀ x c, X.env.cells.lookup x = some c → ∃ v, s.heap.IsCell c v
  free : H X.env.locals = none
  freeC : ∀ x c, X.env.cells.lookup x = some c → H c = none
  pin : ∀ p ∈ X.pn ++ pins, s.heap.get? p.1 = some p.2 ∧ H p.1 = none ∧ p.1 ≠ X.env.locals ∧ p.1 ∉ X.fs ∧ ∀ v, p.2.data ≠ .cell v
  hok : HOk X.prog X.w H s.heap
  len : σ.length = X.N.length
section
variable {X : Cx} {pins : List (Addr × Obj)} {σ : List (Option V)} {H H' : Hp} {s : Shared} {h' : Heap}
theorem Cx.Ok.nofr (ok : X.Ok) {b : Addr} {o : Obj} (e : X.base.get? b = some o) : b ∉ X.fs := fun hb => by
  have := (ok.funs.mem hb).1
  rw [e] at this; cases this
theorem Inv.bs (I : Inv X pins σ H s) : ∀ b o, X.base.get? b = some o → s.heap.get? b = some o ∧ H b = none := fun b o e =>
  ⟨I.base.keep b o (I.ok.bs b o e).1 (I.ok.bs b o e).2 (I.ok.nofr e) (I.ok.noex b o e), I.base.free b o (I.ok.bs b o e).1 (I.ok.bs b o e).2 (I.ok.noex b o e)⟩
theorem Inv.bk (I : Inv X pins σ H s) : ∀ b o, X.base.get? b = some o → s.heap.get? b = some o := fun b o e => (I.bs b o e).1
theorem Inv.mod (I : Inv X pins σ H s) : Mod X.K X.mg X.base := I.ok.mod
theorem Inv.kIn (I : Inv X pins σ H s) : X.K.In s.heap := I.ok.mod.kin.keeps I.bk
theorem Inv.lt (I : Inv X pins σ H s) : X.env.locals < s.heap.objs.size := let ⟨_, hn, _⟩ := I.loc; hn.lt
theorem Inv.sz (I : Inv X pins σ H s) : X.s₀.heap.objs.size ≤ s.heap.objs.size := Nat.le_trans I.ok.above (Nat.le_of_lt I.lt)
theorem Inv.nofs (I : Inv X pins σ H s) {a : Addr} (h : s.heap.objs.size ≤ a) : a ∉ X.fs := fun hb => by
  obtain ⟨_, o, ho, _⟩ := I.ok.funs.mem hb
  exact absurd (Nat.lt_of_lt_of_le (Heap.lt_size ho) (Nat.le_trans I.sz h)) (Nat.lt_irrefl _)
theorem Inv.cne (I : Inv X pins σ H s) : ∀ x c, X.env.cells.lookup x = some c → c ≠ X.env.locals := fun x c e z => by
  obtain ⟨v, o, ho, hd⟩ := I.cell x c e
  obtain ⟨m, ⟨o', es, ep, ho', hd', _⟩, _⟩ := I.loc
  rw [z, ho'] at ho; cases ho; rw [hd'] at hd; cases hd
theorem Inv.funs (I : Inv X pins σ H s) : s.heap.FunFrames X.base X.outer := by
  have all : ∀ (l : List Env), (∀ b ∈ frs l, b ∈ X.fs) → X.s₀.heap.FunFrames X.base l → s.heap.FunFrames X.base l := by
    intro l
    induction l with
    | nil => intro _ _; trivial
    | cons env r ih =>
      intro hs hl
      obtain ⟨hk, ⟨L, o, hf, hn, ho, hd⟩, hr⟩ := hl
      have hL : L ∈ X.fs := hs L (by unfold frs; rw [List.filterMap_cons, hf]; exact List.mem_cons_self)
      obtain ⟨sl, e⟩ := I.base.slot L o ho (I.ok.frf L hL) hL fun z => I.ok.exfs L z hL
      exact ⟨hk, ⟨L, _, hf, hn, e, hd⟩, ih (fun b hb => hs b (by unfold frs; rw [List.filterMap_cons, hf]; exact List.mem_cons_of_mem _ hb)) hr⟩
  exact all X.outer (fun _ hb => hb) I.ok.funs
theorem Inv.stack (I : Inv X pins σ H s) : s.heap.FunFrames X.base X.stack := by
  rcases I.ok.stk with e | ⟨e, hf⟩
  · rw [e]; exact I.funs
  · rw [e]
    obtain ⟨m, hn, _⟩ := I.loc
    refine .cons (by rw [I.ok.kind]; decide) hf hn ?_ I.funs
    exact Heap.get?_none_of_le (Nat.le_trans I.ok.bsz I.ok.above)
theorem Inv.stkSub (I : Inv X pins σ H s) : ∀ b ∈ frs X.stack, b ∈ X.env.locals :: X.fs := fun b hb => by
  rcases I.ok.stk with e | ⟨e, hf⟩
  · rw [e] at hb; exact List.mem_cons_of_mem _ hb
  · rw [e] at hb
    unfold frs at hb
    rw [List.filterMap_cons, hf] at hb
    exact hb
theorem Inv.stkFree (I : Inv X pins σ H s) : ∀ b ∈ frs X.stack, H b = none := fun b hb => by
  rcases List.mem_cons.mp (I.stkSub b hb) with e | hb
  · rw [e]; exact I.free
  · obtain ⟨_, o, ho, _⟩ := I.ok.funs.mem hb
    exact I.base.free b o ho (I.ok.frf b hb) fun z => I.ok.exfs b z hb
theorem Inv.step {g' : Array GenState} {t' : Nat} {d' : Drawn} {ch : List Addr} (I : Inv X pins σ H s)
    (hch : ∀ b ∈ ch, (b ∈ X.ex ∨ X.s₀.heap.objs.size ≤ b) ∧ b ≠ X.env.locals ∧ (∀ x c, X.env.cells.lookup x = some c → c ≠ b) ∧ ∀ p ∈ X.pn ++ pins, p.1 ≠ b)
    (keep : ∀ b o, b ≠ X.env.locals → b ∉ X.fs → b ∉ ch → s.heap.get? b = some o → H b = none → h'.get? b = some o)
    (slot : ∀ b o, b ≠ X.env.locals → b ∈ X.fs → b ∉ ch → s.heap.get? b = some o → H b = none → ∃ sl, h'.get? b = some { o with slots := sl }) (free : ∀ b o, b ∉ ch → s.heap.get? b = some o → H b = none → H' b = none)
    (there : ∀ b o, b ∉ ch → s.heap.get? b = some o → ∃ o', h'.get? b = some o')
    (tups : ∀ b xs, H b = some (.tup xs) → H' b = some (.tup xs)) (frzs : ∀ b o u, H b = some (.frz o u) → H' b = some (.frz o u)) (tbls : ∀ b ps, H b = some (.tbl ps) → ∃ more, H' b = some (.tbl (ps ++ more)))
    (ns : ∀ m, s.heap.Ns X.env.locals m → h'.Ns X.env.locals m) (hok : HOk X.prog X.w H' h') (hg : AllBare g') :
    Inv X pins σ H' { s with heap := h', gens := g', drawn := d', toks := t' } := by
  have neL : ∀ b o, X.s₀.heap.get? b = some o → b ≠ X.env.locals := fun b o e => Nat.ne_of_lt (Nat.lt_of_lt_of_le (Heap.lt_size e) I.ok.above)
  have neC : ∀ b o, X.s₀.heap.get? b = some o → b ∉ X.ex → b ∉ ch := fun b o e hx hb => by
    rcases (hch b hb).1 with z | z
    · exact hx z
    · exact absurd (Nat.lt_of_lt_of_le (Heap.lt_size e) z) (Nat.lt_irrefl _)
  have cellK : ∀ x c, X.env.cells.lookup x = some c → ∀ v, s.heap.IsCell c v → h'.IsCell c v := fun x c e v ⟨o, ho, hd⟩ => by
    have nch : c ∉ ch := fun z => (hch c z).2.2.1 x c e rfl
    by_cases hc : c ∈ X.fs
    · obtain ⟨sl, q⟩ := slot c o (I.cne x c e) hc nch ho (I.freeC x c e)
      exact ⟨_, q, hd⟩
    · exact ⟨o, keep c o (I.cne x c e) hc nch ho (I.freeC x c e), hd⟩
  refine ⟨I.ok, I.os, hg, ⟨fun b o e n hb hx => ?_, fun b o e n hb hx => ?_, fun b o e n hx => ?_, fun b o e hx => ?_, fun b xs e => tups b xs (I.base.tups b xs e), fun b o xs e => frzs b o xs (I.base.frzs b o xs e), fun b ps e => ?_⟩, ?_, fun x c e => ?_, ?_, fun x c e => ?_, fun p hp => ?_, hok, I.len⟩
  · exact keep b o (neL b o e) hb (neC b o e hx) (I.base.keep b o e n hb hx) (I.base.free b o e n hx)
  · obtain ⟨sl, e1⟩ := I.base.slot b o e n hb hx
    obtain ⟨sl', e2⟩ := slot b _ (neL b o e) hb (neC b o e hx) e1 (I.base.free b o e n hx)
    exact ⟨sl', e2⟩
  · obtain ⟨o', e1⟩ := I.base.there b o e hx
    exact free b o' (neC b o e hx) e1 (I.base.free b o e n hx)
  · obtain ⟨o', e1⟩ := I.base.there b o e hx
    exact there b o' (neC b o e hx) e1
  · obtain ⟨m1, e1⟩ := I.base.tbls b ps e
    obtain ⟨m2, e2⟩ := tbls b _ e1
    exact ⟨m1 ++ m2, by rw [e2, Array.append_assoc]⟩
  · obtain ⟨m, hn, hl⟩ := I.loc
    refine ⟨m, ns m hn, fun i x v e1 e2 e3 => ?_⟩
    obtain ⟨u, r, l⟩ := hl i x v e1 e2 e3
    refine ⟨u, r, ?_⟩
    rcases l with l | ⟨k, c, e, z⟩
    · exact .inl l
    · exact .inr ⟨k, c, e, cellK x c e _ z⟩
  · obtain ⟨v, z⟩ := I.cell x c e
    exact ⟨v, cellK x c e v z⟩
  · obtain ⟨m, ⟨o, _, _, ho, _⟩, _⟩ := I.loc
    exact free _ o (fun z => (hch _ z).2.1 rfl) ho I.free
  · obtain ⟨v, o, ho, hd⟩ := I.cell x c e
    exact free c o (fun z => (hch c z).2.2.1 x c e rfl) ho (I.freeC x c e)
  · obtain ⟨e, n, ne, nf, d⟩ := I.pin p hp
    have nch : p.1 ∉ ch := fun z => (hch p.1 z).2.2.2 p hp rfl
    exact ⟨keep p.1 p.2 ne nf nch e n, free p.1 p.2 nch e n, ne, nf, d⟩
theorem Inv.un {t' : Nat} (I : Inv X pins σ H s) (u : Un X.fs [] H H' s.heap h') (hok : HOk X.prog X.w H' h') : Inv X pins σ H' { s with heap := h', toks := t' } := by
  obtain ⟨m, ⟨o, es, ep, ho, r⟩, _⟩ := id I.loc
  obtain ⟨sl, hL⟩ := u.any ho I.free (by simp)
  exact I.step (g' := s.gens) (d' := s.drawn) (ch := []) (fun _ z => nomatch z) (fun b o _ hb _ e n => u.keep b o e n hb (by simp)) (fun b o _ hb _ e n => u.slot b o e n hb (by simp)) (fun b o _ e n => u.free b o e n (by simp)) (fun b o _ e => u.there b o e (by simp)) u.tups u.frzs u.tbls (fun m' hm => by
    obtain ⟨o', es', ep', ho', r'⟩ := hm
    rw [ho] at ho'; cases ho'
    exact ⟨_, es', ep', hL, r'⟩) hok I.bare
theorem Inv.call {g' : Array GenState} {t' : Nat} {d' : Drawn} {ch : List Addr} (I : Inv X pins σ H s) (u : Un (frs X.stack) ch H H' s.heap h') (hok : HOk X.prog X.w H' h') (hg : AllBare g')
    (hch : ∀ b ∈ ch, (b ∈ X.ex ∨ X.s₀.heap.objs.size ≤ b) ∧ b ≠ X.env.locals ∧ (∀ x c, X.env.cells.lookup x = some c → c ≠ b) ∧ ∀ p ∈ X.pn ++ pins, p.1 ≠ b) :
    Inv X pins σ H' { s with heap := h', gens := g', drawn := d', toks := t' } := by
  obtain ⟨m, ⟨o, es, ep, ho, r⟩, _⟩ := id I.loc
  obtain ⟨sl, hL⟩ := u.any ho I.free fun z => (hch _ z).2.1 rfl
  exact I.step (ch := ch) hch (fun b o hL hb hc e n => u.keep b o e n (fun z => (List.mem_cons.mp (I.stkSub b z)).elim hL hb) hc) (fun b o _ _ hc e n => u.any e n hc) (fun b o hc e n => u.free b o e n hc) (fun b o hc e => u.there b o e hc) u.tups u.frzs u.tbls (fun m' hm => by
    obtain ⟨o', es', ep', ho', r'⟩ := hm
    rw [ho] at ho'; cases ho'
    exact ⟨_, es', ep', hL, r'⟩) hok hg
theorem Inv.turned {t' : Nat} {it : Addr} (I : Inv X pins σ H s) (k : ∀ b o, b ≠ it → s.heap.get? b = some o → h'.get? b = some o) (hn : H it = none) (hL : it ≠ X.env.locals)
    (h1 : it ∈ X.ex ∨ X.s₀.heap.objs.size ≤ it) (h2 : ∀ x c, X.env.cells.lookup x = some c → c ≠ it) (h3 : ∀ p ∈ X.pn ++ pins, p.1 ≠ it) : Inv X pins σ H { s with heap := h', toks := t' } := by
  have nit : ∀ b u, H b = some u → b ≠ it := fun b u e z => by rw [z, hn] at e; cases e
  refine I.step (g' := s.gens) (d' := s.drawn) (ch := [it]) (fun b hb => ?_) (fun b o _ _ hc e _ => k b o (fun z => hc (by simp [z])) e) (fun b o _ _ hc e _ => ⟨o.slots, k b o (fun z => hc (by simp [z])) e⟩) (fun _ _ _ _ n => n)
    (fun b o hc e => ⟨o, k b o (fun z => hc (by simp [z])) e⟩) (fun _ _ e => e) (fun _ _ _ e => e) (fun b ps e => ⟨#[], by rw [e]; simp⟩) (fun m hm => ?_) (fun b u e => ?_) I.bare
  · have e : b = it := by simpa using hb
    subst e
    exact ⟨h1, hL, h2, h3⟩
  · obtain ⟨o, es, ep, ho, r⟩ := hm
    exact ⟨o, es, ep, k _ o (Ne.symm hL) ho, r⟩
  · refine (I.hok b u e).stay (fun c v hc q => k c v ?_ q) (fun _ q => q) fun _ _ q => q
    rcases hc with z | z
    · rw [z]; exact nit b u e
    · exact nit c _ z
theorem Inv.tok (I : Inv X pins σ H s) (t : Nat) : Inv X pins σ H { s with toks := t } := I.un (h' := s.heap) (t' := t) Un.refl I.hok
theorem Inv.kept {t' : Nat} (I : Inv X pins σ H s) (k : ∀ b u, s.heap.get? b = some u → h'.get? b = some u) : Inv X pins σ H { s with heap := h', toks := t' } := I.un (Un.kept k) (I.hok.kept k)
theorem Inv.laid {a : Addr} {o : HO} {t' : Nat} (I : Inv X pins σ H s) (k : ∀ b u, s.heap.get? b = some u → h'.get? b = some u) (hp : s.heap.objs.size ≤ a) (new : ObjOk X.prog X.w (upd H a o) h' a o) :
    Inv X pins σ (upd H a o) { s with heap := h', toks := t' } := I.un (Un.laid k hp (I.hok.fresh hp)) (I.hok.laid k hp new)
theorem Inv.write {x e : Addr} {o : HO} {t' : Nat} (I : Inv X pins σ H s) (mu : Mut (H x)) (he : e = x ∨ H e = some (.own x)) (k : ∀ b u, b ≠ e → s.heap.get? b = some u → h'.get? b = some u) (heo : ∃ u, h'.get? e = some u)
    (new : ObjOk X.prog X.w (upd H x o) h' x o) : Inv X pins σ (upd H x o) { s with heap := h', toks := t' } := I.un (Un.write mu he k heo) (I.hok.write mu he k heo new)
theorem Inv.pins_of {pins' : List (Addr × Obj)} (I : Inv X pins σ H s) (h : ∀ p ∈ pins', s.heap.get? p.1 = some p.2 ∧ H p.1 = none ∧ p.1 ≠ X.env.locals ∧ p.1 ∉ X.fs ∧ ∀ v, p.2.data ≠ .cell v) : Inv X pins' σ H s :=
  ⟨I.ok, I.os, I.bare, I.base, I.loc, I.cell, I.free, I.freeC, fun p hp => (List.mem_append.mp hp).elim (fun z => I.pin p (List.mem_append_left _ z)) (h p), I.hok, I.len⟩
theorem nodup_ix {N : List Str} (hN : N.Nodup) {i j : Nat} {x : Str} (a : N[i]? = some x) (b : N[j]? = some x) : i = j := by
  obtain ⟨h1, e1⟩ := List.getElem?_eq_some_iff.mp a
  obtain ⟨h2, e2⟩ := List.getElem?_eq_some_iff.mp b
  exact (List.getElem_inj hN).mp (e1.trans e2.symm)
theorem store_ok2 {M : Model} {A : Around} {E : Value → Shared → Prop} {i : Nat} {x : Str} {v : V} {u : Value} {Q : Unit → Shared → Prop} (I : Inv X pins σ H s) (hN : X.N.Nodup) (hi : X.N[i]? = some x) (hx : Loc X.env.scope x) (r : RelV v u)
    (h : ∀ s', Inv X pins (σ.set i (some v)) H s' → (∃ a, Heap.SameBut a s.heap s'.heap ∧ (a = X.env.locals ∨ X.env.cells.lookup x = some a)) → Q () s') (hf : X.fn x = true ∨ X.env.scope.names.lookup x = some .local := by first | exact .inl rfl | exact .inr rfl | assumption) : wpAny M A (storeName X.env x u) Q E s := by
  obtain ⟨m, hn, hl⟩ := id I.loc
  have hcls : (X.env.scope.kind == .class || (X.env.scope.kind == .module && X.env.locals != X.env.globals)) = false := by rw [I.ok.kind]; rfl
  have hiσ : i < σ.length := by rw [I.len]; exact (List.getElem?_eq_some_iff.mp hi).1
  have cne := I.cne
  have tracked : ∀ {a : Addr} {h' : Heap}, (∃ o, s.heap.get? a = some o ∧ H a = none) → Heap.SameBut a s.heap h' → HOk X.prog X.w H h' := fun {a h'} ha hs b ob e => by
    obtain ⟨_, _, hfree⟩ := ha
    refine (I.hok b ob e).stay (fun c w' hc q => (hs.2 c ?_).trans q) (fun _ q => q) fun _ _ q => q
    rintro rfl
    rcases hc with rfl | hc
    · rw [hfree] at e; cases e
    · rw [hfree] at hc; cases hc
  rcases hx with hk | hk
  · refine wpAny_storeName_local hk hn (fun h' hn' hs => ?_) hcls
    obtain ⟨oL, _, _, hoL, _⟩ := id hn
    refine h _ ⟨I.ok, I.os, I.bare, ⟨fun b o e n hb hx => ?_, fun b o e n hb hx => ?_, I.base.free, fun b o e hx => ?_, I.base.tups, I.base.frzs, I.base.tbls⟩, ⟨_, hn', fun j y v' e1 e2 e3 => ?_⟩, fun y c e => ?_, I.free, I.freeC, fun p hp => ?_, tracked ⟨oL, hoL, I.free⟩ hs, by simpa using I.len⟩ ⟨_, hs, .inl rfl⟩
    · exact (hs.2 b (Nat.ne_of_lt (Nat.lt_of_lt_of_le (Heap.lt_size e) I.ok.above))).trans (I.base.keep b o e n hb hx)
    · obtain ⟨sl, e1⟩ := I.base.slot b o e n hb hx
      exact ⟨sl, (hs.2 b (Nat.ne_of_lt (Nat.lt_of_lt_of_le (Heap.lt_size e) I.ok.above))).trans e1⟩
    · obtain ⟨o', e1⟩ := I.base.there b o e hx
      exact ⟨o', (hs.2 b (Nat.ne_of_lt (Nat.lt_of_lt_of_le (Heap.lt_size e) I.ok.above))).trans e1⟩
    · by_cases hj : j = i
      · subst hj
        rw [hi] at e1; cases e1
        rw [List.getElem?_set_self hiσ] at e2
        cases e2
        exact ⟨u, r, .inl ⟨hk, by simp⟩⟩
      · rw [List.getElem?_set_ne (Ne.symm hj)] at e2
        obtain ⟨u', r', q⟩ := hl j y v' e1 e2 e3
        refine ⟨u', r', ?_⟩
        rcases q with ⟨k, e⟩ | ⟨k, c, e, z⟩
        · refine .inl ⟨k, ?_⟩
          have : y ≠ x := fun e => hj (nodup_ix hN e1 (e ▸ hi))
          simp [this, e]
        · exact .inr ⟨k, c, e, z.sameBut hs (cne y c e)⟩
    · obtain ⟨w', z⟩ := I.cell y c e
      exact ⟨w', z.sameBut hs (cne y c e)⟩
    · obtain ⟨e, n, ne, nf, d⟩ := I.pin p hp
      exact ⟨(hs.2 p.1 ne).trans e, n, ne, nf, d⟩
  · have hfn : X.fn x = true := by
      rcases hf with z | z
      · exact z
      · rw [z] at hk; cases hk
    obtain ⟨c, hc⟩ := I.ok.has x (.inl hk)
    obtain ⟨w', z⟩ := I.cell x c hc
    refine wpAny_storeName_cell I.ok.kind hk hc z (fun h' hc' hs => ?_)
    obtain ⟨oc, hoc, hocd⟩ := id z
    refine h { s with heap := h' } ⟨I.ok, I.os, I.bare, ⟨fun b o e n hb hx => ?_, fun b o e n hb hx => ?_, I.base.free, fun b o e hx => ?_, I.base.tups, I.base.frzs, I.base.tbls⟩, ⟨m, hn.sameBut hs (Ne.symm (cne x c hc)), fun j y v' e1 e2 e3 => ?_⟩, fun y c' e => ?_, I.free, I.freeC, fun p hp => ?_, tracked ⟨oc, hoc, I.freeC x c hc⟩ hs, by simpa using I.len⟩ ⟨c, hs, .inr hc⟩
    · exact (hs.2 b (Nat.ne_of_lt (Nat.lt_of_lt_of_le (Heap.lt_size e) (I.ok.cab x c hfn hc)))).trans (I.base.keep b o e n hb hx)
    · obtain ⟨sl, e1⟩ := I.base.slot b o e n hb hx
      exact ⟨sl, (hs.2 b (Nat.ne_of_lt (Nat.lt_of_lt_of_le (Heap.lt_size e) (I.ok.cab x c hfn hc)))).trans e1⟩
    · obtain ⟨o', e1⟩ := I.base.there b o e hx
      exact ⟨o', (hs.2 b (Nat.ne_of_lt (Nat.lt_of_lt_of_le (Heap.lt_size e) (I.ok.cab x c hfn hc)))).trans e1⟩
    · by_cases hj : j = i
      · subst hj
        rw [hi] at e1; cases e1
        rw [List.getElem?_set_self hiσ] at e2
        cases e2
        exact ⟨u, r, .inr ⟨.inl hk, c, hc, hc'⟩⟩
      · rw [List.getElem?_set_ne (Ne.symm hj)] at e2
        obtain ⟨u', r', q⟩ := hl j y v' e1 e2 e3
        refine ⟨u', r', ?_⟩
        rcases q with q | ⟨k, c', e, z'⟩
        · exact .inl q
        · refine .inr ⟨k, c', e, z'.sameBut hs ?_⟩
          rintro rfl
          exact hj (nodup_ix hN e1 (I.ok.inj _ _ _ e hc ▸ hi))
    · by_cases hcc : c' = c
      · subst hcc; exact ⟨_, hc'⟩
      · obtain ⟨w2, z2⟩ := I.cell y c' e
        exact ⟨w2, z2.sameBut hs hcc⟩
    · obtain ⟨e, n, ne, nf, d⟩ := I.pin p hp
      refine ⟨(hs.2 p.1 ?_).trans e, n, ne, nf, d⟩
      intro q
      rw [q, hoc] at e
      have q' : oc = p.2 := Option.some.inj e
      exact d w' (by rw [← q']; exact hocd)
theorem store_ok {M : Model} {A : Around} {E : Value → Shared → Prop} {i : Nat} {x : Str} {v : V} {u : Value} {Q : Unit → Shared → Prop} (I : Inv X pins σ H s) (hN : X.N.Nodup) (hi : X.N[i]? = some x) (hx : Loc X.env.scope x) (r : RelV v u)
    (h : ∀ s', Inv X pins (σ.set i (some v)) H s' → Q () s') (hf : X.fn x = true ∨ X.env.scope.names.lookup x = some .local := by first | exact .inl rfl | exact .inr rfl | assumption) : wpAny M A (storeName X.env x u) Q E s :=
  store_ok2 I hN hi hx r (fun s' I' _ => h s' I') hf
theorem Inv.call' {s' : Shared} {ch : List Addr} (I : Inv X pins σ H s) (ho : s'.os = s.os) (u : Un (frs X.stack) ch H H' s.heap s'.heap) (hok : HOk X.prog X.w H' s'.heap) (hg : AllBare s'.gens)
    (hch : ∀ b ∈ ch, (b ∈ X.ex ∨ X.s₀.heap.objs.size ≤ b) ∧ b ≠ X.env.locals ∧ (∀ x c, X.env.cells.lookup x = some c → c ≠ b) ∧ ∀ p ∈ X.pn ++ pins, p.1 ≠ b) : Inv X pins σ H' s' := by
  obtain ⟨h', g', d', t', o'⟩ := s'
  have e : o' = s.os := ho
  subst e
  exact I.call (g' := g') (t' := t') (d' := d') u hok hg hch
end
abbrev XK := Value → Option Addr → Hp → Prop
abbrev St := List (Option V)
abbrev VK := V → Hp → Prop
abbrev TE := St → Hp → VK → Prop
abbrev TT := St → Hp → (Bool → Hp → Prop) → Prop
abbrev TA := St → Hp → (List V → Hp → Prop) → Prop
structure Ends where
  nx : St → Hp → Prop
  rt : VK
  bk : St → Hp → Prop := fun _ _ => False
  ct : St → Hp → Prop := fun _ _ => False
abbrev TS := Ends → St → Hp → Prop
def EP (X : Cx) (pins : List (Addr × Obj)) (σ : St) (Q : VK) (u : Value) (s' : Shared) : Prop := ∃ v H', Inv X pins σ H' s' ∧ RelV v u ∧ Q v H'
def TP (X : Cx) (pins : List (Addr × Obj)) (σ : St) (Q : Bool → Hp → Prop) (b : Bool) (s' : Shared) : Prop := ∃ H', Inv X pins σ H' s' ∧ Q b H'
def AP (X : Cx) (pins : List (Addr × Obj)) (σ : St) (Q : List V → Hp → Prop) (us : List Value) (s' : Shared) : Prop := ∃ vs H', Inv X pins σ H' s' ∧ Vals vs us ∧ Q vs H'
def SP (X : Cx) (pins : List (Addr × Obj)) (D : Ends) (f : Flow) (s' : Shared) : Prop :=
  match f with
  | .next => ∃ σ' H', Inv X pins σ' H' s' ∧ D.nx σ' H'
  | .brk => ∃ σ' H', Inv X pins σ' H' s' ∧ D.bk σ' H'
  | .cont => ∃ σ' H', Inv X pins σ' H' s' ∧ D.ct σ' H'
  | .ret u => ∃ v σ' H', Inv X pins σ' H' s' ∧ RelV v u ∧ D.rt v H'
def PE (X : Cx) (e : Expr) (t : TE) : Prop :=
  ∀ (pins : List (Addr × Obj)) (s : Shared) (σ : St) (H : Hp) (Q : VK), Inv X pins σ H s → t σ H Q → wpAny (model X.prog X.w) X.A (eval e X.env) (EP X pins σ Q) X.xe s
def PT (X : Cx) (e : Expr) (t : TT) : Prop :=
  ∀ (pins : List (Addr × Obj)) (s : Shared) (σ : St) (H : Hp) (Q : Bool → Hp → Prop), Inv X pins σ H s → t σ H Q → wpAny (model X.prog X.w) X.A (isTrue e X.env (eval e X.env)) (TP X pins σ Q) X.xe s
def PW (X : Cx) (e : Expr) (t : TT) : Prop :=
  ∀ (whole : Sem Value) (pins : List (Addr × Obj)) (s : Shared) (σ : St) (H : Hp) (Q : Bool → Hp → Prop), Inv X pins σ H s → t σ H Q → wpAny (model X.prog X.w) X.A (isTrue e X.env whole) (TP X pins σ Q) X.xe s
theorem PW.pt {X : Cx} {e : Expr} {t : TT} (h : PW X e t) : PT X e t := h _
def PA (X : Cx) (es : List Expr) (t : TA) : Prop :=
  ∀ (pos : Pos) (pins : List (Addr × Obj)) (s : Shared) (σ : St) (H : Hp) (Q : List V → Hp → Prop), Inv X pins σ H s → t σ H Q → wpAny (model X.prog X.w) X.A (spliced (backTo pos (starEach es X.env))) (AP X pins σ Q) X.xe s
def PS (X : Cx) (st : Stmt) (t : TS) : Prop :=
  ∀ (pins : List (Addr × Obj)) (s : Shared) (σ : St) (H : Hp) (D : Ends), Inv X pins σ H s → t D σ H → wpAny (model X.prog X.w) X.A (exec st X.env) (SP X pins D) X.xe s
def PSs (X : Cx) (st : List Stmt) (t : TS) : Prop :=
  ∀ (pins : List (Addr × Obj)) (s : Shared) (σ : St) (H : Hp) (D : Ends), Inv X pins σ H s → t D σ H → wpAny (model X.prog X.w) X.A (execs st X.env) (SP X pins D) X.xe s
theorem thn {α : Type} {t : Sem α} {Q Q' : α → Shared → Prop} {M : Model} {A : Around} {E : Value → Shared → Prop} {s : Shared} (h : wpAny M A t Q E s) (hQ : ∀ a s, Q a s → Q' a s) : wpAny M A t Q' E s := wpAny_mono h hQ fun _ _ x => x
end L2
namespace L2
open PySem PySem.Spec PyProof.Rows
section
variable {X : Cx}
def tVar (i : Nat) : TE := fun σ H Q => ∃ v, σ[i]? = some (some v) ∧ Q v H
def tC (v : V) : TE := fun _ H Q => Q v H
theorem pe_var {i : Nat} {x : Str} {pos : Pos} (hN : X.N[i]? = some x) (hv : Vis X.env.scope x) (hd : (x == ("__debug__" : Str)) = false := by decide) (hcd : (x == ("__classdict__" : Str)) = false := by decide) : PE X (.Name x pos) (tVar i) := by
  intro pins s σ H Q I h
  obtain ⟨v, e, h⟩ := h
  obtain ⟨m, hn, hl⟩ := I.loc
  obtain ⟨u, r, l⟩ := hl i x v hN e hv
  have fin : EP X pins σ Q u s := ⟨v, H, I, r, h⟩
  rcases l with ⟨hk, hm⟩ | ⟨hk, c, hc, hcell⟩
  · exact wpAny_Name (wpAny_loadName_local I.ok.kind hk hn hm fin) hd
  · rcases hk with hk | hk
    · exact wpAny_Name (wpAny_loadName_cell I.ok.kind hk hc hcell fin) hd
    · exact wpAny_Name (wpAny_loadName_free I.ok.kind hk hc hcell fin hcd) hd
theorem pe_int {i j pos} : PE X (.Constant (.int i) j pos) (tC (.int i)) := fun _ _ _ H _ I h => wpAny_Constant_int ⟨.int i, H, I.tok _, ⟨_, rfl⟩, h⟩
theorem pe_bl {b j pos} : PE X (.Constant (.bool b) j pos) (tC (.bl b)) := fun _ _ _ H _ I h => Constant_bool ⟨.bl b, H, I, rfl, h⟩
theorem pe_non {j pos} : PE X (.Constant .none j pos) (tC .non) := fun _ _ _ H _ I h => Constant_none ⟨.non, H, I, rfl, h⟩
def Gl (X : Cx) (x : Str) : Prop := X.env.kindOf x = some .globalImplicit
theorem ld_glob {E : Value → Shared → Prop} {pins : List (Addr × Obj)} {s : Shared} {σ : St} {H : Hp} {x : Str} {u : Value} {pos : Pos} {Q : Value → Shared → Prop} (I : Inv X pins σ H s) (hg : Gl X x) (hm : X.mg x = some u) (h : Q u s)
    (hd : (x == ("__debug__" : Str)) = false := by decide) : wpAny (model X.prog X.w) X.A (eval (.Name x pos) X.env) Q E s :=
  Calls.Name_function_global I.ok.kind hg (Calls.loadGlobal_global (by rw [I.ok.glob]; exact I.mod.glob.keeps I.bk) hm h) hd
theorem ld_blt {E : Value → Shared → Prop} {pins : List (Addr × Obj)} {s : Shared} {σ : St} {H : Hp} {x : Str} {u : Value} {pos : Pos} {Q : Value → Shared → Prop} (I : Inv X pins σ H s) (hg : Gl X x) (hm : X.mg x = none) (hv : bootBuiltins x = some u) (h : Q u s)
    (hn : x ≠ "__name__" := by decide) (hd : (x == ("__debug__" : Str)) = false := by decide) : wpAny (model X.prog X.w) X.A (eval (.Name x pos) X.env) Q E s := by
  obtain ⟨mb, h1, h2⟩ := I.mod.blt
  exact Calls.Name_function_global I.ok.kind hg (Calls.loadGlobal_builtin (by rw [I.ok.glob]; exact I.mod.glob.keeps I.bk) hm (by rw [I.ok.blt]; exact h1.keeps I.bk) ((h2 x hn).trans hv) h) hd
theorem pe_glob {x : Str} {v : V} {u : Value} {pos : Pos} (hg : Gl X x) (hm : X.mg x = some u) (r : RelV v u) (hd : (x == ("__debug__" : Str)) = false := by decide) : PE X (.Name x pos) (tC v) :=
  fun _ _ _ H _ I h => ld_glob I hg hm ⟨v, H, I, r, h⟩ hd
theorem pe_bltn {x : Str} {v : V} {u : Value} {pos : Pos} (hg : Gl X x) (hm : X.mg x = none) (hv : bootBuiltins x = some u) (r : RelV v u) (hn : x ≠ "__name__" := by decide) (hd : (x == ("__debug__" : Str)) = false := by decide) : PE X (.Name x pos) (tC v) :=
  fun _ _ _ H _ I h => ld_blt I hg hm hv ⟨v, H, I, r, h⟩ hn hd
variable {a b : Expr} {ta tb : TE} {pos : Pos}
def tB (t : TE) : TT := fun σ H Q => t σ H fun x H1 => ∃ c, x = .bl c ∧ Q c H1
theorem pt_val {e : Expr} {t : TE} (h : PE X e t) (he : ∀ whole, isTrue e X.env whole = (do let v ← whole; standAt e.pos; holding [v] (truthy v)) := by intro _; rfl) : PT X e (tB t) := by
  intro pins s σ H Q I hw
  refine isTrue_plain (thn (h pins s σ H _ I hw) fun v s1 ⟨x, H1, I1, r1, q1⟩ => ?_) (he _)
  obtain ⟨d, rfl, q⟩ := q1
  cases r1
  exact wpAny_truthy_bool ⟨H1, I1, q⟩
variable {tA tB' : TT} {rest : List Expr}
def tAnd (t u : TT) : TT := fun σ H Q => t σ H fun c H1 => if c = true then u σ H1 Q else Q false H1
def tOr (t u : TT) : TT := fun σ H Q => t σ H fun c H1 => if c = true then Q true H1 else u σ H1 Q
def tNot (t : TT) : TT := fun σ H Q => t σ H fun c H1 => Q (!c) H1
theorem pw_and1 (ha : PT X a tA) : PW X (.BoolOp .And [a] pos) tA := by
  intro wh pins s σ H Q I h
  refine isTrue_and (thn (ha pins s σ H Q I h) fun c s1 e => ?_)
  cases c with
  | true => exact isTrue_and_nil e
  | false => exact e
theorem pw_or1 (ha : PT X a tA) : PW X (.BoolOp .Or [a] pos) tA := by
  intro wh pins s σ H Q I h
  refine isTrue_or (thn (ha pins s σ H Q I h) fun c s1 e => ?_)
  cases c with
  | false => exact isTrue_or_nil e
  | true => exact e
theorem pw_and (ha : PT X a tA) (hb : PW X (.BoolOp .And (b :: rest) pos) tB') : PW X (.BoolOp .And (a :: b :: rest) pos) (tAnd tA tB') := by
  intro wh pins s σ H Q I h
  refine isTrue_and (thn (ha pins s σ H _ I h) fun c s1 ⟨H1, I1, q1⟩ => ?_)
  cases c with
  | true => exact hb wh pins s1 σ H1 Q I1 q1
  | false => exact ⟨H1, I1, q1⟩
theorem pw_or (ha : PT X a tA) (hb : PW X (.BoolOp .Or (b :: rest) pos) tB') : PW X (.BoolOp .Or (a :: b :: rest) pos) (tOr tA tB') := by
  intro wh pins s σ H Q I h
  refine isTrue_or (thn (ha pins s σ H _ I h) fun c s1 ⟨H1, I1, q1⟩ => ?_)
  cases c with
  | true => exact ⟨H1, I1, q1⟩
  | false => exact hb wh pins s1 σ H1 Q I1 q1
theorem pt_not (ha : PT X a tA) : PT X (.UnaryOp .Not a pos) (tNot tA) := by
  intro pins s σ H Q I h
  exact isTrue_not (ha pins s σ H (fun c H1 => Q (!c) H1) I h)
def tAndV (ta tb : TE) : TE := fun σ H Q => ta σ H fun x H1 => ∃ c, x = .bl c ∧ if c = true then tb σ H1 Q else Q (.bl false) H1
def tNotV (ta : TE) : TE := fun σ H Q => ta σ H fun x H1 => ∃ c, x = .bl c ∧ Q (.bl (!c)) H1
theorem pe_one {op} {t : TE} (h : PE X a t) : PE X (.BoolOp op [a] pos) t := fun pins s σ H Q I hw => BoolOp_one (h pins s σ H Q I hw)
theorem pe_and (ha : PE X a ta) (hb : PE X (.BoolOp .And (b :: rest) pos) tb) : PE X (.BoolOp .And (a :: b :: rest) pos) (tAndV ta tb) := by
  intro pins s σ H Q I h
  refine BoolOp_and (thn (ha pins s σ H _ I h) fun v s1 ⟨x, H1, I1, r1, q1⟩ => ?_)
  obtain ⟨c, rfl, q1⟩ := q1
  cases r1
  refine wpAny_truthy_bool ?_
  cases c with
  | true => exact hb pins s1 σ H1 Q I1 q1
  | false => exact ⟨.bl false, H1, I1, rfl, q1⟩
theorem pe_not (ha : PE X a ta) : PE X (.UnaryOp .Not a pos) (tNotV ta) := by
  intro pins s σ H Q I h
  refine UnaryOp_ (thn (ha pins s σ H _ I h) fun v s1 ⟨x, H1, I1, r1, q1⟩ => ?_)
  obtain ⟨c, rfl, q1⟩ := q1
  cases r1
  exact not_of (wpAny_truthy_bool ⟨.bl (!c), H1, I1, rfl, q1⟩)
end
end L2
namespace L2
open PySem PySem.Spec PyProof.Rows
def SqL (K : PySem.W.Frag) (H : Hp) (a : Addr) (xs : List V) : Prop :=
  Rd H a (.lst xs) ∨
    ∃ (o : Obj) (its : Array Value) (n : Nat), K.lookup a = some o ∧ o.cls = .type "list" ∧ o.dict = none ∧ o.data = .seq its n ∧ its.size ≤ sizeLine ∧ Vals xs its.toList
def SqT (K : PySem.W.Frag) (H : Hp) (a : Addr) (xs : List V) : Prop :=
  Rd H a (.tup xs) ∨
    ∃ (o : Obj) (its : Array Value) (n : Nat), K.lookup a = some o ∧ o.cls = .type "tuple" ∧ o.data = .seq its n ∧ its.size ≤ sizeLine ∧ Vals xs its.toList
def absV : Value → Option V
  | .none => some .non
  | .bool b => some (.bl b)
  | .int i _ => some (.int i)
  | .str x _ => some (.str x)
  | .bytes b _ => some (.byt b)
  | .float b _ => some (.flt b)
  | .ref a => some (.ref a)
  | .type n => some (.ty n)
  | _ => none
theorem RelV.abs {x : V} {u : Value} (r : RelV x u) : absV u = some x := by
  cases x with
  | non => cases r; rfl
  | bl _ => cases r; rfl
  | int _ => obtain ⟨t, rfl⟩ := r; rfl
  | str _ => obtain ⟨t, rfl⟩ := r; rfl
  | byt _ => obtain ⟨t, rfl⟩ := r; rfl
  | flt _ => obtain ⟨t, rfl⟩ := r; rfl
  | ref _ => cases r; rfl
  | ty _ => cases r; rfl
theorem RelV.inj {x y : V} {u : Value} (r : RelV x u) (q : RelV y u) : x = y := Option.some.inj (r.abs.symm.trans q.abs)
theorem Vals.inj : ∀ {xs ys : List V} {us : List Value}, Vals xs us → Vals ys us → xs = ys
  | _, _, _, .nil, .nil => rfl
  | _, _, _, .cons r t, .cons r' t' => by rw [r.inj r', Vals.inj t t']
section
variable {X : Cx} {pins : List (Addr × Obj)} {σ : St} {H : Hp} {s : Shared} {a : Addr} {xs ys : List V}
theorem SqL.of {K : PySem.W.Frag} (h : H a = some (.lst xs)) : SqL K H a xs := .inl (.inl h)
theorem SqT.of {K : PySem.W.Frag} (h : H a = some (.tup xs)) : SqT K H a xs := .inl (.inl h)
theorem Inv.list (I : Inv X pins σ H s) (h : SqL X.K H a xs) : ∃ its : List Value, Vals xs its ∧ PlainL s.heap a its.toArray ∧ xs.length ≤ sizeLine := by
  rcases h with h | ⟨o, its, n, hk, hc, hd, hs, hz, r⟩
  · obtain ⟨z, its, n, r, e⟩ := h.ok I.hok
    exact ⟨its, r, ⟨_, n, e, rfl, rfl, rfl⟩, z⟩
  · refine ⟨its.toList, r, ⟨o, n, I.kIn a o hk, hc, hd, by simpa using hs⟩, ?_⟩
    have e := r.length
    simp only [Array.length_toList] at e
    omega
theorem Inv.tuple (I : Inv X pins σ H s) (h : SqT X.K H a xs) : ∃ its : List Value, Vals xs its ∧ IsTup s.heap a its.toArray ∧ xs.length ≤ sizeLine := by
  rcases h with h | ⟨o, its, n, hk, hc, hs, hz, r⟩
  · obtain ⟨z, its, r, p⟩ := h.ok I.hok
    exact ⟨its, r, p, z⟩
  · refine ⟨its.toList, r, ⟨o, I.kIn a o hk, hc, n, by simpa using hs⟩, ?_⟩
    have e := r.length
    simp only [Array.length_toList] at e
    omega
theorem Inv.list_inj (I : Inv X pins σ H s) (h : SqL X.K H a xs) (h' : SqL X.K H a ys) : xs = ys := by
  obtain ⟨its, r, ⟨o, n, e, _, _, d⟩, _⟩ := I.list h
  obtain ⟨its', r', ⟨o', n', e', _, _, d'⟩, _⟩ := I.list h'
  rw [e] at e'; cases e'
  rw [d] at d'
  injection d' with d1 _
  have : its = its' := by simpa using congrArg Array.toList d1
  subst this
  exact r.inj r'
theorem Inv.tuple_inj (I : Inv X pins σ H s) (h : SqT X.K H a xs) (h' : SqT X.K H a ys) : xs = ys := by
  obtain ⟨its, r, ⟨o, e, _, n, d⟩, _⟩ := I.tuple h
  obtain ⟨its', r', ⟨o', e', _, n', d'⟩, _⟩ := I.tuple h'
  rw [e] at e'; cases e'
  rw [d] at d'
  injection d' with d1 _
  have : its = its' := by simpa using congrArg Array.toList d1
  subst this
  exact r.inj r'
end
abbrev Cx.wish (X : Cx) (E : Value → Shared → Prop) : Cx := { X with xe := E }
abbrev Cx.nox (X : Cx) : Cx := X.wish fun _ _ => False
theorem Cx.Ok.wish {X : Cx} (ok : X.Ok) (E : Value → Shared → Prop) : (X.wish E).Ok :=
  ⟨ok.mod, ok.kind, ok.glob, ok.blt, ok.above, ok.inj, ok.has, ok.cab, ok.hd, ok.frames, ok.stk, ok.exf, ok.bs, ok.bsz, ok.noex, ok.exfs, ok.funs, ok.frf⟩
theorem Cx.Ok.unwish {X : Cx} {E : Value → Shared → Prop} (ok : (X.wish E).Ok) : X.Ok :=
  ⟨ok.mod, ok.kind, ok.glob, ok.blt, ok.above, ok.inj, ok.has, ok.cab, ok.hd, ok.frames, ok.stk, ok.exf, ok.bs, ok.bsz, ok.noex, ok.exfs, ok.funs, ok.frf⟩
section
variable {X : Cx} {pins : List (Addr × Obj)} {σ : St} {H : Hp} {s : Shared} {E : Value → Shared → Prop}
theorem Inv.wish (I : Inv X pins σ H s) (E : Value → Shared → Prop) : Inv (X.wish E) pins σ H s := ⟨I.ok.wish E, I.os, I.bare, I.base, I.loc, I.cell, I.free, I.freeC, I.pin, I.hok, I.len⟩
theorem Inv.unwish (I : Inv (X.wish E) pins σ H s) : Inv X pins σ H s := ⟨I.ok.unwish, I.os, I.bare, I.base, I.loc, I.cell, I.free, I.freeC, I.pin, I.hok, I.len⟩
theorem SP.unwish {D : Ends} {f : Flow} {s' : Shared} (h : SP (X.wish E) pins D f s') : SP X pins D f s' := by
  cases f with
  | next => obtain ⟨σ', H', I, q⟩ := h; exact ⟨σ', H', I.unwish, q⟩
  | brk => obtain ⟨σ', H', I, q⟩ := h; exact ⟨σ', H', I.unwish, q⟩
  | cont => obtain ⟨σ', H', I, q⟩ := h; exact ⟨σ', H', I.unwish, q⟩
  | ret u => obtain ⟨v, σ', H', I, r, q⟩ := h; exact ⟨v, σ', H', I.unwish, r, q⟩
theorem PSs.nox {st : List Stmt} {t : TS} (h : PSs X.nox st t) : PSs X st t := fun pins s σ H D I hw =>
  wpAny_mono (h pins s σ H D (I.wish _) hw) (fun _ _ q => q.unwish) fun _ _ z => False.elim z
end
section
variable {X : Cx} {st : Stmt} {rest : List Stmt} {t u : TS} {e : Expr} {te : TE} {pos : Pos}
def tNext : TS := fun D σ H => D.nx σ H
def tSeq (t u : TS) : TS := fun D σ H => t { D with nx := u D } σ H
theorem pss_nil : PSs X [] tNext := fun _ _ σ H _ I h => wpAny_execs_nil ⟨σ, H, I, h⟩
theorem pss_cons (h1 : PS X st t) (h2 : PSs X rest u) : PSs X (st :: rest) (tSeq t u) := by
  intro pins s σ H D I h
  refine wpAny_execs_cons (thn (h1 pins s σ H { D with nx := u D } I h) fun f s1 q => ?_)
  cases f with
  | next =>
    obtain ⟨σ', H', I', q⟩ := q
    exact h2 pins s1 σ' H' D I' q
  | ret v => exact q
  | brk => exact q
  | cont => exact q
theorem pss_one (h1 : PS X st t) : PSs X [st] t := by
  intro pins s σ H D I h
  refine wpAny_execs_cons (thn (h1 pins s σ H D I h) fun f s1 q => ?_)
  cases f with
  | next => exact wpAny_execs_nil q
  | ret v => exact q
  | brk => exact q
  | cont => exact q
theorem Inv.quiet {pins : List (Addr × Obj)} {σ : St} {H : Hp} {s : Shared} (I : Inv X pins σ H s) : interactive X.env = false := by simp [interactive, I.ok.kind]
def tDrop (te : TE) : TS := fun D σ H => te σ H fun _ H1 => D.nx σ H1
theorem ps_expr (he : PE X e te) (hs : swapsWith e none pos.line X.env = pure false := by rfl) : PS X (.Expr e pos) (tDrop te) := by
  intro pins s σ H D I h
  exact wpAny_Expr_any (thn (he pins s σ H _ I h) fun v s1 ⟨x, H1, I1, r1, q1⟩ => ⟨σ, H1, I1, q1⟩) I.quiet hs
def tRet (te : TE) : TS := fun D σ H => te σ H D.rt
theorem ps_ret (he : PE X e te) : PS X (.Return (some e) pos) (tRet te) := by
  intro pins s σ H D I h
  exact wpAny_Return_some (thn (he pins s σ H _ I h) fun v s1 ⟨x, H1, I1, r1, q1⟩ => ⟨x, σ, H1, I1, r1, q1⟩)
def tIfS (c : TT) (t u : TS) : TS := fun D σ H => c σ H fun b H1 => if b = true then t D σ H1 else u D σ H1
theorem ps_if {c : Expr} {a b : List Stmt} {tc : TT} (hc : PT X c tc) (ha : PSs X a t) (hb : PSs X b u) : PS X (.If c a b pos) (tIfS tc t u) := by
  intro pins s σ H D I h
  refine wpAny_If (thn (hc pins s σ H _ I h) fun d s1 ⟨H1, I1, q1⟩ => ?_)
  cases d with
  | true => exact ha pins s1 σ H1 D I1 q1
  | false => exact hb pins s1 σ H1 D I1 q1
def tNever : TS := fun _ _ _ => False
theorem ps_never : PS X st tNever := fun _ _ _ _ _ _ h => h.elim
end
abbrev TG := V → St → Hp → (St → Hp → Prop) → Prop
abbrev TGs := List V → St → Hp → (St → Hp → Prop) → Prop
def PG (X : Cx) (target : Expr) (t : TG) : Prop :=
  ∀ (pins : List (Addr × Obj)) (s : Shared) (σ : St) (H : Hp) (v : V) (u : Value) (Q : St → Hp → Prop), Inv X pins σ H s → RelV v u → t v σ H Q →
    wpAny (model X.prog X.w) X.A (assign target X.env u) (fun _ s' => ∃ σ' H', Inv X pins σ' H' s' ∧ Q σ' H') X.xe s
def PGs (X : Cx) (ts : List Expr) (t : TGs) : Prop :=
  ∀ (pins : List (Addr × Obj)) (s : Shared) (σ : St) (H : Hp) (vs : List V) (us : List Value) (Q : St → Hp → Prop), Inv X pins σ H s → Vals vs us → t vs σ H Q →
    wpAny (model X.prog X.w) X.A (assignInOrder ((assignEach ts X.env).map (·.2)) us) (fun _ s' => ∃ σ' H', Inv X pins σ' H' s' ∧ Q σ' H') X.xe s
abbrev TSet := V → V → V → Hp → (Hp → Prop) → Prop
def PSet (X : Cx) (t : TSet) : Prop :=
  ∀ (pins : List (Addr × Obj)) (s : Shared) (σ : St) (H : Hp) (o i v : V) (ov iv u : Value) (Q : Hp → Prop), Inv X pins σ H s → RelV o ov → RelV i iv → RelV v u → t o i v H Q →
    wpAny (model X.prog X.w) X.A (setItem ov iv u) (fun _ s' => ∃ H', Inv X pins σ H' s' ∧ Q H') X.xe s
section
variable {X : Cx} {pos : Pos}
def gName (i : Nat) : TG := fun v σ H Q => Q (σ.set i (some v)) H
theorem pg_name {i : Nat} {x : Str} (hN : X.N.Nodup) (hi : X.N[i]? = some x) (hx : Loc X.env.scope x) (hf : X.fn x = true ∨ X.env.scope.names.lookup x = some .local := by first | exact .inl rfl | exact .inr rfl | assumption) : PG X (.Name x pos) (gName i) := by
  intro pins s σ H v u Q I r h
  exact wpAny_assign_Name (store_ok I hN hi hx r (fun s' I' => ⟨_, H, I', h⟩) hf)
def gNil : TGs := fun vs σ H Q => vs = [] ∧ Q σ H
def gCons (t : TG) (u : TGs) : TGs := fun vs σ H Q => ∃ v r, vs = v :: r ∧ t v σ H fun σ' H' => u r σ' H' Q
theorem pgs_nil : PGs X [] gNil := by
  intro pins s σ H vs us Q I r h
  obtain ⟨e, h⟩ := h
  subst e
  cases r
  exact assignInOrder_nil ⟨σ, H, I, h⟩
theorem pgs_cons {e : Expr} {es : List Expr} {t : TG} {u : TGs} (h1 : PG X e t) (h2 : PGs X es u)
    (hs : (assignEach (e :: es) X.env).map (·.2) = assign e X.env :: (assignEach es X.env).map (·.2) := by rfl) : PGs X (e :: es) (gCons t u) := by
  intro pins s σ H vs us Q I r h
  obtain ⟨v, vr, e1, h⟩ := h
  subst e1
  cases r with
  | cons r rr =>
    rw [hs]
    refine assignInOrder_cons (thn (h1 pins s σ H _ _ _ I r h) fun _ s1 ⟨σ1, H1, I1, q1⟩ => ?_)
    exact h2 pins s1 σ1 H1 _ _ Q I1 rr q1
def gTup (K : PySem.W.Frag) (n : Nat) (t : TGs) : TG := fun v σ H Q => ∃ a xs, v = .ref a ∧ SqT K H a xs ∧ xs.length = n ∧ t xs σ H Q
theorem pg_tup {es : List Expr} {k : Nat} {t : TGs} {n : Nat} (hc : X.calm = true) (h : PGs X es t)
    (hn : (assignEach es X.env).length = n := by rfl) (hst : (assignEach es X.env).findIdx? (·.1) = none := by rfl) : PG X (.Tuple es k pos) (gTup X.K n t) := by
  intro pins s σ H v u Q I r hw
  obtain ⟨a, xs, e1, hq, hl, hw⟩ := hw
  subst e1
  cases r
  obtain ⟨its, rv, ht, hz⟩ := I.tuple hq
  refine assign_Tuple_tuple (I.ok.hd hc) ht (by simp [hn, ← hl, rv.length]) hst fun h' hx => ?_
  have I1 : Inv X pins σ H { s with heap := h' } := I.kept (t' := s.toks) fun b o e => hx b o (Nat.ne_of_lt (Heap.lt_size e)) e
  exact h pins _ σ H xs _ Q I1 (by simpa using rv) hw
def gSub (to ti : TE) (t : TSet) : TG := fun v σ H Q => to σ H fun o H1 => ti σ H1 fun i H2 => t o i v H2 fun H3 => Q σ H3
theorem pg_sub {o i : Expr} {to ti : TE} {t : TSet} (ho : PE X o to) (hi : PE X i ti) (hs : PSet X t)
    (ha : ∀ v, assign (.Subscript o i pos) X.env v = (do
      let ov ← holding [v] (eval o X.env)
      let iv ← holding [v, ov] (eval i X.env)
      standAt pos
      holding [v, ov, iv] (setItem ov iv v)
      release [v, ov, iv] []) := by intro _; rfl) : PG X (.Subscript o i pos) (gSub to ti t) := by
  intro pins s σ H v u Q I r h
  rw [ha]
  refine wpAny_bind (wpAny_holding (thn (ho pins s σ H _ I h) fun ov s1 ⟨x, H1, I1, r1, q1⟩ => ?_))
  refine wpAny_bind (wpAny_holding (thn (hi pins s1 σ H1 _ I1 q1) fun iv s2 ⟨y, H2, I2, r2, q2⟩ => ?_))
  refine wpAny_bind (wpAny_standAt (wpAny_bind (wpAny_holding (thn (hs pins s2 σ H2 x y v ov iv u _ I2 r1 r2 r q2) fun _ s3 ⟨H3, I3, q3⟩ => ?_))))
  exact wpAny_release ⟨σ, H3, I3, q3⟩
def tAsg (te : TE) (g : TG) : TS := fun D σ H => te σ H fun x H1 => g x σ H1 D.nx
theorem ps_asg {tg e : Expr} {te : TE} {g : TG} (he : PE X e te) (hg : PG X tg g) (hs : swapsWithSole [tg] e pos.line X.env = pure false := by rfl) (hw : swappedStores [tg] e X.env = pure none := by rfl)
    (h1 : (assignEach [tg] X.env).map (·.2) = [assign tg X.env] := by rfl) : PS X (.Assign [tg] e pos) (tAsg te g) := by
  intro pins s σ H D I h
  refine wpAny_Assign_stores (thn (he pins s σ H _ I h) fun v s1 ⟨x, H1, I1, r1, q1⟩ => ?_) hs hw
  rw [h1]
  exact thn (hg pins s1 σ H1 x v _ I1 r1 q1) fun _ s2 q => q
theorem ps_set {i : Nat} {x : Str} {e : Expr} {te : TE} {pos' : Pos} (hN : X.N.Nodup) (hi : X.N[i]? = some x) (hx : Loc X.env.scope x) (he : PE X e te) (hs : swapsWith e (some (.Name x pos')) pos.line X.env = pure false := by rfl) (hf : X.fn x = true ∨ X.env.scope.names.lookup x = some .local := by first | exact .inl rfl | exact .inr rfl | assumption) :
    PS X (.Assign [.Name x pos'] e pos) (tAsg te (gName i)) := by
  intro pins s σ H D I h
  refine wpAny_Assign_Name (thn (he pins s σ H _ I h) fun v s1 ⟨y, H1, I1, r1, q1⟩ => ?_) hs
  exact store_ok I1 hN hi hx r1 (fun s2 I2 => ⟨_, H1, I2, q1⟩) hf
def tPar (i j : Nat) (ta : TA) : TS := fun D σ H => ta σ H fun vs H1 => ∃ v w, vs = [v, w] ∧ D.nx ((σ.set i (some v)).set j (some w)) H1
theorem ps_par {i j : Nat} {x y : Str} {a b : Expr} {ta : TA} {px py pt : Pos} {kt k2 pt2} (hc : X.calm = true) (hN : X.N.Nodup) (hi : X.N[i]? = some x) (hj : X.N[j]? = some y) (hij : i ≠ j)
    (hx : X.env.scope.names.lookup x = some .local) (hy : X.env.scope.names.lookup y = some .local) (ha : PA X [a, b] ta)
    (hw : swappedStores [.Tuple [.Name x px, .Name y py] kt pt] (.Tuple [a, b] k2 pt2) X.env = pure (some [x, y]))
    (hs : swapsWithSole [.Tuple [.Name x px, .Name y py] kt pt] (.Tuple [a, b] k2 pt2) pos.line X.env = pure false := by rfl) :
    PS X (.Assign [.Tuple [.Name x px, .Name y py] kt pt] (.Tuple [a, b] k2 pt2) pos) (tPar i j ta) := by
  intro pins s σ H D I h
  rw [exec_Assign_arm]
  refine wpAny_bind (wpAny_standAt ?_)
  rw [hs]
  refine wpAny_bind (wpAny_pure ?_)
  rw [if_neg (by decide)]
  refine wpAny_bind (Tuple_ (thn (ha _ pins s σ H _ I h) fun us s1 ⟨vs, H1, I1, r1, q1⟩ => ?_))
  obtain ⟨v, w, e1, q1⟩ := q1
  subst e1
  obtain ⟨u1, u2, rfl, rv, rw'⟩ : ∃ u1 u2, us = [u1, u2] ∧ RelV v u1 ∧ RelV w u2 := by
    cases r1 with
    | cons p q =>
      cases q with
      | cons p' q' =>
        cases q'
        exact ⟨_, _, rfl, p, p'⟩
  refine wpAny_newObj_type ?_ (by show 2 ≤ sizeLine; decide)
  have I2 : Inv X pins σ H1 { s1 with heap := s1.heap.push { cls := .type "tuple", data := .seq [u1, u2].toArray } } := I1.kept (t' := s1.toks) fun b o e => Heap.get?_push_of_some _ e
  rw [hw]
  refine wpAny_bind (wpAny_pure ?_)
  show wpAny (model X.prog X.w) X.A (do rule "assign.swapped-stores"; let items ← unpackItems (.ref s1.heap.objs.size) 2 none; assignInOrder [fun v => bindName X.env y v, fun v => bindName X.env x v] items.reverse; pure Flow.next) _ _ _
  refine wpAny_bind (wpAny_rule (wpAny_bind (unpackItems_tuple (items := #[u1, u2]) (I.ok.hd hc) (IsTup.new s1.heap _) fun h' hx' => ?_)))
  have I3 := I2.kept (h' := h') (t' := s1.toks) fun b o e => hx' b o (Nat.ne_of_lt (Heap.lt_size e)) e
  show wpAny _ _ (assignInOrder [fun v => bindName X.env y v, fun v => bindName X.env x v] [u2, u1] >>= fun _ => pure Flow.next) _ _ _
  refine wpAny_bind (assignInOrder_cons (wpAny_bindName (store_ok I3 hN hj (.inl hy) rw' (fun s2 I4 => ?_) (.inr hy))))
  refine assignInOrder_cons (wpAny_bindName (store_ok I4 hN hi (.inl hx) rv (fun s3 I5 => assignInOrder_nil (wpAny_pure ?_)) (.inr hx)))
  rw [List.set_comm _ _ (Ne.symm hij)] at I5
  exact ⟨_, H1, I5, q1⟩
end
section
variable {X : Cx} {pos : Pos}
def tWhile (c : TT) (tb : TS) : TS := fun D σ H => ∃ W : Nat → St → Hp → Prop, (∃ m, W m σ H) ∧ ∀ m σ H, W m σ H →
  c σ H fun b H1 => if b = true then ∃ N : St → Hp → Prop, (∀ σ' H', N σ' H' → ∃ m', m' < m ∧ W m' σ' H') ∧ tb { D with nx := N, ct := N, bk := D.nx } σ H1 else D.nx σ H1
theorem ps_while {c : Expr} {body : List Stmt} {tc : TT} {tb : TS} (hp : PassesOwn (model X.prog X.w) X.A X.env X.xe) (hc : PT X c tc) (hb : PSs X body tb) : PS X (.While c body [] pos) (tWhile tc tb) := by
  intro pins s σ H D I h
  obtain ⟨W, ⟨m0, w0⟩, turn⟩ := h
  refine wpAny_While (codeAny_whileLoop (fun n s' => ∃ σ' H', Inv X pins σ' H' s' ∧ W n σ' H') ?_ m0 ⟨σ, H, I, w0⟩)
  rintro n s1 ⟨σ1, H1, I1, w1⟩
  refine wpAny_passesOwn hp (thn (hc pins s1 σ1 H1 _ I1 (turn n σ1 H1 w1)) fun b s2 ⟨H2, I2, q2⟩ => ?_)
  cases b with
  | true =>
    obtain ⟨N, hN, q2⟩ := q2
    rw [if_pos rfl]
    refine wpAny_passesOwn hp (thn (hb pins s2 σ1 H2 _ I2 q2) fun f s3 q3 => ?_)
    cases f with
    | next =>
      obtain ⟨σ3, H3, I3, n3⟩ := q3
      obtain ⟨m', hm, w3⟩ := hN σ3 H3 n3
      exact ⟨m', hm, σ3, H3, I3, w3⟩
    | cont =>
      obtain ⟨σ3, H3, I3, n3⟩ := q3
      obtain ⟨m', hm, w3⟩ := hN σ3 H3 n3
      exact ⟨m', hm, σ3, H3, I3, w3⟩
    | brk => exact q3
    | ret v => exact q3
  | false =>
    rw [if_neg Bool.false_ne_true]
    exact wpAny_execs_nil ⟨σ1, H2, I2, q2⟩
end
structure It where
  go : Nat → Hp → Prop
  yld : Nat → Hp → V → Hp → Prop
  stop : Nat → Hp → Prop
def FpOk (X : Cx) (pins : List (Addr × Obj)) (H : Hp) (b : Addr) : Prop :=
  H b = none ∧ b ≠ X.env.locals ∧ b ∉ X.fs ∧ (b ∈ X.ex ∨ X.s₀.heap.objs.size ≤ b) ∧ (∀ x c, X.env.cells.lookup x = some c → c ≠ b) ∧ ∀ p ∈ X.pn ++ pins, p.1 ≠ b
theorem Inv.fpOk {X : Cx} {pins : List (Addr × Obj)} {σ : St} {H H' : Hp} {s : Shared} {b : Addr} (I : Inv X pins σ H s) (hb : s.heap.objs.size ≤ b) (hn : H' b = none) : FpOk X pins H' b := by
  refine ⟨hn, Nat.ne_of_gt (Nat.lt_of_lt_of_le I.lt hb), I.nofs hb, .inr (Nat.le_trans I.sz hb), fun x c e z => ?_, fun p hp z => ?_⟩
  · obtain ⟨v, q⟩ := I.cell x c e
    exact absurd (Nat.lt_of_lt_of_le q.lt (by rw [z]; exact hb)) (Nat.lt_irrefl _)
  · exact absurd (Nat.lt_of_lt_of_le (Heap.lt_size (I.pin p hp).1) (by rw [z]; exact hb)) (Nat.lt_irrefl _)
def QtH (X : Cx) : Prop := X.A.handled = none ∨ ∃ a o u, X.A.handled = some (.ref a) ∧ X.H₀ a = some (.frz o u) ∧ ZO o
def Cd (qb : Bool) (X : Cx) : Prop := X.calm = true ∨ (qb = true ∧ QtH X)
theorem Cd.cm {X : Cx} (h : Cd false X) : X.calm = true := h.elim id fun z => nomatch z.1
theorem Inv.qt {X : Cx} {pins : List (Addr × Obj)} {σ : List (Option V)} {H : Hp} {s : Shared} {qb : Bool} (I : Inv X pins σ H s) (h : Cd qb X) : X.A.handled = none ∨ ∃ a, X.A.handled = some (.ref a) ∧ s.heap.Zat a := by
  rcases h with h | ⟨_, h | ⟨a, o, u, e, q, z⟩⟩
  · exact .inl (I.ok.hd h)
  · exact .inl h
  · exact .inr ⟨a, e, o, (I.hok a _ (I.base.frzs a o u q)).1, z⟩
structure Turn (qb : Bool) (P : Program) (w : World) (K : PySem.W.Frag) (tg : Expr) (J : It) (fp : List Addr) (it : Addr) (tn : Nat → Heap → Prop) : Prop where
  mem : it ∈ fp
  obj : ∀ i h, tn i h → ∀ b ∈ fp, ∃ o, h.get? b = some o ∧ ∀ v, o.data ≠ .cell v
  keep : ∀ i h h', tn i h → (∀ b ∈ fp, ∀ o, h.get? b = some o → h'.get? b = some o) → tn i h'
  item : ∀ (X : Cx), X.prog = P → X.w = w → X.K = K → Cd qb X → ∀ (i : Nat) (pins : List (Addr × Obj)) (s : Shared) (σ : St) (H : Hp) (E : Value → Shared → Prop), Inv X pins σ H s → (∀ b ∈ fp, FpOk X pins H b) → tn i s.heap → J.go i H →
    wpAny (model P w) X.A (pyNext (.ref it)) (fun r s1 => ∃ u, r = some u ∧
      wpAny (model P w) X.A (letOwnedTupleGo tg (.ref it) u) (fun _ s2 => ∃ x H', Inv X pins σ H' s2 ∧ RelV x u ∧ J.yld i H x H' ∧ tn (i + 1) s2.heap ∧ ∀ b ∈ fp, H' b = none) E s1) E s
  done : ∀ (X : Cx), X.prog = P → X.w = w → X.K = K → Cd qb X → ∀ (i : Nat) (pins : List (Addr × Obj)) (s : Shared) (σ : St) (H : Hp) (E : Value → Shared → Prop), Inv X pins σ H s → (∀ b ∈ fp, FpOk X pins H b) → tn i s.heap → J.stop i H →
    wpAny (model P w) X.A (pyNext (.ref it)) (fun r s1 => r = none ∧ Inv X pins σ H s1) E s
  self : ∀ (A : Around) (i : Nat) (s : Shared) (Q : Value → Shared → Prop) (E : Value → Shared → Prop), tn i s.heap → Q (.ref it) s → wpAny (model P w) A (pyIter (.ref it)) Q E s
abbrev TI := St → Hp → (It → Hp → Prop) → Prop
def PIEb (qb : Bool) (X : Cx) (pins : List (Addr × Obj)) (σ : St) (tg : Expr) (R : It → Hp → Prop) (itv : Value) (s2 : Shared) : Prop :=
  ∃ (it : Addr) (fp : List Addr) (tn : Nat → Heap → Prop) (J : It) (H' : Hp), itv = .ref it ∧ Inv X pins σ H' s2 ∧ Turn qb X.prog X.w X.K tg J fp it tn ∧ tn 0 s2.heap ∧ (∀ b ∈ fp, FpOk X pins H' b) ∧ R J H'
def PIb (qb : Bool) (X : Cx) (tg iter : Expr) (wi : TI) : Prop :=
  ∀ (pins : List (Addr × Obj)) (s : Shared) (σ : St) (H : Hp) (R : It → Hp → Prop), Inv X pins σ H s → wi σ H R →
    wpAny (model X.prog X.w) X.A (eval iter X.env) (fun v s1 => wpAny (model X.prog X.w) X.A (pyIter v) (PIEb qb X pins σ tg R) X.xe s1) X.xe s
abbrev PIE := PIEb false
abbrev PI := PIb false
theorem go_of {M : Model} {A : Around} {E : Value → Shared → Prop} {s : Shared} {tg : Expr} {it : Addr} {u : Value} {o : Obj} {n : String} {vs : Array Value} {Q : Unit → Shared → Prop} (ho : s.heap.get? it = some o) (hc : o.cls = .type n) (hd : o.data = .fields vs)
    (hn : ["enumerate", "zip", "dict_itemiterator", "dict_reverseitemiterator", "odict_iterator", "itertools.zip_longest", "itertools.pairwise"].contains n = false) (hQ : Q () s) : wpAny M A (letOwnedTupleGo tg (.ref it) u) Q E s := by
  unfold letOwnedTupleGo
  cases tg <;> first
    | exact wpAny_pure hQ
    | (cases u <;> first
        | exact wpAny_pure hQ
        | (refine wpAny_bind (wpAny_load ho ?_)
           rw [hc, hd]
           show wpAny M A (if (["enumerate", "zip", "dict_itemiterator", "dict_reverseitemiterator", "odict_iterator", "itertools.zip_longest", "itertools.pairwise"].contains n && vs[0]? == some (rawInt _)) = true then _ else _) Q E s
           rw [if_neg (by intro h; rw [hn, Bool.false_and] at h; cases h)]
           exact wpAny_pure hQ))
def Itl (K : PySem.W.Frag) (a : Addr) : It :=
  ⟨fun i H => ∃ xs x, SqL K H a xs ∧ xs[i]? = some x, fun i H x H' => H' = H ∧ ∀ xs, SqL K H a xs → xs[i]? = some x, fun i H => ∃ xs, SqL K H a xs ∧ xs.length ≤ i⟩
def Itt (K : PySem.W.Frag) (a : Addr) : It :=
  ⟨fun i H => ∃ xs x, SqT K H a xs ∧ xs[i]? = some x, fun i H x H' => H' = H ∧ ∀ xs, SqT K H a xs → xs[i]? = some x, fun i H => ∃ xs, SqT K H a xs ∧ xs.length ≤ i⟩
def Itr (lo : Int) (n : Nat) : It := ⟨fun i _ => i < n, fun i H x H' => H' = H ∧ x = .int (lo + i), fun i _ => n ≤ i⟩
theorem turn_list {P : Program} {w : World} {K : PySem.W.Frag} {tg : Expr} (a it : Addr) : Turn false P w K tg (Itl K a) [it] it (fun i h => h.IsListIter it a i) where
  mem := by simp
  obj := fun i h st b hb => by
    have e : b = it := by simpa using hb
    subst e
    obtain ⟨o, e, c, d⟩ := st
    exact ⟨o, e, fun v z => by rw [d] at z; cases z⟩
  keep := fun i h h' st k => st.at fun o e => k it (by simp) o e
  item := by
    intro X hP hw hK hc i pins s σ H E I hf st hg
    subst hP hw hK
    obtain ⟨xs, x, hq, hx⟩ := hg
    obtain ⟨its, rv, p, hz⟩ := I.list hq
    obtain ⟨u, hu, ru⟩ := rv.get hx
    obtain ⟨f0, f1, f2, f3, f4, f5⟩ := hf it (by simp)
    refine wpAny_pyNext_list_item st p.isList (x := u) (by simpa using hu) fun h' st' sb => ?_
    have I1 : Inv X pins σ H { s with heap := h' } := I.turned (t' := s.toks) (fun b o hb e => (sb.2 b hb).trans e) f0 f1 f3 f4 f5
    obtain ⟨o, e, c, d⟩ := id st'
    exact ⟨u, rfl, go_of (s := { s with heap := h' }) e c d (by decide) ⟨x, H, I1, ru, ⟨rfl, fun ys hy => by rw [I.list_inj hy hq]; exact hx⟩, st', fun b hb => (hf b hb).1⟩⟩
  done := by
    intro X hP hw hK hc i pins s σ H E I hf st hg
    subst hP hw hK
    obtain ⟨xs, hq, hx⟩ := hg
    obtain ⟨its, rv, p, hz⟩ := I.list hq
    obtain ⟨f0, f1, f2, f3, f4, f5⟩ := hf it (by simp)
    have hl := rv.length
    exact wpAny_pyNext_list_end (I.ok.hd hc.cm) st p.isList (by simp; omega) fun h' eb => ⟨rfl, I.turned (t' := s.toks) (fun b o hb e => eb b o hb e) f0 f1 f3 f4 f5⟩
  self := fun _ _ _ _ _ st h => wpAny_pyIter_listiter st h
theorem turn_tuple {P : Program} {w : World} {K : PySem.W.Frag} {tg : Expr} (a it : Addr) : Turn false P w K tg (Itt K a) [it] it (fun i h => h.IsTupleIter it a i) where
  mem := by simp
  obj := fun i h st b hb => by
    have e : b = it := by simpa using hb
    subst e
    obtain ⟨o, e, c, d⟩ := st
    exact ⟨o, e, fun v z => by rw [d] at z; cases z⟩
  keep := fun i h h' st k => st.at fun o e => k it (by simp) o e
  item := by
    intro X hP hw hK hc i pins s σ H E I hf st hg
    subst hP hw hK
    obtain ⟨xs, x, hq, hx⟩ := hg
    obtain ⟨its, rv, p, hz⟩ := I.tuple hq
    obtain ⟨u, hu, ru⟩ := rv.get hx
    obtain ⟨f0, f1, f2, f3, f4, f5⟩ := hf it (by simp)
    refine wpAny_pyNext_tuple_item st (show s.heap.IsTuple a its.toArray from p) (x := u) (by simpa using hu) fun h' st' sb => ?_
    have I1 : Inv X pins σ H { s with heap := h' } := I.turned (t' := s.toks) (fun b o hb e => (sb.2 b hb).trans e) f0 f1 f3 f4 f5
    obtain ⟨o, e, c, d⟩ := id st'
    exact ⟨u, rfl, go_of (s := { s with heap := h' }) e c d (by decide) ⟨x, H, I1, ru, ⟨rfl, fun ys hy => by rw [I.tuple_inj hy hq]; exact hx⟩, st', fun b hb => (hf b hb).1⟩⟩
  done := by
    intro X hP hw hK hc i pins s σ H E I hf st hg
    subst hP hw hK
    obtain ⟨xs, hq, hx⟩ := hg
    obtain ⟨its, rv, p, hz⟩ := I.tuple hq
    obtain ⟨f0, f1, f2, f3, f4, f5⟩ := hf it (by simp)
    have hl := rv.length
    exact wpAny_pyNext_tuple_end (I.ok.hd hc.cm) st (show s.heap.IsTuple a its.toArray from p) (by simp; omega) fun h' eb => ⟨rfl, I.turned (t' := s.toks) (fun b o hb e => eb b o hb e) f0 f1 f3 f4 f5⟩
  self := fun _ _ _ _ _ st h => wpAny_pyIter_tupleiter st h
theorem turn_range {qb : Bool} {P : Program} {w : World} {K : PySem.W.Frag} {tg : Expr} (it : Addr) (lo : Int) (n : Nat) : Turn qb P w K tg (Itr lo n) [it] it (fun i h => IsRangeIter h it (lo + (i : Nat) * 1) ((n : Int) - (i : Nat)) 1) where
  mem := by simp
  obj := fun i h st b hb => by
    have e : b = it := by simpa using hb
    subst e
    exact ⟨_, st, fun v z => by
      have z' : Data.fields _ = Data.cell v := z
      cases z'⟩
  keep := fun i h h' st k => k it (by simp) _ st
  item := by
    intro X hP hw hK hc i pins s σ H E I hf st hg
    subst hP hw hK
    obtain ⟨f0, f1, f2, f3, f4, f5⟩ := hf it (by simp)
    have hg' : (i : Nat) < n := hg
    refine wpAny_pyNext_range_item st (by omega) fun h' st' kk => ?_
    have I1 : Inv X pins σ H { s with heap := h', toks := s.toks + 1 } := I.turned (fun b o hb e => (kk.2 b hb).trans e) f0 f1 f3 f4 f5
    have st2 : IsRangeIter h' it (lo + ((i + 1 : Nat) : Int) * 1) ((n : Int) - ((i + 1 : Nat) : Int)) 1 := by
      have e1 : lo + ((i + 1 : Nat) : Int) * 1 = lo + (i : Nat) * 1 + 1 := by omega
      have e2 : (n : Int) - ((i + 1 : Nat) : Int) = (n : Int) - (i : Nat) - 1 := by omega
      rw [e1, e2]; exact st'
    refine ⟨_, rfl, go_of (s := { s with heap := h', toks := s.toks + 1 }) (n := "range_iterator") st2 rfl rfl (by decide) ⟨.int (lo + i), H, I1, ⟨s.toks, ?_⟩, ⟨rfl, rfl⟩, st2, fun b hb => (hf b hb).1⟩⟩
    rw [Int.mul_one]
  done := by
    intro X hP hw hK hc i pins s σ H E I hf st hg
    subst hP hw hK
    obtain ⟨f0, f1, f2, f3, f4, f5⟩ := hf it (by simp)
    have hg' : n ≤ i := hg
    rcases I.qt hc with hh | ⟨ha, hh, z⟩
    · exact wpAny_pyNext_range_end hh st (by omega) fun h' eb => ⟨rfl, I.turned (t' := s.toks) (fun b o hb e => eb b o hb e) f0 f1 f3 f4 f5⟩
    · exact rangeEndZ hh z st (by omega) fun h' eb => ⟨rfl, I.turned (t' := s.toks) (fun b o hb e => eb b o hb e) f0 f1 f3 f4 f5⟩
  self := fun _ _ _ _ _ st h => wpAny_pyIter_rangeiter st h
end L2
namespace L2
open PySem PySem.Spec PyProof.Rows
section
variable {X : Cx} {tg : Expr}
def iList (K : PySem.W.Frag) (tl : TE) : TI := fun σ H R => tl σ H fun x H1 => ∃ a, x = .ref a ∧ (∃ xs, SqL K H1 a xs) ∧ R (Itl K a) H1
def iTup (K : PySem.W.Frag) (tl : TE) : TI := fun σ H R => tl σ H fun x H1 => ∃ a, x = .ref a ∧ (∃ xs, SqT K H1 a xs) ∧ R (Itt K a) H1
theorem pi_list {l : Expr} {tl : TE} (hl : PE X l tl) : PI X tg l (iList X.K tl) := by
  intro pins s σ H R I h
  refine thn (hl pins s σ H _ I h) fun v s1 ⟨x, H1, I1, r1, q1⟩ => ?_
  obtain ⟨a, e, ⟨xs, hq⟩, q⟩ := q1
  subst e
  cases r1
  obtain ⟨its, rv, p, hz⟩ := I1.list hq
  refine wpAny_pyIter_list p.isList ?_
  refine ⟨s1.heap.objs.size, [s1.heap.objs.size], _, _, H1, rfl, I1.kept (t' := s1.toks) fun b o e => Heap.get?_push_of_some _ e, turn_list a _, ⟨_, Heap.get?_push_size _ rfl, rfl, rfl⟩, fun b hb => ?_, q⟩
  have e : b = s1.heap.objs.size := by simpa using hb
  subst e
  exact I1.fpOk (Nat.le_refl _) (I1.hok.fresh (Nat.le_refl _))
theorem pi_tup {l : Expr} {tl : TE} (hl : PE X l tl) : PI X tg l (iTup X.K tl) := by
  intro pins s σ H R I h
  refine thn (hl pins s σ H _ I h) fun v s1 ⟨x, H1, I1, r1, q1⟩ => ?_
  obtain ⟨a, e, ⟨xs, hq⟩, q⟩ := q1
  subst e
  cases r1
  obtain ⟨its, rv, p, hz⟩ := I1.tuple hq
  refine wpAny_pyIter_tuple (show s1.heap.IsTuple a its.toArray from p) ?_
  refine ⟨s1.heap.objs.size, [s1.heap.objs.size], _, _, H1, rfl, I1.kept (t' := s1.toks) fun b o e => Heap.get?_push_of_some _ e, turn_tuple a _, ⟨_, Heap.get?_push_size _ rfl, rfl, rfl⟩, fun b hb => ?_, q⟩
  have e : b = s1.heap.objs.size := by simpa using hb
  subst e
  exact I1.fpOk (Nat.le_refl _) (I1.hok.fresh (Nat.le_refl _))
theorem range_it {qb : Bool} {pins : List (Addr × Obj)} {σ : St} {H : Hp} {s : Shared} {R : It → Hp → Prop} {E : Value → Shared → Prop} {lo hi : Int} {t u v : Tok} {tk : Nat} (I : Inv X pins σ H s) (h1 : -(2 ^ 62) ≤ lo) (h2 : lo < 2 ^ 62) (h3 : -(2 ^ 62) ≤ hi) (h4 : hi < 2 ^ 62)
    (q : R (Itr lo (hi - lo).toNat) H) : wpAny (model X.prog X.w) X.A (pyIter (.ref s.heap.objs.size)) (PIEb qb X pins σ tg R) E { s with heap := s.heap.push { cls := .type "range", data := .fields #[.int lo t, .int hi u, .int 1 v] }, toks := tk } := by
  refine wpAny_pyIter_range (IsRange.new ..) (small_one h1 h2 h3 h4) ?_
  have I1 : Inv X pins σ H { s with heap := s.heap.push { cls := .type "range", data := .fields #[.int lo t, .int hi u, .int 1 v] }, toks := tk } := I.kept fun b o e => Heap.get?_push_of_some _ e
  refine ⟨(s.heap.push { cls := .type "range", data := .fields #[.int lo t, .int hi u, .int 1 v] }).objs.size, [(s.heap.push { cls := .type "range", data := .fields #[.int lo t, .int hi u, .int 1 v] }).objs.size], _, _, H, rfl,
    I1.kept (t' := tk) fun b o e => Heap.get?_push_of_some _ e, turn_range _ lo (hi - lo).toNat, ?_, fun b hb => ?_, q⟩
  · have e1 : lo + ((0 : Nat) : Int) * 1 = lo := by simp
    have e2 : (((hi - lo).toNat : Nat) : Int) - ((0 : Nat) : Int) = Builtin.Range.rangeSize lo hi 1 := by rw [rangeSize_one]; split <;> omega
    show IsRangeIter _ _ (lo + ((0 : Nat) : Int) * 1) ((((hi - lo).toNat : Nat) : Int) - ((0 : Nat) : Int)) 1
    rw [e1, e2]
    exact Heap.get?_push_size _ rfl
  · have e : b = (s.heap.push { cls := .type "range", data := .fields #[.int lo t, .int hi u, .int 1 v] }).objs.size := by simpa using hb
    subst e
    exact I1.fpOk (Nat.le_refl _) (I1.hok.fresh (Nat.le_refl _))
def iRng1 (ta : TA) : TI := fun σ H R => ta σ H fun vs H1 => ∃ j : Int, vs = [.int j] ∧ -(2 ^ 62) ≤ j ∧ j < 2 ^ 62 ∧ R (Itr 0 j.toNat) H1
theorem pi_range1 {qb : Bool} {a : Expr} {ta : TA} {p pos : Pos} (hg : Gl X "range") (hm : X.mg "range" = none) (ha : PA X [a] ta) (hs : starEach [a] X.env = [(false, eval a X.env)] := by rfl) : PIb qb X tg (.Call (.Name "range" p) [a] [] pos) (iRng1 ta) := by
  intro pins s σ H R I h
  refine Call_ (ld_blt I hg hm boot_range (PyProof.Rows.callWith_type1 (thn (ha pos pins s σ H _ I h) fun us s1 ⟨vs, H1, I1, r1, q1⟩ => ?_) hs rfl))
  obtain ⟨j, e, q1, q2, q⟩ := q1
  subst e
  cases r1 with
  | cons r rr =>
    cases rr
    obtain ⟨t, rfl⟩ := r
    exact call_range_1 (range_it I1 (by omega) (by omega) q1 q2 (by simpa using q))
def tFor (wi : TI) (g : TG) (tb : TS) : TS := fun D σ H => wi σ H fun J H1 => ∃ W : Nat → Nat → St → Hp → Prop, (∃ m, W 0 m σ H1) ∧ ∀ i m σ H, W i m σ H →
  (J.stop i H ∧ D.nx σ H) ∨ (J.go i H ∧ ∃ N : St → Hp → Prop, (∀ σ' H', N σ' H' → ∃ m', m' < m ∧ W (i + 1) m' σ' H') ∧ ∀ x H', J.yld i H x H' → g x σ H' fun σ2 H2 => tb { D with nx := N, ct := N, bk := D.nx } σ2 H2)
def pinsAt (fp : List Addr) (h : Heap) : List (Addr × Obj) := fp.filterMap fun b => (h.get? b).map fun o => (b, o)
theorem mem_pinsAt {fp : List Addr} {h : Heap} {b : Addr} {o : Obj} (hb : b ∈ fp) (e : h.get? b = some o) : (b, o) ∈ pinsAt fp h := List.mem_filterMap.mpr ⟨b, hb, by rw [e]; rfl⟩
theorem of_pinsAt {fp : List Addr} {h : Heap} {p : Addr × Obj} (hp : p ∈ pinsAt fp h) : p.1 ∈ fp ∧ h.get? p.1 = some p.2 := by
  obtain ⟨b, hb, e⟩ := List.mem_filterMap.mp hp
  cases q : h.get? b with
  | none => rw [q] at e; cases e
  | some o =>
    rw [q] at e
    have e' : (b, o) = p := Option.some.inj e
    subst e'
    exact ⟨hb, q⟩
theorem Inv.pinned {pins : List (Addr × Obj)} {σ : St} {H : Hp} {s : Shared} {fp : List Addr} (I : Inv X pins σ H s) (hf : ∀ b ∈ fp, FpOk X pins H b) (ho : ∀ b ∈ fp, ∃ o, s.heap.get? b = some o ∧ ∀ v, o.data ≠ .cell v) : Inv X (pins ++ pinsAt fp s.heap) σ H s :=
  I.pins_of fun p hp => (List.mem_append.mp hp).elim (fun z => I.pin p (List.mem_append_right _ z)) fun z => by
    obtain ⟨hb, e⟩ := of_pinsAt z
    obtain ⟨f0, f1, f2, _⟩ := hf p.1 hb
    obtain ⟨o, e', d⟩ := ho p.1 hb
    rw [e] at e'; cases e'
    exact ⟨e, f0, f1, f2, d⟩
theorem Inv.unpinned {pins pl : List (Addr × Obj)} {σ : St} {H : Hp} {s : Shared} (I : Inv X (pins ++ pl) σ H s) : Inv X pins σ H s := I.pins_of fun p hp => I.pin p (List.mem_append_right _ (List.mem_append_left _ hp))
theorem ps_for {iter : Expr} {body : List Stmt} {wi : TI} {g : TG} {tb : TS} {pos : Pos} (hp : PassesOwn (model X.prog X.w) X.A X.env X.xe) (hc : X.calm = true) (hi : PI X tg iter wi) (hg : PG X tg g) (hb : PSs X body tb)
    (hs : ∀ x, foldedSetIterable iter X.env x = pure x := by intro _; rfl) : PS X (.For tg iter body [] pos) (tFor wi g tb) := by
  intro pins s σ H D I h
  refine wpAny_For (thn (hi pins s σ H _ I h) fun v s1 h1 => thn h1 fun itv s2 h2 => ?_) hs
  obtain ⟨it, fp, tn, J, H2, e, I2, T, st2, f2, W, ⟨m0, w0⟩, turn⟩ := h2
  subst e
  -- what stays true of the iterator's objects through the loop
  have stat : ∀ {H' : Hp}, (∀ b ∈ fp, H' b = none) → ∀ b ∈ fp, FpOk X pins H' b := fun hn b hb => ⟨hn b hb, (f2 b hb).2⟩
  refine codeAny_forLoop_any (fun n s' => ∃ i σ' H', Inv X pins σ' H' s' ∧ tn i s'.heap ∧ (∀ b ∈ fp, H' b = none) ∧ W i n σ' H') ?_ m0 ⟨0, σ, H2, I2, st2, fun b hb => (f2 b hb).1, w0⟩
  rintro n s3 ⟨i, σ3, H3, I3, st3, fr3, w3⟩
  rcases turn i n σ3 H3 w3 with ⟨stop, qn⟩ | ⟨go, N, hN, step⟩
  · refine wpAny_passesOwn hp (thn (T.done X rfl rfl rfl (.inl hc) i pins s3 σ3 H3 X.xe I3 (stat fr3) st3 stop) fun r s4 ⟨hr, I4⟩ => ?_)
    subst hr
    exact wpAny_execs_nil ⟨σ3, H3, I4, qn⟩
  · refine wpAny_passesOwn hp (thn (T.item X rfl rfl rfl (.inl hc) i pins s3 σ3 H3 X.xe I3 (stat fr3) st3 go) fun r s4 ⟨u, hr, h4⟩ => ?_)
    subst hr
    refine wpAny_passesOwn hp (thn h4 fun _ s5 ⟨x, H5, I5, r5, y5, st5, fr5⟩ => ?_)
    have I5' := I5.pinned (stat fr5) (T.obj _ _ st5)
    refine wpAny_passesOwn hp (thn (hg _ s5 σ3 H5 x u _ I5' r5 (step x H5 y5)) fun _ s6 ⟨σ6, H6, I6, q6⟩ => ?_)
    refine wpAny_passesOwn hp (thn (hb _ s6 σ6 H6 _ I6 q6) fun f s7 q7 => ?_)
    have again : ∀ {σ7 : St} {H7 : Hp}, Inv X (pins ++ pinsAt fp s5.heap) σ7 H7 s7 → N σ7 H7 → ∃ m, m < n ∧ ∃ i σ' H', Inv X pins σ' H' s7 ∧ tn i s7.heap ∧ (∀ b ∈ fp, H' b = none) ∧ W i m σ' H' := fun {σ7 H7} I7 n7 => by
      obtain ⟨m', hm, w7⟩ := hN σ7 H7 n7
      refine ⟨m', hm, i + 1, σ7, H7, I7.unpinned, T.keep _ _ _ st5 fun b hb o e => (I7.pin (b, o) (List.mem_append_right _ (List.mem_append_right _ (mem_pinsAt hb e)))).1, fun b hb => ?_, w7⟩
      obtain ⟨o, e, d⟩ := T.obj _ _ st5 b hb
      exact (I7.pin (b, o) (List.mem_append_right _ (List.mem_append_right _ (mem_pinsAt hb e)))).2.1
    cases f with
    | next => obtain ⟨σ7, H7, I7, n7⟩ := q7; exact again I7 n7
    | cont => obtain ⟨σ7, H7, I7, n7⟩ := q7; exact again I7 n7
    | brk => obtain ⟨σ7, H7, I7, q7⟩ := q7; exact ⟨σ7, H7, I7.unpinned, q7⟩
    | ret v => obtain ⟨x7, σ7, H7, I7, r7, q7⟩ := q7; exact ⟨x7, σ7, H7, I7.unpinned, r7, q7⟩
end
end L2
namespace L2
open PySem PySem.Spec PyProof.Rows
abbrev R2 := V → V → Hp → VK → Prop
def OpR (X : Cx) (f : Value → Value → Sem Value) (r : R2) : Prop :=
  ∀ (pins : List (Addr × Obj)) (s : Shared) (σ : St) (H : Hp) (x y : V) (v u : Value) (Q : VK), Inv X pins σ H s → RelV x v → RelV y u → r x y H Q →
    wpAny (model X.prog X.w) X.A (f v u) (EP X pins σ Q) X.xe s
def CallR (X : Cx) (f : Value) (r : List V → Hp → VK → Prop) : Prop :=
  ∀ (pins : List (Addr × Obj)) (s : Shared) (σ : St) (H : Hp) (xs : List V) (us : List Value) (Q : VK), Inv X pins σ H s → Vals xs us → r xs H Q →
    wpAny (model X.prog X.w) X.A (call f us) (EP X pins σ Q) X.xe s
def tOp (r : R2) (ta tb : TE) : TE := fun σ H Q => ta σ H fun x H1 => tb σ H1 fun y H2 => r x y H2 Q
def rI (C : Int → Int → Prop) (g : Int → Int → V) : R2 := fun x y H Q => ∃ i j, x = .int i ∧ y = .int j ∧ C i j ∧ Q (g i j) H
def rI0 (g : Int → Int → V) : R2 := fun x y H Q => ∃ i j, x = .int i ∧ y = .int j ∧ Q (g i j) H
section
variable {X : Cx} {a b c : Expr} {ta tb tc : TE} {pos : Pos}
theorem binT (ha : PE X a ta) (hb : PE X b tb) {pins : List (Addr × Obj)} {s : Shared} {σ : St} {H : Hp} {R : V → V → Hp → Prop} (I : Inv X pins σ H s)
    (h : ta σ H fun x H1 => tb σ H1 fun y H2 => R x y H2) {Q : Value → Shared → Prop} {f : Value → Value → Sem Value}
    (hf : ∀ v u s2 x y H2, Inv X pins σ H2 s2 → RelV x v → RelV y u → R x y H2 → wpAny (model X.prog X.w) X.A (f v u) Q X.xe s2) :
    wpAny (model X.prog X.w) X.A (eval a X.env) (fun v s₁ => wpAny (model X.prog X.w) X.A (eval b X.env) (fun u s₂ => wpAny (model X.prog X.w) X.A (f v u) Q X.xe s₂) X.xe s₁) X.xe s := by
  refine thn (ha pins s σ H _ I h) fun v s1 ⟨x, H1, I1, r1, q1⟩ => ?_
  refine thn (hb pins s1 σ H1 _ I1 q1) fun u s2 ⟨y, H2, I2, r2, q2⟩ => ?_
  exact hf v u s2 x y H2 I2 r1 r2 q2
theorem pe_op {op : Operator} {r : R2} (ho : OpR X (binaryOp op) r) (ha : PE X a ta) (hb : PE X b tb) : PE X (.BinOp a op b pos) (tOp r ta tb) := by
  intro pins s σ H Q I h
  exact wpAny_BinOp (binT ha hb I h fun v u s2 x y H2 I2 rx ry q => ho pins s2 σ H2 x y v u Q I2 rx ry q)
theorem opI {f : Value → Value → Sem Value} {C : Int → Int → Prop} {g : Int → Int → Int}
    (rule : ∀ (i j : Int) (t u : Tok) (s : Shared) (Q : Value → Shared → Prop) (E : Value → Shared → Prop), C i j → Q (.int (g i j) s.toks) { s with toks := s.toks + 1 } → wpAny (model X.prog X.w) X.A (f (.int i t) (.int j u)) Q E s) :
    OpR X f (rI C fun i j => .int (g i j)) := by
  intro pins s σ H x y v u Q I rx ry h
  obtain ⟨i, j, rfl, rfl, hc, q⟩ := h
  obtain ⟨t, rfl⟩ := rx
  obtain ⟨t', rfl⟩ := ry
  exact rule i j t t' s _ _ hc ⟨.int (g i j), H, I.tok _, ⟨_, rfl⟩, q⟩
theorem opI0 {f : Value → Value → Sem Value} {g : Int → Int → Int}
    (rule : ∀ (i j : Int) (t u : Tok) (s : Shared) (Q : Value → Shared → Prop) (E : Value → Shared → Prop), Q (.int (g i j) s.toks) { s with toks := s.toks + 1 } → wpAny (model X.prog X.w) X.A (f (.int i t) (.int j u)) Q E s) :
    OpR X f (rI0 fun i j => .int (g i j)) := by
  intro pins s σ H x y v u Q I rx ry h
  obtain ⟨i, j, rfl, rfl, q⟩ := h
  obtain ⟨t, rfl⟩ := rx
  obtain ⟨t', rfl⟩ := ry
  exact rule i j t t' s _ _ ⟨.int (g i j), H, I.tok _, ⟨_, rfl⟩, q⟩
theorem opB0 {f : Value → Value → Sem Value} {g : Int → Int → Bool}
    (rule : ∀ (i j : Int) (t u : Tok) (s : Shared) (Q : Value → Shared → Prop) (E : Value → Shared → Prop), Q (.bool (g i j)) s → wpAny (model X.prog X.w) X.A (f (.int i t) (.int j u)) Q E s) :
    OpR X f (rI0 fun i j => .bl (g i j)) := by
  intro pins s σ H x y v u Q I rx ry h
  obtain ⟨i, j, rfl, rfl, q⟩ := h
  obtain ⟨t, rfl⟩ := rx
  obtain ⟨t', rfl⟩ := ry
  exact rule i j t t' s _ _ ⟨.bl (g i j), H, I, rfl, q⟩
def CDiv (i j : Int) : Prop := 0 < j ∧ j < 1073741824
def CPow (i j : Int) : Prop := 0 ≤ j ∧ j ≤ 1000000 ∧ i.natAbs < 2 ^ 64
def CMul (i j : Int) : Prop := (-(2 ^ 64) < i ∧ i < 2 ^ 64) ∨ (-(2 ^ 64) < j ∧ j < 2 ^ 64)
theorem CMul.ok {i j : Int} (h : CMul i j) : IntMulOk i j := by
  rcases h with ⟨h1, h2⟩ | ⟨h1, h2⟩
  · exact .of_left (intBits_le_64 h1 h2)
  · exact .of_right (intBits_le_64 h1 h2)
theorem op_add : OpR X (binaryOp .Add) (rI0 fun i j => .int (i + j)) := opI0 fun _ _ _ _ _ _ _ q => add_int q
theorem op_sub : OpR X (binaryOp .Sub) (rI0 fun i j => .int (i - j)) := opI0 fun _ _ _ _ _ _ _ q => sub_int q
theorem op_mul : OpR X (binaryOp .Mult) (rI CMul fun i j => .int (i * j)) := opI fun _ _ _ _ _ _ _ hc q => mul_int q hc.ok
theorem op_fdiv : OpR X (binaryOp .FloorDiv) (rI CDiv fun i j => .int (i / j)) := opI fun i j _ _ _ _ _ hc q => by
  have h1 : (0 : Int) < j := hc.1
  have h2 : j < 1073741824 := hc.2
  exact floordiv_int (by omega) (by rw [Int.fdiv_eq_ediv_of_nonneg i (by omega)]; exact q) (.inl (PyProof.noPylong_small (by omega)))
theorem op_mod : OpR X (binaryOp .Mod) (rI (fun _ j => 0 < j) fun i j => .int (i % j)) := opI fun i j _ _ _ _ _ hc q => by
  have h1 : (0 : Int) < j := hc
  exact mod_int' (by omega) (by rw [Int.fmod_eq_emod_of_nonneg i (by omega)]; exact q)
theorem op_pow : OpR X (binaryOp .Pow) (rI CPow fun i j => .int (i ^ j.toNat)) := opI fun _ _ _ _ _ _ _ hc q => pow_int_small hc.1 hc.2.1 hc.2.2 q
theorem op_shl : OpR X (binaryOp .LShift) (rI CPow fun i j => .int (i * 2 ^ j.toNat)) := opI fun _ _ _ _ _ _ _ hc q => lshift_int_small hc.1 hc.2.1 hc.2.2 q
end
def scal : V → V → Bool
  | .non, .non => true | .non, .int _ => true | .int _, .non => true | .non, .bl _ => true | .bl _, .non => true | .non, .str _ => true | .str _, .non => true
  | .int _, .int _ => true | .bl _, .bl _ => true | .str _, .str _ => true | .byt _, .byt _ => true
  | .int _, .str _ => true | .str _, .int _ => true | .bl _, .str _ => true | .str _, .bl _ => true
  | _, _ => false
def rEq : R2 := fun x y H Q => scal x y = true ∧ Q (.bl (decide (x = y))) H
def rNe : R2 := fun x y H Q => scal x y = true ∧ Q (.bl (!decide (x = y))) H
theorem dec_int {i j : Int} : decide (V.int i = V.int j) = (i == j) := by
  rw [Bool.eq_iff_iff]
  simp
theorem dec_bl {i j : Bool} : decide (V.bl i = V.bl j) = (i == j) := by
  rw [Bool.eq_iff_iff]
  simp
theorem dec_str {i j : Str} : decide (V.str i = V.str j) = (i == j) := by
  rw [Bool.eq_iff_iff]
  simp
theorem dec_byt {i j : Array UInt8} : decide (V.byt i = V.byt j) = (i.toList == j.toList) := by
  rw [Bool.eq_iff_iff]
  cases i
  cases j
  simp
section
variable {X : Cx} {a b c : Expr} {ta tb tc : TE} {pos : Pos}
theorem fin_bl {pins : List (Addr × Obj)} {σ : St} {H : Hp} {s : Shared} {Q : VK} {k k' : Bool} (I : Inv X pins σ H s) (q : Q (.bl k) H) (e : k = k') : EP X pins σ Q (.bool k') s := by
  subst e
  exact ⟨.bl k, H, I, rfl, q⟩
theorem op_eq : OpR X (compareOp .Eq) rEq := by
  intro pins s σ H x y v u Q I rx ry h
  obtain ⟨hs, q⟩ := h
  cases x with
  | non =>
    cases rx
    cases y with
    | non => cases ry; exact PySem.EqNone.eq_none_none (fin_bl I q (by simp))
    | bl j => cases ry; exact PySem.EqNone.eq_none_bool (fin_bl I q (by simp))
    | int j => obtain ⟨t', rfl⟩ := ry; exact PySem.EqNone.eq_none_int (fin_bl I q (by simp))
    | str j => obtain ⟨t', rfl⟩ := ry; exact PySem.EqNone.eq_none_str (fin_bl I q (by simp))
    | _ => exact absurd (show false = true from hs) Bool.false_ne_true
  | bl i =>
    cases rx
    cases y with
    | non => cases ry; exact PySem.EqNone.eq_bool_none (fin_bl I q (by simp))
    | bl j => cases ry; exact eq_bool (fin_bl I q dec_bl)
    | str j => obtain ⟨t', rfl⟩ := ry; exact PySem.EqMixed.eq_bool_str (fin_bl I q (by simp))
    | _ => exact absurd (show false = true from hs) Bool.false_ne_true
  | int i =>
    obtain ⟨t, rfl⟩ := rx
    cases y with
    | non => cases ry; exact PySem.EqNone.eq_int_none (fin_bl I q (by simp))
    | int j => obtain ⟨t', rfl⟩ := ry; exact eq_int (fin_bl I q dec_int)
    | str j => obtain ⟨t', rfl⟩ := ry; exact PySem.EqMixed.eq_int_str (fin_bl I q (by simp))
    | _ => exact absurd (show false = true from hs) Bool.false_ne_true
  | str i =>
    obtain ⟨t, rfl⟩ := rx
    cases y with
    | non => cases ry; exact PySem.EqNone.eq_str_none (fin_bl I q (by simp))
    | bl j => cases ry; exact PySem.EqMixed.eq_str_bool (fin_bl I q (by simp))
    | int j => obtain ⟨t', rfl⟩ := ry; exact PySem.EqMixed.eq_str_int (fin_bl I q (by simp))
    | str j => obtain ⟨t', rfl⟩ := ry; exact eq_str (fin_bl I q dec_str)
    | _ => exact absurd (show false = true from hs) Bool.false_ne_true
  | byt i =>
    obtain ⟨t, rfl⟩ := rx
    cases y with
    | byt j => obtain ⟨t', rfl⟩ := ry; exact PySem.W.eq_bytes (fin_bl I q dec_byt)
    | _ => exact absurd (show false = true from hs) Bool.false_ne_true
  | _ => cases y <;> exact absurd (show false = true from hs) Bool.false_ne_true
theorem op_ne : OpR X (compareOp .NotEq) rNe := by
  intro pins s σ H x y v u Q I rx ry h
  obtain ⟨hs, q⟩ := h
  cases x with
  | non =>
    cases rx
    cases y with
    | non => cases ry; exact PySem.EqNone.ne_none_none (fin_bl I q (by simp))
    | bl j => cases ry; exact PySem.EqNone.ne_none_bool (fin_bl I q (by simp))
    | int j => obtain ⟨t', rfl⟩ := ry; exact PySem.EqNone.ne_none_int (fin_bl I q (by simp))
    | str j => obtain ⟨t', rfl⟩ := ry; exact PySem.EqNone.ne_none_str (fin_bl I q (by simp))
    | _ => exact absurd (show false = true from hs) Bool.false_ne_true
  | bl i =>
    cases rx
    cases y with
    | non => cases ry; exact PySem.EqNone.ne_bool_none (fin_bl I q (by simp))
    | bl j => cases ry; exact ne_bool (fin_bl I q (congrArg not dec_bl))
    | str j => obtain ⟨t', rfl⟩ := ry; exact PySem.EqMixed.ne_bool_str (fin_bl I q (by simp))
    | _ => exact absurd (show false = true from hs) Bool.false_ne_true
  | int i =>
    obtain ⟨t, rfl⟩ := rx
    cases y with
    | non => cases ry; exact PySem.EqNone.ne_int_none (fin_bl I q (by simp))
    | int j => obtain ⟨t', rfl⟩ := ry; exact ne_int (fin_bl I q (congrArg not dec_int))
    | str j => obtain ⟨t', rfl⟩ := ry; exact PySem.EqMixed.ne_int_str (fin_bl I q (by simp))
    | _ => exact absurd (show false = true from hs) Bool.false_ne_true
  | str i =>
    obtain ⟨t, rfl⟩ := rx
    cases y with
    | non => cases ry; exact PySem.EqNone.ne_str_none (fin_bl I q (by simp))
    | bl j => cases ry; exact PySem.EqMixed.ne_str_bool (fin_bl I q (by simp))
    | int j => obtain ⟨t', rfl⟩ := ry; exact PySem.EqMixed.ne_str_int (fin_bl I q (by simp))
    | str j => obtain ⟨t', rfl⟩ := ry; exact ne_str (fin_bl I q (congrArg not dec_str))
    | _ => exact absurd (show false = true from hs) Bool.false_ne_true
  | byt i =>
    obtain ⟨t, rfl⟩ := rx
    cases y with
    | byt j => obtain ⟨t', rfl⟩ := ry; exact PySem.W.ne_bytes (fin_bl I q (congrArg not dec_byt))
    | _ => exact absurd (show false = true from hs) Bool.false_ne_true
  | _ => cases y <;> exact absurd (show false = true from hs) Bool.false_ne_true
theorem op_lt : OpR X (compareOp .Lt) (rI0 fun i j => .bl (decide (i < j))) := opB0 fun _ _ _ _ _ _ _ q => lt_int q
theorem op_gt : OpR X (compareOp .Gt) (rI0 fun i j => .bl (decide (j < i))) := opB0 fun _ _ _ _ _ _ _ q => gt_int q
theorem op_ge : OpR X (compareOp .GtE) (rI0 fun i j => .bl (decide (j ≤ i))) := opB0 fun _ _ _ _ _ _ _ q => ge_int q
theorem nomark (b : Expr) {op : CmpOp} (h : op ≠ .In := by decide) (h2 : op ≠ .NotIn := by decide) : behindInMarks op b = false := by
  have e1 : (op == CmpOp.In) = false := by cases op <;> first | rfl | exact absurd rfl h
  have e2 : (op == CmpOp.NotIn) = false := by cases op <;> first | rfl | exact absurd rfl h2
  cases b <;> simp [behindInMarks, e1, e2]
theorem pe_cmpR {op : CmpOp} {r : R2} (ho : OpR X (compareOp op) r) (ha : PE X a ta) (hb : PE X b tb) (hm : behindInMarks op b = false) : PE X (.Compare a [op] [b] pos) (tOp r ta tb) := by
  intro pins s σ H Q I h
  exact wpAny_Compare1 (binT ha hb I h fun v u s2 x y H2 I2 rx ry q => ho pins s2 σ H2 x y v u Q I2 rx ry q) hm
def tTest (t : TE) : TT := fun σ H Q => t σ H fun x H' => ∃ k, x = .bl k ∧ Q k H'
theorem pt_cmpR {op : CmpOp} {r : R2} (ho : OpR X (compareOp op) r) (ha : PE X a ta) (hb : PE X b tb) (hm : behindInMarks op b = false) : PT X (.Compare a [op] [b] pos) (tTest (tOp r ta tb)) := by
  intro pins s σ H Q I h
  refine wpAny_isTrue_Compare1 (thn (ha pins s σ H _ I h) fun v s1 ⟨x, H1, I1, r1, q1⟩ => thn (hb pins s1 σ H1 _ I1 q1) fun u s2 ⟨y, H2, I2, r2, q2⟩ =>
    thn (ho pins s2 σ H2 x y v u _ I2 r1 r2 q2) fun c s3 ⟨z, H3, I3, r3, k, e, q3⟩ => ?_) hm
  subst e
  cases r3
  exact wpAny_truthy_bool ⟨H3, I3, q3⟩
theorem line63 : (sizeLine : Nat) < 2 ^ 63 := by rw [sizeLine_eq]; decide
theorem op_add_str : OpR X (binaryOp .Add) (fun x y H Q => ∃ i j, x = .str i ∧ y = .str j ∧ i.length + j.length ≤ sizeLine ∧ Q (.str (i ++ j)) H) := by
  intro pins s σ H x y v u Q I rx ry h
  obtain ⟨i, j, rfl, rfl, hz, q⟩ := h
  obtain ⟨t, rfl⟩ := rx
  obtain ⟨t', rfl⟩ := ry
  exact add_str (fun t' tk => ⟨.str (i ++ j), H, I.tok _, ⟨_, rfl⟩, q⟩) hz
theorem vals1 {x : V} {us : List Value} (r : Vals [x] us) : ∃ u, us = [u] ∧ RelV x u := by
  cases r with
  | cons r1 r2 => cases r2; exact ⟨_, rfl, r1⟩
theorem vals2 {x y : V} {us : List Value} (r : Vals [x, y] us) : ∃ u w', us = [u, w'] ∧ RelV x u ∧ RelV y w' := by
  cases r with
  | cons r1 r2 =>
    cases r2 with
    | cons r3 r4 => cases r4; exact ⟨_, _, rfl, r1, r3⟩
theorem call_max2 (hc : X.calm = true) : CallR X (.builtin "max") (fun xs H Q => ∃ i j, xs = [.int i, .int j] ∧ Q (.int (if j > i then j else i)) H) := by
  intro pins s σ H xs us Q I r h
  obtain ⟨i, j, rfl, q⟩ := h
  obtain ⟨u, w', rfl, ⟨t, rfl⟩, ⟨t', rfl⟩⟩ := vals2 r
  refine max_two_ints (I.ok.hd hc) fun h' tk k => ⟨_, H, I.kept k, ?_, q⟩
  by_cases hj : j > i
  · rw [if_pos hj, if_pos hj]; exact ⟨_, rfl⟩
  · rw [if_neg hj, if_neg hj]; exact ⟨_, rfl⟩
theorem call_min2 (hc : X.calm = true) : CallR X (.builtin "min") (fun xs H Q => ∃ i j, xs = [.int i, .int j] ∧ Q (.int (if j < i then j else i)) H) := by
  intro pins s σ H xs us Q I r h
  obtain ⟨i, j, rfl, q⟩ := h
  obtain ⟨u, w', rfl, ⟨t, rfl⟩, ⟨t', rfl⟩⟩ := vals2 r
  refine min_two_ints (I.ok.hd hc) fun h' tk k => ⟨_, H, I.kept k, ?_, q⟩
  by_cases hj : j < i
  · rw [if_pos hj, if_pos hj]; exact ⟨_, rfl⟩
  · rw [if_neg hj, if_neg hj]; exact ⟨_, rfl⟩
theorem call_divmod : CallR X (.builtin "divmod") (fun xs H Q => ∃ i j, xs = [.int i, .int j] ∧ CDiv i j ∧ ∀ p, H p = none → Q (.ref p) (upd H p (.tup [.int (i / j), .int (i % j)]))) := by
  intro pins s σ H xs us Q I r h
  obtain ⟨i, j, rfl, ⟨h1, h2⟩, q⟩ := h
  obtain ⟨u, w', rfl, ⟨t, rfl⟩, ⟨t', rfl⟩⟩ := vals2 r
  refine divmod_int (by omega) ?_ (.inl (PyProof.noPylong_small (by omega)))
  rw [Int.fdiv_eq_ediv_of_nonneg i (by omega), Int.fmod_eq_emod_of_nonneg i (by omega)]
  have hn : H s.heap.objs.size = none := I.hok.fresh (Nat.le_refl _)
  refine ⟨.ref s.heap.objs.size, _, ?_, rfl, q _ hn⟩
  refine I.laid (fun b o e => Heap.get?_push_of_some _ e) (Nat.le_refl _) ⟨by simp only [List.length_cons, List.length_nil]; rw [sizeLine_eq]; decide, [.int (i / j) s.toks, .int (i % j) (s.toks + 1)], .cons ⟨_, rfl⟩ (.cons ⟨_, rfl⟩ .nil), ?_⟩
  exact ⟨_, Heap.get?_push_size s.heap rfl, rfl, 0, rfl⟩
end
end L2
namespace L2
open PySem PySem.Spec PyProof.Rows
structure ObjM (h : Heap) (x dx C : Addr) (mA : Str → Option Value) : Prop where
  obj : h.get? x = some (PySem.W.instObj C dx)
  ns : h.Ns1 dx mA
  ne : dx ≠ x
theorem lookIn_ns {h : Heap} {dx : Addr} {mA : Str → Option Value} (n : h.Ns1 dx mA) : ∃ od, h.get? dx = some od ∧ ∀ name, PySem.W.lookIn name od = some (mA name) := by
  obtain ⟨o, es, ep, ho, hd, hk, _, hm⟩ := n
  refine ⟨o, ho, fun name => ?_⟩
  have e := hm name
  unfold nsFind findBy at e
  rw [← Array.find?_toList] at e
  unfold PySem.W.lookIn
  rw [hd]
  dsimp only
  split
  · rename_i y q
    rw [q] at e
    exact congrArg some e
  · rename_i q
    rw [q] at e
    have a : es.toList.any (·.refKey) = false := by
      rw [List.any_eq_false]
      intro y hy
      obtain ⟨z, t, hkey⟩ := hk y (Array.mem_toList_iff.mp hy)
      simp [DictEntry.refKey, hkey]
    have a' : ¬ es.toList.any (·.refKey) = true := by rw [a]; exact Bool.false_ne_true
    rw [if_neg a']
    exact congrArg some e
theorem ObjM.look {h : Heap} {x dx C : Addr} {mA : Str → Option Value} (I : ObjM h x dx C mA) : ∃ od, PySem.W.InstAt h x (PySem.W.instObj C dx) C (some od) ∧ ∀ name, PySem.W.lookIn name od = some (mA name) :=
  let ⟨od, ho, hl⟩ := lookIn_ns I.ns
  ⟨od, ⟨I.obj, rfl, rfl, ho⟩, hl⟩
section
variable {prog : Program} {w : World} {A : Around} {E : Value → Shared → Prop} {s : Shared} {K : PySem.W.Frag} {x dx C f : Addr} {mA : Str → Option Value} {name : Str} {v : Value}
end
theorem RelO.some_of {v : V} {o : Option Value} (r : RelO (some v) o) : ∃ u, o = some u ∧ RelV v u := by
  cases o with
  | none => exact (show False from r).elim
  | some u => exact ⟨u, rfl, r⟩
section
variable {P : Program} {w : World} {H H' : Hp} {h h' : Heap} {a C dx : Addr} {fs fs' : List (Str × V)}
theorem ins_get (hok : HOk P w H h) (e : H a = some (.ins C dx fs)) : ∃ mA, ObjM h a dx C mA ∧ (∀ f, RelO (fs.lookup f) (mA f)) ∧ PySem.Within mA (fs.map (·.1)) ∧ fs.length ≤ 1000 ∧ H dx = some (.own a) := by
  obtain ⟨d, z, ne, ob, mA, n, r, q⟩ := (show ObjOk P w H h a (.ins C dx fs) from hok a _ e)
  exact ⟨mA, ⟨ob, n, ne⟩, r, q, z, d⟩
end
structure Cls (K : PySem.W.Frag) (C : Addr) : Prop where
  pg : PySem.W.plainGet K C Str.empty = true
  hd : PySem.W.hasDictIn K C = true
  po : PySem.W.plainOver K C = true
  sa : PySem.W.findIn K (.ref C) "__setattr__" = some (some (.builtin "object.__setattr__"))
theorem Cls.get {K : PySem.W.Frag} {C : Addr} (c : Cls K C) (f : Str) : PySem.W.plainGet K C f = true := c.pg
section
variable {X : Cx} {pins : List (Addr × Obj)} {σ : St} {H : Hp} {s : Shared} {a C dx : Addr} {fs : List (Str × V)} {f : Str} {v : V} {A : Around} {E : Value → Shared → Prop}
end
section
variable {X : Cx} {o e value : Expr} {f : Str} {pos pos' tpos : Pos} {ta tv : TE}
end
section
variable {X : Cx} {pins : List (Addr × Obj)} {σ : St} {H : Hp} {s : Shared} {A : Around} {E : Value → Shared → Prop} {Q : Value → Shared → Prop} {c : Value} {b : Bool}
inductive TyOf (K : PySem.W.Frag) (H : Hp) : V → Value → Prop where
  | non : TyOf K H .non (.type "NoneType")
  | bl (x : Bool) : TyOf K H (.bl x) (.type "bool")
  | int (i : Int) : TyOf K H (.int i) (.type "int")
  | str (x : Str) : TyOf K H (.str x) (.type "str")
  | flt (x : UInt64) : TyOf K H (.flt x) (.type "float")
  | lst {a : Addr} {xs : List V} (e : H a = some (.lst xs)) : TyOf K H (.ref a) (.type "list")
  | frz {a : Addr} {o : Obj} {xs : List V} (e : H a = some (.frz o (.lst xs))) : TyOf K H (.ref a) (.type "list")
  | tup {a : Addr} {xs : List V} (e : H a = some (.tup xs)) : TyOf K H (.ref a) (.type "tuple")
  | dK {a : Addr} {kvs : List (Key × V)} (e : H a = some (.dK kvs)) : TyOf K H (.ref a) (.type "dict")
  | dT {a : Addr} {kvs : List (List Key × V)} (e : H a = some (.dT kvs)) : TyOf K H (.ref a) (.type "dict")
  | ins {a C dx : Addr} {fs : List (Str × V)} (e : H a = some (.ins C dx fs)) (cl : Cls K C) (ha : PySem.W.findIn K (.ref C) "__class__" = some (some (.builtin "object.__class__")))
      (hn : PySem.W.specialIn K (.builtin "object.__class__") "__get__" = some (some (.builtin "getset_descriptor.__get__"))) (htk : PySem.W.takesIn K (.builtin "object.__class__") = some true)
      (hm : PySem.W.mroIn K C (.type "object") = some true) : TyOf K H (.ref a) (.ref C)
theorem isinst_ok {x : V} {u t : Value} (I : Inv X pins σ H s) (rx : RelV x u) (ty : TyOf X.K H x t) (e : PySem.W.kitOne X.K t c = some b) (h : ∀ tk, Q (.bool b) { s with toks := tk }) :
    wpAny (model X.prog X.w) A (call (.builtin "isinstance") [u, c]) Q E s := by
  cases ty with
  | non => cases (show u = Value.none from rx); exact PySem.W.kia_one PySem.W.kitx_none I.kIn True.intro e (fun z => nomatch z) h
  | bl y => cases (show u = Value.bool y from rx); exact PySem.W.kia_one PySem.W.kitx_bool I.kIn True.intro e (fun z => nomatch z) h
  | int i => obtain ⟨t, q⟩ := (show ∃ t, u = Value.int i t from rx); cases q; exact PySem.W.kia_one PySem.W.kitx_int I.kIn True.intro e (fun z => nomatch z) h
  | str y => obtain ⟨t, q⟩ := (show ∃ t, u = Value.str y t from rx); cases q; exact PySem.W.kia_one PySem.W.kitx_str I.kIn True.intro e (fun z => nomatch z) h
  | flt y => obtain ⟨t, q⟩ := (show ∃ t, u = Value.float y t from rx); cases q; exact PySem.W.kia_one PySem.W.kitx_float I.kIn True.intro e (fun z => nomatch z) h
  | @lst a xs ea =>
    cases (show u = Value.ref a from rx)
    obtain ⟨_, _, n, _, h1⟩ := (show ObjOk X.prog X.w H s.heap a (.lst xs) from I.hok a _ ea)
    exact PySem.W.kia_one PySem.W.kitx_list I.kIn ⟨_, h1, rfl⟩ e (fun z => nomatch z) h
  | @frz a ob xs ea =>
    cases (show u = Value.ref a from rx)
    obtain ⟨_, _, _, n, _, h1⟩ := (show ObjOk X.prog X.w H s.heap a (.frz ob (.lst xs)) from I.hok a _ ea)
    exact PySem.W.kia_one PySem.W.kitx_list I.kIn ⟨_, h1, rfl⟩ e (fun z => nomatch z) h
  | @tup a xs ea =>
    cases (show u = Value.ref a from rx)
    obtain ⟨_, _, _, p⟩ := (show ObjOk X.prog X.w H s.heap a (.tup xs) from I.hok a _ ea)
    obtain ⟨o, h1, h2, _⟩ := p
    exact PySem.W.kia_one PySem.W.kitx_tuple I.kIn ⟨o, h1, h2⟩ e (fun z => nomatch z) h
  | @dK a kvs ea =>
    cases (show u = Value.ref a from rx)
    obtain ⟨_, _, vs, _, p⟩ := (show ObjOk X.prog X.w H s.heap a (.dK kvs) from I.hok a _ ea)
    obtain ⟨o, es, ep, h1, h2, _⟩ := p
    exact PySem.W.kia_one PySem.W.kitx_dict I.kIn ⟨o, h1, h2.1⟩ e (fun z => nomatch z) h
  | @dT a kvs ea =>
    cases (show u = Value.ref a from rx)
    obtain ⟨_, _, xs, _, o, es, ep, h1, h2, _⟩ := (show ObjOk X.prog X.w H s.heap a (.dT kvs) from I.hok a _ ea)
    exact PySem.W.kia_one PySem.W.kitx_dict I.kIn ⟨o, h1, h2.1⟩ e (fun z => nomatch z) h
  | @ins a C dx fs ea cl ha hn htk hm =>
    cases (show u = Value.ref a from rx)
    obtain ⟨mA, O, _⟩ := ins_get I.hok ea
    obtain ⟨od, J, _⟩ := O.look
    exact PySem.W.kia_one (PySem.W.kitx_own (cl.get _) cl.hd ha hn htk hm) I.kIn J e (fun z => nomatch z) h
end
end L2
namespace L2
open PySem PySem.Spec PyProof.Rows
structure Room (k : Nat) (A : Around) : Prop where
  hd : A.handled = none
  dp : A.depth + 3 * k + 5 < recursionLimit
  un : A.units + 16 * k + 200 < cLine
  gd : A.guards = some []
theorem Room.mono {j k : Nat} {A : Around} (r : Room k A) (h : j ≤ k) : Room j A := ⟨r.hd, by have := r.dp; omega, by have := r.un; omega, r.gd⟩
theorem Room.deeper {k : Nat} {A : Around} (r : Room (k + 1) A) (env : Env) : Room k (A.deeper env) :=
  ⟨r.hd, by have := r.dp; show A.depth + 1 + 3 * k + 5 < _; omega, by have := r.un; show A.units + 3 + 16 * k + 200 < _; omega, r.gd⟩
theorem Room.depth {k : Nat} {A : Around} (r : Room k A) : A.depth < recursionLimit := by have := r.dp; omega
theorem Room.units {k : Nat} {A : Around} (r : Room k A) : A.units + 64 < cLine := by have := r.un; omega
def tNil : TA := fun _ H Q => Q [] H
def tCons (ta : TE) (tr : TA) : TA := fun σ H Q => ta σ H fun x H1 => tr σ H1 fun xs H2 => Q (x :: xs) H2
section
variable {X : Cx} {e : Expr} {es : List Expr} {te : TE} {t : TA} {pos : Pos}
theorem pa_nil : PA X [] tNil := fun _ _ _ _ H Q I h => Calls.spliced_nil ⟨[], H, I, .nil, h⟩
theorem pa_cons (ha : PE X e te) (hr : PA X es t) (hs : starEach (e :: es) X.env = (false, eval e X.env) :: starEach es X.env := by rfl) : PA X (e :: es) (tCons te t) := by
  intro pos pins s σ H Q I h
  rw [hs]
  show wpAny _ _ (spliced ((false, eval e X.env) :: backTo pos (starEach es X.env))) _ _ s
  refine Calls.spliced_cons (thn (ha pins s σ H _ I h) fun u s1 ⟨x, H1, I1, r1, q1⟩ => ?_)
  exact thn (hr pos pins s1 σ H1 _ I1 q1) fun us s2 ⟨xs, H2, I2, r2, q2⟩ => ⟨x :: xs, H2, I2, .cons r1 r2, q2⟩
def tTup (t : TA) : TE := fun σ H Q => t σ H fun xs H1 => xs.length ≤ sizeLine ∧ ∀ p, H1 p = none → Q (.ref p) (upd H1 p (.tup xs))
def tLst (t : TA) : TE := fun σ H Q => t σ H fun xs H1 => xs.length ≤ sizeLine ∧ ∀ p, H1 p = none → Q (.ref p) (upd H1 p (.lst xs))
theorem pe_tup {x1} (h : PA X es t) : PE X (.Tuple es x1 pos) (tTup t) := by
  intro pins s σ H Q I hq
  refine wpAny_Tuple_spliced (thn (h pos pins s σ H _ I hq) fun us s1 ⟨xs, H1, I1, r, z, q⟩ => ⟨by rw [← r.length]; exact z, ?_⟩)
  have hf : H1 s1.heap.objs.size = none := I1.hok.fresh (Nat.le_refl _)
  refine ⟨.ref s1.heap.objs.size, upd H1 s1.heap.objs.size (.tup xs), I1.laid (t' := s1.toks) (fun b u e => Heap.get?_push_of_some _ e) (Nat.le_refl _) ?_, rfl, q _ hf⟩
  exact ⟨z, us, r, ⟨_, Heap.get?_push_size _ rfl, rfl, _, rfl⟩⟩
theorem pe_lst (h : PA X es t) : PE X (.List es pos) (tLst t) := by
  intro pins s σ H Q I hq
  refine wpAny_List_spliced (thn (h pos pins s σ H _ I hq) fun us s1 ⟨xs, H1, I1, r, z, q⟩ => ⟨by rw [← r.length]; exact z, ?_⟩)
  have hf : H1 s1.heap.objs.size = none := I1.hok.fresh (Nat.le_refl _)
  refine ⟨.ref s1.heap.objs.size, upd H1 s1.heap.objs.size (.lst xs), I1.laid (t' := s1.toks) (fun b u e => Heap.get?_push_of_some _ e) (Nat.le_refl _) ?_, rfl, q _ hf⟩
  exact ⟨z, us, 0, r, Heap.get?_push_size _ rfl⟩
end
abbrev Sp := List V → Hp → VK → XK → Prop
abbrev CXT := List Env → Hp → Shared → XK → Value → Shared → Prop
structure Env0 (P : Program) (w : World) (K : PySem.W.Frag) (mg : Str → Option Value) (base : Heap) (A : Around) (outer : List Env) (s : Shared) (H : Hp) : Prop where
  frames : A.frames = some outer
  mod : Mod K mg base
  bs : ∀ b o, base.get? b = some o → s.heap.get? b = some o ∧ H b = none
  bsz : base.objs.size ≤ s.heap.objs.size
  funs : s.heap.FunFrames base outer
  frf : ∀ b ∈ frs outer, H b = none
  hok : HOk P w H s.heap
  bare : AllBare s.gens
def CE (outer : List Env) (P : Program) (w : World) (H : Hp) (s : Shared) (Q : VK) (u : Value) (s' : Shared) : Prop :=
  ∃ v H', s'.os = s.os ∧ AllBare s'.gens ∧ Un (frs outer) [] H H' s.heap s'.heap ∧ HOk P w H' s'.heap ∧ RelV v u ∧ Q v H'
def CR (CX : CXT) (outer : List Env) (P : Program) (w : World) (H : Hp) (s : Shared) (Q : VK) (E : XK) (r : Result) (s' : Shared) : Prop :=
  match r with
  | .ok (.ret u) => CE outer P w H s Q u s'
  | .ok _ => False
  | .error e => CX outer H s E e s'
structure FnOk (P : Program) (w : World) (K : PySem.W.Frag) (mg : Str → Option Value) (base : Heap) (CX : CXT) (k : Nat) (f : Addr) (fd : FuncData) (ps : List Str) (sp : Sp) : Prop where
  len : ∀ vs H Q E, sp vs H Q E → vs.length = ps.length
  run : ∀ (A : Around) (outer : List Env) (s : Shared) (H : Hp) (args : Args) (us : List Value) (vs : List V) (Q : VK) (E : XK), Room k A → Env0 P w K mg base A outer s H → BindsTo s fd args (ps.zip us) → Vals vs us → sp vs H Q E →
    codeAny (model P w) A (.call (.ref f) args) (CR CX outer P w H s Q E) s
section
variable {X : Cx} {pins : List (Addr × Obj)} {σ : St} {H : Hp} {s s' : Shared}
theorem Inv.env0 (I : Inv X pins σ H s) : Env0 X.prog X.w X.K X.mg X.base X.A X.stack s H :=
  ⟨I.ok.frames, I.ok.mod, I.bs, Nat.le_trans I.ok.bsz I.sz, I.stack, I.stkFree, I.hok, I.bare⟩
theorem Inv.after {Q : VK} {u : Value} (I : Inv X pins σ H s) (h : CE X.stack X.prog X.w H s Q u s') : EP X pins σ Q u s' := by
  obtain ⟨v, H', os, bare, un, hok, r, q⟩ := h
  obtain ⟨hh, g, d, t, os'⟩ := s'
  obtain rfl : os' = s.os := os
  exact ⟨v, H', I.call (h' := hh) (g' := g) (d' := d) (t' := t) (ch := []) un hok bare (fun b z => absurd z (by simp)), r, q⟩
end
def tCall (sp : Sp) (dvs : List V) (E : XK) (t : TA) : TE := fun σ H Q => t σ H fun vs H1 => sp (vs ++ dvs) H1 Q E
def Binds (K : PySem.W.Frag) (fd : FuncData) (ps : List Str) (ds : List Value) : Prop :=
  ∀ (s : Shared) (us : List Value), K.In s.heap → (us ++ ds).length = ps.length → BindsTo s fd ⟨us, []⟩ (ps.zip (us ++ ds))
theorem Binds.all {K : PySem.W.Frag} {fd : FuncData} {ps : List Str} (h : ∀ us : List Value, us.length = ps.length → bindArgs fd ⟨us, []⟩ = pure (ps.zip us)) : Binds K fd ps [] := fun s us _ hl => by
  rw [List.append_nil] at hl ⊢
  exact .of_eq (h us hl)
def Passes (CX : CXT) (X : Cx) (E : XK) : Prop := ∀ (pins : List (Addr × Obj)) (σ : St) (H : Hp) (s : Shared) (e : Value) (s' : Shared), Inv X pins σ H s → CX X.stack H s E e s' → X.xe e s'
section
variable {X : Cx} {CX : CXT} {k : Nat} {f C : Addr} {fd : FuncData} {ps : List Str} {sp : Sp} {dvs : List V} {ds : List Value} {E : XK} {x m : Str} {p pos apos : Pos} {e o : Expr} {es : List Expr} {ta : TE} {t : TA}
theorem run_fn {pins : List (Addr × Obj)} {σ : St} {H : Hp} {s : Shared} {Q : VK} {us : List Value} {vs : List V} (F : FnOk X.prog X.w X.K X.mg X.base CX k f fd ps sp) (hr : Room k X.A) (hb : Binds X.K fd ps ds) (hd : Vals dvs ds) (hx : Passes CX X E)
    (I : Inv X pins σ H s) (r : Vals vs us) (h : sp (vs ++ dvs) H Q E) : wpAny (model X.prog X.w) X.A (call (.ref f) us) (EP X pins σ Q) X.xe s := by
  have r2 : Vals (vs ++ dvs) (us ++ ds) := r.append hd
  have hl : (us ++ ds).length = ps.length := by rw [← r2.length]; exact F.len _ _ _ _ h
  refine wpAny_call (codeAny_mono (F.run X.A X.stack s H ⟨us, []⟩ (us ++ ds) (vs ++ dvs) Q E hr I.env0 (hb s us I.kIn hl) r2 h) fun r s' hq => ?_)
  cases r with
  | error e => exact hx pins σ H s e s' I hq
  | ok fl =>
    cases fl with
    | ret u => exact I.after hq
    | next => exact False.elim hq
    | brk => exact False.elim hq
    | cont => exact False.elim hq
theorem pe_call (F : FnOk X.prog X.w X.K X.mg X.base CX k f fd ps sp) (hr : Room k X.A) (hg : Gl X x) (hm : X.mg x = some (.ref f)) (hk : PySem.W.keepIn X.K (.ref f) = true) (hb : Binds X.K fd ps ds) (hd : Vals dvs ds) (hx : Passes CX X E)
    (ha : PA X (e :: es) t) (hdb : (x == ("__debug__" : Str)) = false := by decide) (he : starEach (e :: es) X.env = (false, eval e X.env) :: starEach es X.env := by rfl) (hpl : (backTo pos (starEach es X.env)).any (·.1) = false := by rfl) :
    PE X (.Call (.Name x p) (e :: es) [] pos) (tCall sp dvs E t) := by
  intro pins s σ H Q I h
  refine wpAny_Call_Name_kw (ld_glob I hg hm ?_ hdb)
  refine PySem.W.callWith_K (h₀ := X.base) I.ok.mod.kin hk (thn (ha pos pins s σ H _ I h) fun us s1 ⟨vs, H1, I1, r, q⟩ => ⟨I1.kIn, ?_⟩) he hpl
  exact run_fn F hr hb hd hx I1 r q
end
section
variable {X : Cx} {CX : CXT} {k : Nat} {f C : Addr} {fd : FuncData} {ps ks : List Str} {sp : Sp} {E : XK} {x m : Str} {p pos apos kpos : Pos} {e o : Expr} {es : List Expr} {kws : List Keyword} {te ta : TE} {t tk : TA} {nm : Option Str}
variable {g : List Value → List Value → List Value} {gV : List V → List V → List V}
end
structure FnScope (N P : List Str) (sc : Scope) : Prop where
  kind : sc.kind = .function
  co : sc.isCoroutine = false
  gen : sc.isGenerator = false
  nd : N.Nodup
  pre : N.take P.length = P
  par : ∀ x ∈ P, sc.names.lookup x = some .local ∨ sc.names.lookup x = some .cell
  nofree : ∀ y ∈ sc.names, y.2 ≠ .free
theorem bindL_out {kindOf : Str → Option NameKind} {x : Str} : ∀ {binds : List (Str × Value)} {m : Str → Option Value}, (∀ v, (x, v) ∉ binds) → bindL kindOf binds m x = m x
  | [], _, _ => rfl
  | (n, v) :: r, m, h => by
    unfold bindL
    rw [bindL_out fun w hw => h w (List.mem_cons_of_mem _ hw)]
    split
    · have : x ≠ n := by rintro rfl; exact h v List.mem_cons_self
      simp [this]
    · rfl
theorem bindC_out {kindOf : Str → Option NameKind} {x : Str} : ∀ {binds : List (Str × Value)} {m : Str → Option Value}, (∀ v, (x, v) ∉ binds) → bindC kindOf binds m x = m x
  | [], _, _ => rfl
  | (n, v) :: r, m, h => by
    unfold bindC
    rw [bindC_out fun w hw => h w (List.mem_cons_of_mem _ hw)]
    split
    · rfl
    · have : x ≠ n := by rintro rfl; exact h v List.mem_cons_self
      simp [this]
theorem bindL_get {kindOf : Str → Option NameKind} {x : Str} {v : Value} : ∀ {P : List Str} {vs : List Value} {i : Nat} {m : Str → Option Value}, P.Nodup → P[i]? = some x → vs[i]? = some v → kindOf x = some .local →
    bindL kindOf (P.zip vs) m x = some v
  | [], _, _, _, _, h, _, _ => by simp at h
  | _ :: _, [], _, _, _, _, h, _ => by simp at h
  | p :: P, w :: vs, 0, m, nd, h1, h2, hk => by
    simp at h1 h2; subst h1; subst h2
    show bindL kindOf ((p, w) :: P.zip vs) m p = _
    unfold bindL
    rw [bindL_out fun v hv => (List.nodup_cons.mp nd).1 (List.of_mem_zip hv).1, if_pos hk]
    simp
  | p :: P, w :: vs, i + 1, m, nd, h1, h2, hk => by
    show bindL kindOf ((p, w) :: P.zip vs) m x = _
    unfold bindL
    exact bindL_get (i := i) (List.nodup_cons.mp nd).2 (by simpa using h1) (by simpa using h2) hk
theorem bindC_get {kindOf : Str → Option NameKind} {x : Str} {v : Value} : ∀ {P : List Str} {vs : List Value} {i : Nat} {m : Str → Option Value}, P.Nodup → P[i]? = some x → vs[i]? = some v → kindOf x ≠ some .local →
    bindC kindOf (P.zip vs) m x = some v
  | [], _, _, _, _, h, _, _ => by simp at h
  | _ :: _, [], _, _, _, _, h, _ => by simp at h
  | p :: P, w :: vs, 0, m, nd, h1, h2, hk => by
    simp at h1 h2; subst h1; subst h2
    show bindC kindOf ((p, w) :: P.zip vs) m p = _
    unfold bindC
    rw [bindC_out fun v hv => (List.nodup_cons.mp nd).1 (List.of_mem_zip hv).1, if_neg hk]
    simp
  | p :: P, w :: vs, i + 1, m, nd, h1, h2, hk => by
    show bindC kindOf ((p, w) :: P.zip vs) m x = _
    unfold bindC
    exact bindC_get (i := i) (List.nodup_cons.mp nd).2 (by simpa using h1) (by simpa using h2) hk
def start (N : List Str) (vs : List V) : St := vs.map some ++ List.replicate (N.length - vs.length) none
def cxOf (CX : CXT) (P : Program) (w : World) (K : PySem.W.Frag) (mg : Str → Option Value) (base : Heap) (N : List Str) (qual : Str) (scope : Scope) (f : Addr) (cd : Value) (A : Around) (outer : List Env) (s : Shared) (H : Hp) (E : XK) : Cx where
  prog := P
  w := w
  K := K
  mg := mg
  base := base
  A := A.deeper (envOfC qual scope s.heap.objs.size f cd)
  N := N
  s₀ := s
  H₀ := H
  env := envOfC qual scope s.heap.objs.size f cd
  outer := outer
  stack := envOfC qual scope s.heap.objs.size f cd :: outer
  ex := []
  calm := true
  fn := fun _ => true
  pn := []
  xe := fun e s' => wpAny (model P w) (A.deeper (envOfC qual scope s.heap.objs.size f cd)) (leaving (envOfC qual scope s.heap.objs.size f cd) e) (fun _ s'' => CX outer H s E e s'') (fun e' s'' => CX outer H s E e' s'') s'
theorem cell_has {sc : Scope} {n : Nat} {x : Str} (h : sc.names.lookup x = some .cell) : ∃ c, (cellsFrom n sc.names []).lookup x = some c := by
  have q := PySem.W.cellsFrom_some sc.names n [] (.inl h)
  exact Option.isSome_iff_exists.mp q
theorem inv_start {CX : CXT} {P : Program} {w : World} {K : PySem.W.Frag} {mg : Str → Option Value} {base : Heap} {N ps : List Str} {qual : Str} {scope : Scope} {f : Addr} {cd : Value} {A : Around} {outer : List Env} {s s1 : Shared} {H : Hp} {E : XK} {us : List Value} {vs : List V}
    (S : FnScope N ps scope) (hd : A.handled = none) (e0 : Env0 P w K mg base A outer s H) (hl : vs.length = ps.length) (r : Vals vs us)
    (x : InCallC s s.heap.objs.size (bindL (envOfC qual scope s.heap.objs.size f cd).kindOf (ps.zip us) fun _ => none) (cellsFrom (s.heap.objs.size + 1) scope.names []) (bindC (envOfC qual scope s.heap.objs.size f cd).kindOf (ps.zip us) fun _ => none) s1) :
    Inv (cxOf CX P w K mg base N qual scope f cd A outer s H E) [] (start N vs) H s1 := by
  have hpl : ps.length ≤ N.length := by have := congrArg List.length S.pre; rw [List.length_take] at this; omega
  obtain ⟨h1, tk, rfl, hk⟩ := x.done
  have noA : ∀ b : Addr, b ∉ (cxOf CX P w K mg base N qual scope f cd A outer s H E).ex := fun b z => absurd (show b ∈ ([] : List Addr) from z) (by simp)
  refine ⟨⟨e0.mod, S.kind, rfl, rfl, Nat.le_refl _, fun y z c h1 h2 => ?_, fun y hy => ?_, fun y c _ h => ?_, fun _ => hd, Around.frames_deeper e0.frames, .inr ⟨rfl, rfl⟩, fun b z => absurd z (noA b), e0.bs, e0.bsz, fun b _ _ => noA b, fun b z => absurd z (noA b), e0.funs, e0.frf⟩,
    rfl, e0.bare, Un.kept hk, ⟨_, x.toInCall.ns, fun i y v h1 h2 h3 => ?_⟩, fun y c h => ⟨_, x.cell y c h⟩, e0.hok.fresh (Nat.le_refl _), fun y c h => ?_, fun p hp => absurd (show p ∈ ([] : List (Addr × Obj)) from hp) (by simp), e0.hok.kept hk, ?_⟩
  · exact name_of_addr x.apart (PySem.mem_of_lookup h1) (PySem.mem_of_lookup h2)
  · have hy : scope.names.lookup y = some .cell ∨ scope.names.lookup y = some .free := hy
    rcases hy with hy | hy
    · exact cell_has hy
    · exact absurd rfl (S.nofree _ (PySem.mem_of_lookup hy))
  · exact Nat.le_of_lt (x.above y c (PySem.mem_of_lookup h))
  · have hi : i < vs.length := by
      unfold start at h2
      by_cases hi : i < vs.length
      · exact hi
      · rw [List.getElem?_append_right (by simpa using hi)] at h2
        rw [List.getElem?_replicate] at h2
        split at h2 <;> cases h2
    have ha : vs[i]? = some v := by
      unfold start at h2
      rw [List.getElem?_append_left (by simpa using hi), List.getElem?_map] at h2
      cases e : vs[i]? with
      | none => rw [e] at h2; cases h2
      | some a => rw [e] at h2; cases h2; rfl
    obtain ⟨u, hu, rv⟩ := r.get ha
    have hp : ps[i]? = some y := by
      rw [← S.pre, List.getElem?_take_of_lt (by omega)]; exact h1
    have ndP : ps.Nodup := by rw [← S.pre]; exact S.nd.sublist (List.take_sublist _ _)
    refine ⟨u, rv, ?_⟩
    rcases S.par y (List.mem_of_getElem? hp) with k | k
    · exact .inl ⟨k, bindL_get ndP hp hu k⟩
    · obtain ⟨c, e⟩ := cell_has (n := s.heap.objs.size + 1) k
      refine .inr ⟨.inl k, c, e, ?_⟩
      have q := x.cell y c e
      rw [bindC_get ndP hp hu (by show scope.names.lookup y ≠ _; rw [k]; decide)] at q
      exact q
  · exact e0.hok.fresh (Nat.le_of_lt (x.above y c (PySem.mem_of_lookup h)))
  · unfold start
    show _ = N.length
    rw [List.length_append, List.length_map, List.length_replicate]
    omega
theorem fn_of {CX : CXT} {P : Program} {w : World} {K : PySem.W.Frag} {mg : Str → Option Value} {base : Heap} {k : Nat} {f : Addr} {name qual : Str} {params : Arguments} {body : List Stmt} {scope : Scope} {dV kV doc pm cdv ct oc : Value} {an od : Option Addr}
    {osl : Array (Option Value)} {N ps : List Str} {sp : Sp} (lk : K.lookup f = some ⟨oc, od, .func (PySem.W.fnOf name qual params body scope dV kV doc pm an cdv ct), osl⟩) (hcd : PySem.W.codeIn K cdv qual = true) (S : FnScope N ps scope)
    (len : ∀ vs H Q E, sp vs H Q E → vs.length = ps.length)
    (hbody : ∀ (A : Around) (outer : List Env) (s : Shared) (H : Hp) (vs : List V) (Q : VK) (E : XK), Room k (A.deeper (envOfC qual scope s.heap.objs.size f cdv)) → sp vs H Q E →
      ∃ t, PSs (cxOf CX P w K mg base N qual scope f cdv A outer s H E) body t ∧ t { nx := fun _ H' => Q .non H', rt := Q } (start N vs) H) :
    FnOk P w K mg base CX (k + 1) f (PySem.W.fnOf name qual params body scope dV kV doc pm an cdv ct) ps sp := by
  refine ⟨len, fun A outer s H args us vs Q E hr e0 hb r hsp => ?_⟩
  have hl := len _ _ _ _ hsp
  have KX : K.In s.heap := e0.mod.kin.keeps fun b o e => (e0.bs b o e).1
  have lim : s.heap.NoLimit := e0.mod.nolimit.keeps fun b o e => (e0.bs b o e).1
  have hkind : ∀ y ∈ ps.zip us, scope.names.lookup y.1 = some .local ∨ (scope.names.lookup y.1 = some .cell ∧ ((cellsFrom (s.heap.objs.size + 1) scope.names []).lookup y.1).isSome = true) := fun ⟨n, v⟩ hy => by
    rcases S.par n (List.of_mem_zip hy).1 with q | q
    · exact .inl q
    · exact .inr ⟨q, PySem.W.cellsFrom_some _ _ _ (.inl q)⟩
  refine codeAny_call_function hr.depth (KX _ _ lk) rfl S.co S.gen rfl (PySem.W.codeRec_of KX hcd) (hb _ _ _ _ ?_)
  refine wpAny_newFunctionEnv_cells S.kind hkind fun env he s1 x => ?_
  subst he
  refine ⟨lim.keeps x.toInCall.keep, codeAny_func ?_⟩
  obtain ⟨t, ht, hq⟩ := hbody A outer s H vs Q E (hr.deeper _) hsp
  have I : Inv (cxOf CX P w K mg base N qual scope f cdv A outer s H E) [] (start N vs) H s1 := inv_start S hr.hd e0 hl r x
  refine wpAny_mono (ht [] s1 (start N vs) H _ I hq) (fun fl s' hs => ?_) fun e s' hs => hs
  have fin : ∀ {σ' : St} {H' : Hp} {v : V} {u : Value}, Inv (cxOf CX P w K mg base N qual scope f cdv A outer s H E) [] σ' H' s' → RelV v u → Q v H' → CE outer P w H s Q u s' :=
    fun {σ' H' v u} J rv q => ⟨v, H', J.os, J.bare, J.base, J.hok, rv, q⟩
  cases fl with
  | ret u =>
    obtain ⟨v, σ', H', J, rv, q⟩ := hs
    exact fin J rv q
  | next =>
    obtain ⟨σ', H', J, q⟩ := hs
    exact fin (v := V.non) (u := Value.none) J rfl q
  | brk =>
    obtain ⟨_, _, _, q⟩ := hs
    exact False.elim q
  | cont =>
    obtain ⟨_, _, _, q⟩ := hs
    exact False.elim q
end L2
namespace L2
open PySem PySem.Spec PyProof.Rows
section
variable {X : Cx} {x : Str} {p pos : Pos} {e : Expr} {es : List Expr} {t : TA} {id T : String} {r : List V → Hp → VK → Prop}
def tCB (r : List V → Hp → VK → Prop) (t : TA) : TE := fun σ H Q => t σ H fun vs H1 => r vs H1 Q
theorem pe_callB (hc : CallR X (.builtin id) r) (hg : Gl X x) (hm : X.mg x = none) (hv : bootBuiltins x = some (.builtin id)) (ha : PA X (e :: es) t) (hn : x ≠ "__name__" := by decide) (hdb : (x == ("__debug__" : Str)) = false := by decide)
    (he : starEach (e :: es) X.env = (false, eval e X.env) :: starEach es X.env := by rfl) (hpl : (backTo pos (starEach es X.env)).any (·.1) = false := by rfl) : PE X (.Call (.Name x p) (e :: es) [] pos) (tCB r t) := by
  intro pins s σ H Q I h
  refine wpAny_Call_Name_kw (ld_blt I hg hm hv ?_ hn hdb)
  exact PyProof.Rows.callWith_builtin1 (thn (ha pos pins s σ H _ I h) fun us s1 ⟨vs, H1, I1, r1, q1⟩ => hc pins s1 σ H1 vs us Q I1 r1 q1) he hpl
theorem pe_callTy (hc : CallR X (.type T) r) (hg : Gl X x) (hm : X.mg x = none) (hv : bootBuiltins x = some (.type T)) (ha : PA X (e :: es) t) (hn : x ≠ "__name__" := by decide) (hdb : (x == ("__debug__" : Str)) = false := by decide)
    (he : starEach (e :: es) X.env = (false, eval e X.env) :: starEach es X.env := by rfl) (hpl : (backTo pos (starEach es X.env)).any (·.1) = false := by rfl) : PE X (.Call (.Name x p) (e :: es) [] pos) (tCB r t) := by
  intro pins s σ H Q I h
  refine wpAny_Call_Name_kw (ld_blt I hg hm hv ?_ hn hdb)
  exact PyProof.Rows.callWith_type1 (thn (ha pos pins s σ H _ I h) fun us s1 ⟨vs, H1, I1, r1, q1⟩ => hc pins s1 σ H1 vs us Q I1 r1 q1) he hpl
end
end L2
namespace HT
open PySem PyProof.Rows
section
open PySem.SeqAt
open PySem.AutoSeq1 (wpAny_loadPart')
open PySem.MeetsSeq PySem.MeetsSeq2 PySem.MeetsSeq3
end
section
variable {prog : Program} {w : World} {A : Around} {E : Value → Shared → Prop} {s : Shared}
theorem cat_tup {t b : Addr} {vs ws : List Value} {Q : Value → Shared → Prop} (ht : IsTup s.heap t vs.toArray) (hb : IsTup s.heap b ws.toArray) (hv : vs ≠ [])
    (h1 : ws = [] → Q (.ref t) s) (h2 : ws ≠ [] → Q (.ref s.heap.objs.size) { s with heap := s.heap.push { cls := .type "tuple", data := .seq (vs ++ ws).toArray } })
    (hsz : vs.length + ws.length ≤ sizeLine) : wpAny (model prog w) A (binaryOp .Add (.ref t) (.ref b)) Q E s := by
  obtain ⟨⟨cls, dd, data, sl⟩, ho, hc, n, hd⟩ := id ht
  obtain ⟨⟨cls2, dd2, data2, sl2⟩, ho2, hc2, n2, hd2⟩ := id hb
  simp only at hc hd hc2 hd2
  subst hc hd hc2 hd2
  have e : vs.toArray ++ ws.toArray = (vs ++ ws).toArray := by simp
  by_cases hw : ws = []
  · exact concat_meets ⟨_, ho, rfl⟩ ⟨_, ho2, rfl⟩ noFill_tuple_add seq_tuple_add PySem.F.slot_tuple_add PySem.F.entry_tuple_add (PySem.F.args_tuple_add_2 _ _)
      (tuple_addW1 t b vs.toArray ws.toArray n n2 dd dd2 sl sl2 (by simpa using hv) (by simp [hw])) ⟨ho, ho2, h1 hw⟩
  · refine concat_meets ⟨_, ho, rfl⟩ ⟨_, ho2, rfl⟩ noFill_tuple_add seq_tuple_add PySem.F.slot_tuple_add PySem.F.entry_tuple_add (PySem.F.args_tuple_add_2 _ _)
      (tuple_addW2 t b vs.toArray ws.toArray n n2 dd dd2 sl sl2 (by simpa using hv) (by simpa using hw) (by rw [List.size_toArray, List.size_toArray]; exact hsz)) ⟨ho, ho2, ?_⟩
    rw [e]
    exact h2 hw
def sIx (n d : Nat) : Option Int → Nat
  | none => d
  | some v => if v < 0 then (v + (n : Int)).toNat else min v.toNat n
theorem sIx_nat (n d k : Nat) : sIx n d (some (k : Int)) = min k n := by
  show (if (k : Int) < 0 then ((k : Int) + (n : Int)).toNat else min (k : Int).toNat n) = min k n
  rw [if_neg (by omega), Int.toNat_natCast]
theorem sIx_le (n d : Nat) (hd : d ≤ n) (o : Option Int) : sIx n d o ≤ n := by
  cases o with
  | none => exact hd
  | some v =>
    show (if v < 0 then (v + (n : Int)).toNat else min v.toNat n) ≤ n
    by_cases hv : v < 0
    · rw [if_pos hv]; omega
    · rw [if_neg hv]; exact Nat.min_le_right _ _
theorem clip_eq (v : Int) (n d : Nat) : (if v < 0 then max (v + (n : Int)) 0 else min v (n : Int)) = ((sIx n d (some v) : Nat) : Int) := by
  show (if v < 0 then max (v + (n : Int)) 0 else min v (n : Int)) = (((if v < 0 then (v + (n : Int)).toNat else min v.toNat n) : Nat) : Int)
  by_cases hv : v < 0
  · simp only [if_pos hv]; omega
  · simp only [if_neg hv]; omega
theorem adjust_gen (lo hi : Option Int) (n : Nat) : Builtin.Slice.sliceAdjust lo hi 1 (n : Int) = (((sIx n 0 lo : Nat) : Int), ((sIx n n hi : Nat) : Int)) := by
  have h1 : ¬ ((1 : Int) < 0) := by omega
  unfold Builtin.Slice.sliceAdjust
  simp only [h1, if_false]
  refine Prod.ext ?_ ?_
  · cases lo with
    | none => rfl
    | some v => exact clip_eq v n 0
  · cases hi with
    | none => rfl
    | some v => exact clip_eq v n n
theorem places_gen (i j : Nat) : Builtin.Slice.slicePlaces (i : Int) (j : Int) 1 = j - i := by
  unfold Builtin.Slice.slicePlaces
  have h1 : (1 : Int) > 0 := by omega
  simp only [h1, if_true, Int.ediv_one]
  split <;> omega
theorem slicePart_ {v : Value} {o : Option Int} {Q : Option Int → Shared → Prop} (p : IsPart v o) (h : Q o s) : wpAny (model prog w) A (Builtin.Slice.slicePartIndex v) Q E s := by
  cases p with
  | none => exact slicePart_none h
  | int i t => exact slicePart_int h
theorem sliceApplied_gen {sl : Addr} {vl vu : Value} {lo hi : Option Int} {n : Nat} {Q : Int × Int × Nat → Shared → Prop} (hs : s.heap.IsSliceOf sl vl vu .none) (pl : IsPart vl lo) (pu : IsPart vu hi)
    (h : Q (((sIx n 0 lo : Nat) : Int), 1, sIx n n hi - sIx n 0 lo) s) : wpAny (model prog w) A (Builtin.Slice.sliceApplied (.ref sl) (pure (n : Int))) Q E s := by
  obtain ⟨os, hos, hcs, hds⟩ := id hs
  unfold Builtin.Slice.sliceApplied Builtin.Slice.sliceFields
  refine wpAny_bind (wpAny_bind (wpAny_field hos hds (x := vl) rfl (wpAny_bind (wpAny_field hos hds (x := vu) rfl (wpAny_bind (wpAny_field hos hds (x := .none) rfl (wpAny_pure ?_)))))))
  refine wpAny_bind (slicePart_none ?_)
  show wpAny _ _ (if ((1 : Int) == 0) = true then _ else _) _ _ s
  rw [if_neg (by decide)]
  refine wpAny_bind (slicePart_ pl (wpAny_bind (slicePart_ pu (wpAny_bind (wpAny_pure ?_)))))
  show wpAny _ _ (match Builtin.Slice.sliceAdjust lo hi 1 (n : Int) with | (lo, hi) => pure (lo, (1 : Int), Builtin.Slice.slicePlaces lo hi 1)) _ _ s
  rw [adjust_gen lo hi n]
  show wpAny _ _ (pure (((sIx n 0 lo : Nat) : Int), (1 : Int), Builtin.Slice.slicePlaces ((sIx n 0 lo : Nat) : Int) ((sIx n n hi : Nat) : Int) 1)) _ _ s
  rw [places_gen]
  exact wpAny_pure h
theorem pick_gen (xs : Array Value) (i k : Nat) : ((List.range k).filterMap fun (m : Nat) => xs[((i : Int) + (m : Int) * 1).toNat]?).toArray = ((xs.toList.drop i).take k).toArray := by
  have e : (fun (m : Nat) => xs[((i : Int) + (m : Int) * 1).toNat]?) = fun m => xs[i + m]? := by
    funext m
    have : ((i : Int) + (m : Int) * 1).toNat = i + m := by omega
    rw [this]
  rw [e]
  have := pick_run xs i k
  rw [List.filterMap_map] at this
  have e2 : ((fun x => xs[x]?) ∘ fun x => i + x) = fun m => xs[i + m]? := rfl
  rw [e2] at this
  rw [this]
theorem getItem_tuple_cut {t sl : Addr} {items : Array Value} {vl vu : Value} {lo hi : Option Int} {Q : Value → Shared → Prop} (ht : IsTup s.heap t items) (hs : s.heap.IsSliceOf sl vl vu .none) (pl : IsPart vl lo) (pu : IsPart vu hi)
    (hw : ¬ (sIx items.size 0 lo = 0 ∧ sIx items.size items.size hi = items.size))
    (h : Q (.ref s.heap.objs.size) { s with heap := s.heap.push { cls := .type "tuple", data := .seq ((items.toList.drop (sIx items.size 0 lo)).take (sIx items.size items.size hi - sIx items.size 0 lo)).toArray } })
    (hsz : items.size ≤ sizeLine) : wpAny (model prog w) A (getItem (.ref t) (.ref sl)) Q E s := by
  have htake : sizeOk (.seq ((items.toList.drop (sIx items.size 0 lo)).take (sIx items.size items.size hi - sIx items.size 0 lo)).toArray) := by
    show ((items.toList.drop (sIx items.size 0 lo)).take (sIx items.size items.size hi - sIx items.size 0 lo)).toArray.size ≤ sizeLine
    rw [List.size_toArray, List.length_take, List.length_drop, Array.length_toList]
    omega
  have hj : sIx items.size items.size hi ≤ items.size := sIx_le _ _ (Nat.le_refl _) hi
  obtain ⟨os, hos, hcs, hds⟩ := id hs
  have hTs : s.TypeIs (.ref sl) "slice" := ⟨os, hos, hcs⟩
  unfold getItem
  try with_reducible refine wpAny_holding ?_
  first | refine wpAny_bind (wpAny_pure ?_) | skip
  refine wpAny_bind (wpAny_sequenceKey ht.typeIs (by decide) ?_)
  refine wpAny_bind (wpAny_callSpecial?_slot (name := Str.ofString "__getitem__") ht.typeIs PyProof.Rows.slot_tuple_getitem
    (wpAny_call_entry PyProof.Rows.slot_tuple_getitem ht.typeIs entry_tuple_getitem ?_ (args_tuple_getitem _ _)))
  show wpAny _ _ (Builtin.Tuple.tupleItemsOf (.ref t) >>= _) _ _ s
  refine wpAny_bind (tupleItemsOf_ ht ?_)
  refine wpAny_bind (wpAny_typeOf hTs ?_)
  rw [if_pos (by decide)]
  refine wpAny_bind (sliceApplied_gen hs pl pu ?_)
  have hno : ¬ ((((sIx items.size 0 lo : Nat) : Int) == 0 && (1 : Int) == 1 && (sIx items.size items.size hi - sIx items.size 0 lo) == items.size) = true) := by
    intro q
    rw [Bool.and_eq_true, Bool.and_eq_true] at q
    have q1 : ((sIx items.size 0 lo : Nat) : Int) = 0 := eq_of_beq q.1.1
    have q2 : sIx items.size items.size hi - sIx items.size 0 lo = items.size := eq_of_beq q.2
    exact hw ⟨by omega, by omega⟩
  show wpAny _ _ (if (((sIx items.size 0 lo : Nat) : Int) == 0 && (1 : Int) == 1 && (sIx items.size items.size hi - sIx items.size 0 lo) == items.size) = true then _ else _) _ _ s
  rw [if_neg hno, pick_gen]
  first
    | exact wpAny_bind (m := Builtin.Tuple.tupleExact _) (wpAny_newObj_type (wpAny_pure ⟨_, rfl, wpAny_pure h⟩) htake)
    | exact wpAny_bind (m := Builtin.Tuple.tupleExact _) (wpAny_newObj_type (wpAny_bind (wpAny_pure (wpAny_pure ⟨_, rfl, wpAny_pure h⟩))) htake)
    | exact wpAny_bind (wpAny_bind (m := Builtin.Tuple.tupleExact _) (wpAny_newObj_type (wpAny_pure (wpAny_pure ⟨_, rfl, wpAny_pure h⟩)) htake))
    | exact wpAny_bind (wpAny_bind (m := Builtin.Tuple.tupleExact _) (wpAny_newObj_type (wpAny_pure ⟨_, rfl, wpAny_pure h⟩) htake))
end
end HT
namespace L2
open PySem PySem.Spec PyProof.Rows
abbrev TO := St → Hp → (Option Int → Hp → Prop) → Prop
def PO (X : Cx) (e : Option Expr) (t : TO) : Prop :=
  ∀ (pins : List (Addr × Obj)) (s : Shared) (σ : St) (H : Hp) (Q : Option Int → Hp → Prop), Inv X pins σ H s → t σ H Q →
    wpAny (model X.prog X.w) X.A (evalPart e X.env) (fun u s' => ∃ o H', Inv X pins σ H' s' ∧ IsPart u o ∧ Q o H') X.xe s
def tNoPart : TO := fun _ H Q => Q none H
def tPart (t : TE) : TO := fun σ H Q => t σ H fun x H1 => ∃ i, x = .int i ∧ Q (some i) H1
section
variable {X : Cx} {e : Expr} {te : TE} {lo hi : Option Expr} {tl th : TO} {pos p2 : Pos}
theorem po_none : PO X none tNoPart := by
  intro pins s σ H Q I h
  rw [evalPart_none]
  exact wpAny_pure ⟨none, H, I, .none, h⟩
theorem po_some (h : PE X e te) : PO X (some e) (tPart te) := by
  intro pins s σ H Q I hw
  rw [evalPart_some]
  refine thn (h pins s σ H _ I hw) fun u s1 ⟨x, H1, I1, r1, q1⟩ => ?_
  obtain ⟨i, rfl, q⟩ := q1
  obtain ⟨t, rfl⟩ := r1
  exact ⟨some i, H1, I1, .int i t, q⟩
def SlR (X : Cx) (r : V → Option Int → Option Int → Hp → VK → Prop) : Prop :=
  ∀ (pins : List (Addr × Obj)) (s : Shared) (σ : St) (H : Hp) (x : V) (v vl vu : Value) (lo hi : Option Int) (sl : Addr) (Q : VK), Inv X pins σ H s → RelV x v → s.heap.IsSliceOf sl vl vu .none → IsPart vl lo → IsPart vu hi → r x lo hi H Q →
    ∃ T id, typeLookup (.type T) "__getitem__" = pure (some (.builtin id)) ∧ s.TypeIs v T ∧ wpAny (model X.prog X.w) X.A (getItem v (.ref sl)) (EP X pins σ Q) X.xe s
def tSl (r : V → Option Int → Option Int → Hp → VK → Prop) (te : TE) (tl th : TO) : TE := fun σ H Q => te σ H fun x H1 => tl σ H1 fun l H2 => th σ H2 fun u H3 => r x l u H3 Q
theorem pe_slice {r : V → Option Int → Option Int → Hp → VK → Prop} (hr : SlR X r) (he : PE X e te) (hl : PO X lo tl) (hu : PO X hi th) : PE X (.Subscript e (.Slice lo hi none p2) pos) (tSl r te tl th) := by
  intro pins s σ H Q I h
  refine Subscript_ (thn (he pins s σ H _ I h) fun v s1 ⟨x, H1, I1, r1, q1⟩ => ?_)
  refine wpAny_Slice (thn (hl pins s1 σ H1 _ I1 q1) fun vl s2 ⟨l, H2, I2, pl, q2⟩ => thn (hu pins s2 σ H2 _ I2 q2) fun vu s3 ⟨u, H3, I3, pu, q3⟩ => ?_)
  rw [evalPart_none]
  refine wpAny_pure ?_
  have I4 : Inv X pins σ H3 { s3 with heap := s3.heap.push { cls := .type "slice", data := .fields #[vl, vu, .none] } } := I3.kept (t' := s3.toks) fun b ob q => Heap.get?_push_of_some _ q
  obtain ⟨T, id, hT, ht, hg⟩ := hr pins { s3 with heap := s3.heap.push { cls := .type "slice", data := .fields #[vl, vu, .none] } } σ H3 x v vl vu l u s3.heap.objs.size Q I4 r1 (Heap.IsSliceOf.new ..) pl pu q3
  show wpAny (model X.prog X.w) X.A (subscriptTail e (.Slice lo hi none p2) v (.ref s3.heap.objs.size)) (EP X pins σ Q) X.xe { s3 with heap := s3.heap.push { cls := .type "slice", data := .fields #[vl, vu, .none] } }
  exact tail_any (ops := [.ref s3.heap.objs.size, v]) ht hT hg (by with_unfolding_all rfl)
def cutV (xs : List V) (lo hi : Option Int) : List V := (xs.drop (HT.sIx xs.length 0 lo)).take (HT.sIx xs.length xs.length hi - HT.sIx xs.length 0 lo)
theorem cutV_length (xs : List V) (lo hi : Option Int) : (cutV xs lo hi).length ≤ xs.length := by
  unfold cutV
  rw [List.length_take, List.length_drop]
  omega
def rSlT (K : PySem.W.Frag) : V → Option Int → Option Int → Hp → VK → Prop := fun x lo hi H Q => ∃ a xs, x = .ref a ∧ SqT K H a xs ∧
  ¬ (HT.sIx xs.length 0 lo = 0 ∧ HT.sIx xs.length xs.length hi = xs.length) ∧ ∀ p, H p = none → Q (.ref p) (upd H p (.tup (cutV xs lo hi)))
theorem sl_tup : SlR X (rSlT X.K) := by
  intro pins s σ H x v vl vu lo hi sl Q I rx hs pl pu h
  obtain ⟨a, xs, rfl, hx, hw, q⟩ := h
  cases rx
  obtain ⟨its, r, ht, hz⟩ := I.tuple hx
  have hlen : its.toArray.size = xs.length := by rw [List.size_toArray]; exact r.length.symm
  refine ⟨"tuple", _, PyProof.Rows.slot_tuple_getitem.lookup, ht.typeIs, ?_⟩
  refine HT.getItem_tuple_cut ht hs pl pu (by rw [hlen]; exact hw) ?_ (by rw [hlen]; exact hz)
  rw [hlen]
  refine ⟨.ref s.heap.objs.size, _, I.laid (t' := s.toks) (o := .tup (cutV xs lo hi)) (fun b ob q => Heap.get?_push_of_some _ q) (Nat.le_refl _) ?_, rfl, q _ (I.hok.fresh (Nat.le_refl _))⟩
  exact ⟨Nat.le_trans (cutV_length xs lo hi) hz, _, (r.drop (HT.sIx xs.length 0 lo)).take (HT.sIx xs.length xs.length hi - HT.sIx xs.length 0 lo), IsTup.new _ _⟩
def rCatT (K : PySem.W.Frag) : R2 := fun x y H Q => ∃ a b xs ys, x = .ref a ∧ y = .ref b ∧ SqT K H a xs ∧ SqT K H b ys ∧ xs ≠ [] ∧ xs.length + ys.length ≤ sizeLine ∧
  (ys = [] → Q (.ref a) H) ∧ (ys ≠ [] → ∀ p, H p = none → Q (.ref p) (upd H p (.tup (xs ++ ys))))
theorem Vals.nil_iff {xs : List V} {us : List Value} (r : Vals xs us) : us = [] ↔ xs = [] := by
  cases r with
  | nil => simp
  | cons _ _ => simp
theorem op_catT : OpR X (binaryOp .Add) (rCatT X.K) := by
  intro pins s σ H x y v u Q I rx ry h
  obtain ⟨a, b, xs, ys, rfl, rfl, ha, hb, hx, hz, q1, q2⟩ := h
  cases rx
  cases ry
  obtain ⟨its, r1, p1, _⟩ := I.tuple ha
  obtain ⟨its2, r2, p2, _⟩ := I.tuple hb
  refine HT.cat_tup p1 p2 (fun z => hx (r1.nil_iff.mp z)) (fun z => ⟨.ref a, H, I, rfl, q1 (r2.nil_iff.mp z)⟩) (fun z => ?_) (by rw [← r1.length, ← r2.length]; exact hz)
  refine ⟨.ref s.heap.objs.size, _, I.laid (t' := s.toks) (o := .tup (xs ++ ys)) (fun b ob q => Heap.get?_push_of_some _ q) (Nat.le_refl _) ?_, rfl, q2 (fun w => z (r2.nil_iff.mpr w)) _ (I.hok.fresh (Nat.le_refl _))⟩
  exact ⟨by rw [List.length_append]; exact hz, _, r1.append r2, IsTup.new _ _⟩
end
end L2
namespace L2
open PySem PySem.Spec PyProof.Rows
def ixN (n : Nat) (i : Int) : Option Nat := if 0 ≤ i then (if i < n then some i.toNat else none) else if -(n : Int) ≤ i then some (i + n).toNat else none
def atI {α : Type} (xs : List α) (i : Int) : Option α := (ixN xs.length i).bind fun j => xs[j]?
theorem ixN_seq {n : Nat} {i : Int} {j : Nat} (h : ixN n i = some j) : seqIndex? i n = some j ∧ j < n ∧ -(n : Int) ≤ i ∧ i < n := by
  unfold ixN at h
  by_cases h0 : 0 ≤ i
  · rw [if_pos h0] at h
    by_cases h1 : i < n
    · rw [if_pos h1] at h
      have e : i.toNat = j := Option.some.inj h
      exact ⟨by rw [seqIndex_of h0 h1, e], by omega, by omega, h1⟩
    · rw [if_neg h1] at h; cases h
  · rw [if_neg h0] at h
    by_cases h1 : -(n : Int) ≤ i
    · rw [if_pos h1] at h
      have e : (i + n).toNat = j := Option.some.inj h
      exact ⟨by rw [seqIndex_neg (by omega) h1, e], by omega, h1, by omega⟩
    · rw [if_neg h1] at h; cases h
theorem atI_get {α : Type} {xs : List α} {i : Int} {v : α} (h : atI xs i = some v) : ∃ j, seqIndex? i xs.length = some j ∧ xs[j]? = some v ∧ j < xs.length ∧ -(xs.length : Int) ≤ i ∧ i < xs.length := by
  unfold atI at h
  cases e : ixN xs.length i with
  | none => rw [e] at h; cases h
  | some j =>
    rw [e] at h
    obtain ⟨h1, h2, h3, h4⟩ := ixN_seq e
    exact ⟨j, h1, h, h2, h3, h4⟩
theorem atI_nat {α : Type} {xs : List α} {j : Nat} {v : α} (h : xs[j]? = some v) : atI xs (j : Int) = some v := by
  have hj : j < xs.length := (List.getElem?_eq_some_iff.mp h).1
  have e : ixN xs.length (j : Int) = some j := by
    unfold ixN
    rw [if_pos (by omega), if_pos (by omega)]; simp
  unfold atI; rw [e]; exact h
def PlainIx (b : Expr) : Prop := ∀ o i, subscripted b false o i = operate [o, i] (getItem o i)
def IxR (X : Cx) (r : R2) : Prop :=
  ∀ (value slice : Expr) (pins : List (Addr × Obj)) (s : Shared) (σ : St) (H : Hp) (x y : V) (v u : Value) (Q : VK), Inv X pins σ H s → RelV x v → RelV y u → r x y H Q →
    subscripted slice false v u = operate [v, u] (getItem v u) → wpAny (model X.prog X.w) X.A (subscriptTail value slice v u) (EP X pins σ Q) X.xe s
def MtR (X : Cx) (id : String) (r : V → List V → Hp → VK → Prop) : Prop :=
  ∀ (pins : List (Addr × Obj)) (s : Shared) (σ : St) (H : Hp) (x : V) (xs : List V) (v : Value) (us : List Value) (Q : VK), Inv X pins σ H s → RelV x v → Vals xs us → r x xs H Q →
    wpAny (model X.prog X.w) X.A (call (.builtin id) (v :: us)) (EP X pins σ Q) X.xe s
section
variable {X : Cx} {a b : Expr} {ta tb : TE} {pos : Pos}
theorem IxR.or {r r' : R2} (h : IxR X r) (h' : IxR X r') : IxR X (fun x y H Q => r x y H Q ∨ r' x y H Q) := by
  intro value slice pins s σ H x y v u Q I rx ry q hs
  rcases q with q | q
  · exact h value slice pins s σ H x y v u Q I rx ry q hs
  · exact h' value slice pins s σ H x y v u Q I rx ry q hs
theorem pe_ix {r : R2} (hr : IxR X r) (ha : PE X a ta) (hb : PE X b tb) (hs : PlainIx b) : PE X (.Subscript a b pos) (tOp r ta tb) := by
  intro pins s σ H Q I h
  exact Subscript_ (binT ha hb I h fun v u s2 x y H2 I2 rx ry q => hr a b pins s2 σ H2 x y v u Q I2 rx ry q (hs _ _))
def rIxL (K : PySem.W.Frag) : R2 := fun x y H Q => ∃ p xs i v, x = .ref p ∧ y = .int i ∧ SqL K H p xs ∧ atI xs i = some v ∧ Q v H
def rIxT (K : PySem.W.Frag) : R2 := fun x y H Q => ∃ p xs i v, x = .ref p ∧ y = .int i ∧ SqT K H p xs ∧ atI xs i = some v ∧ Q v H
def rIxS : R2 := fun x y H Q => ∃ z i c, x = .str z ∧ y = .int i ∧ z.length ≤ sizeLine ∧ atI z.cps.toList i = some c ∧ Q (.str ⟨#[c]⟩) H
theorem ix_list : IxR X (rIxL X.K) := by
  intro value slice pins s σ H x y v u Q I rx ry h hs
  obtain ⟨p, xs, i, z, rfl, rfl, hq, he, q⟩ := h
  cases rx
  obtain ⟨t, rfl⟩ := ry
  obtain ⟨its, r, pl, hz⟩ := I.list hq
  obtain ⟨j, h1, h2, h3, h4, h5⟩ := atI_get he
  obtain ⟨w, ew, rw'⟩ := r.get h2
  have hl := r.length
  have hn := line63
  have fin : EP X pins σ Q w s := ⟨z, H, I, rw', q⟩
  by_cases h0 : 0 ≤ i
  · have hj : i.toNat = j := by
      rw [seqIndex_of h0 h5] at h1
      exact Option.some.inj h1
    exact item_listR pl.isList h0 (by omega) (by rw [hj]; simpa using ew) fin hs
  · have hj : (i + (its.toArray.size : Int)).toNat = j := by
      rw [seqIndex_neg (by omega) h4] at h1
      rw [List.size_toArray, ← hl]
      exact Option.some.inj h1
    exact subscriptTail_builtinR (x := w) pl.isList.typeIs slot_list_getitem.lookup
      (wpAny_getItem_list_neg (Q := fun r s' => r = w ∧ EP X pins σ Q r s') pl.isList (by omega) (by rw [List.size_toArray] <;> omega) (by omega) (by rw [hj]; simpa using ew) ⟨rfl, fin⟩) hs
theorem ix_tup : IxR X (rIxT X.K) := by
  intro value slice pins s σ H x y v u Q I rx ry h hs
  obtain ⟨p, xs, i, z, rfl, rfl, hq, he, q⟩ := h
  cases rx
  obtain ⟨t, rfl⟩ := ry
  obtain ⟨its, r, pl, hz⟩ := I.tuple hq
  obtain ⟨j, h1, h2, h3, h4, h5⟩ := atI_get he
  obtain ⟨w, ew, rw'⟩ := r.get h2
  have hl := r.length
  have hn := line63
  have fin : EP X pins σ Q w s := ⟨z, H, I, rw', q⟩
  exact subscriptTail_builtinR (x := w) pl.typeIs slot_tuple_getitem.lookup
    (getItem_tuple (j := j) (Q := fun r s' => r = w ∧ EP X pins σ Q r s') pl (by omega) (by omega) (by rw [List.size_toArray, ← hl]; exact h1) (by simpa using ew) ⟨rfl, fin⟩) hs
theorem ix_str : IxR X rIxS := by
  intro value slice pins s σ H x y v u Q I rx ry h hs
  obtain ⟨z, i, c, rfl, rfl, hz, he, q⟩ := h
  obtain ⟨t, rfl⟩ := rx
  obtain ⟨t', rfl⟩ := ry
  obtain ⟨j, h1, h2, h3, h4, h5⟩ := atI_get he
  have hl : z.cps.toList.length = z.length := by simp [Str.length]
  rw [hl] at h1 h4 h5
  have hn := line63
  exact tail_any (typeIs_str s z t) slot_str_getitem.lookup (getItem_str (c := c) (by
    have e1 : decide (i < -(2 ^ 63 : Int)) = false := decide_eq_false (by omega)
    have e2 : decide (i ≥ 2 ^ 63) = false := decide_eq_false (by omega)
    rw [e1, e2, Bool.or_false]) (by rw [h1]; simpa using h2) ⟨.str ⟨#[c]⟩, H, I.tok _, ⟨_, rfl⟩, q⟩) hs
def rIx (K : PySem.W.Frag) : R2 := fun x y H Q => rIxL K x y H Q ∨ rIxT K x y H Q ∨ rIxS x y H Q
theorem ix_seq : IxR X (rIx X.K) := ix_list.or (ix_tup.or ix_str)
theorem mapSeq_set (its : List Value) (n j : Nat) (u : Value) : Obj.mapSeq (·.setIfInBounds j u) { cls := .type "list", data := .seq its.toArray n } = { cls := .type "list", data := .seq (its.set j u).toArray n } := by
  simp [Obj.mapSeq]
theorem Inv.lst {pins : List (Addr × Obj)} {σ : St} {H : Hp} {s : Shared} {p : Addr} {xs : List V} (I : Inv X pins σ H s) (h : H p = some (.lst xs)) :
    ∃ (its : List Value) (n : Nat), Vals xs its ∧ s.heap.get? p = some { cls := .type "list", data := .seq its.toArray n } ∧ xs.length ≤ sizeLine := by
  obtain ⟨z, its, n, r, e⟩ := I.hok p _ h
  exact ⟨its, n, r, e, z⟩
theorem Inv.lstUpd {pins : List (Addr × Obj)} {σ : St} {H : Hp} {s : Shared} {p : Addr} {xs ys : List V} {its its' : List Value} {n n' : Nat} {f : Obj → Obj} (I : Inv X pins σ H s) (h : H p = some (.lst xs))
    (ho : s.heap.get? p = some { cls := .type "list", data := .seq its.toArray n }) (hf : f { cls := .type "list", data := .seq its.toArray n } = { cls := .type "list", data := .seq its'.toArray n' }) (r : Vals ys its') (hz : ys.length ≤ sizeLine) (t : Nat) :
    Inv X pins σ (upd H p (.lst ys)) { s with heap := s.heap.update p f, toks := t } := by
  have e : (s.heap.update p f).get? p = some { cls := .type "list", data := .seq its'.toArray n' } := by
    rw [Heap.get?_update_self f ho (by rw [hf] <;> rfl), hf]
  refine I.write (x := p) (e := p) (by rw [h]; trivial) (.inl rfl) (fun b u hb q => (Heap.get?_update_other _ _ (Ne.symm hb)).trans q) ⟨_, e⟩ ?_
  exact ⟨hz, its', n', r, e⟩
def rSetL : V → V → V → Hp → (Hp → Prop) → Prop := fun o i v H Q => ∃ p xs k j, o = .ref p ∧ i = .int k ∧ H p = some (.lst xs) ∧ ixN xs.length k = some j ∧ Q (upd H p (.lst (xs.set j v)))
theorem set_list : PSet X rSetL := by
  intro pins s σ H o i v ov iv u Q I ro ri rv h
  obtain ⟨p, xs, k, j, rfl, rfl, hp, hj, q⟩ := h
  cases ro
  obtain ⟨t, rfl⟩ := ri
  obtain ⟨its, n, r, ho, hz⟩ := I.lst hp
  obtain ⟨h1, h2, h3, h4⟩ := ixN_seq hj
  have hl := r.length
  have hn := line63
  have I' : Inv X pins σ (upd H p (.lst (xs.set j v))) { s with heap := s.heap.update p (Obj.mapSeq (·.setIfInBounds j u)) } :=
    I.lstUpd hp ho (mapSeq_set its n j u) (r.set rv j) (by rw [List.length_set]; exact hz) s.toks
  by_cases h0 : 0 ≤ k
  · have hk : k.toNat = j := by
      rw [seqIndex_of h0 h4] at h1
      exact Option.some.inj h1
    exact PySem.W.ki_setAt ho h0 (by omega) (by rw [List.size_toArray, ← hl]; exact h4) (by rw [hk]; exact ⟨_, I', q⟩)
  · have hk : (k + (its.toArray.size : Int)).toNat = j := by
      rw [seqIndex_neg (by omega) h3] at h1
      rw [List.size_toArray, ← hl]
      exact Option.some.inj h1
    exact PySem.W.ki_setBack ho (by omega) (by rw [List.size_toArray, ← hl]; exact h3) (by omega) (by rw [hk]; exact ⟨_, I', q⟩)
theorem slice_bounds (lo hi : Option Int) (n : Nat) : (sliceBounds lo hi none n).1 = ((HT.sIx n 0 lo : Nat) : Int) ∧ (sliceBounds lo hi none n).2.1 = ((HT.sIx n n hi : Nat) : Int) ∧ (sliceBounds lo hi none n).2.2 = 1 := by
  refine ⟨?_, ?_, rfl⟩
  · cases lo with
    | none => simp [sliceBounds, HT.sIx]
    | some i =>
      simp only [sliceBounds, HT.sIx, Option.getD_none, show (1 : Int) > 0 by decide, if_true]
      by_cases h : i < 0
      · simp only [h, if_true] <;> omega
      · simp only [h, if_false] <;> omega
  · cases hi with
    | none => simp [sliceBounds, HT.sIx]
    | some i =>
      simp only [sliceBounds, HT.sIx, Option.getD_none, show (1 : Int) > 0 by decide, if_true]
      by_cases h : i < 0
      · simp only [h, if_true] <;> omega
      · simp only [h, if_false] <;> omega
theorem slicePick_cut (its : List Value) (lo hi : Option Int) : slicePick its.toArray lo hi none = ((its.drop (HT.sIx its.length 0 lo)).take (HT.sIx its.length its.length hi - HT.sIx its.length 0 lo)).toArray := by
  obtain ⟨h1, h2, h3⟩ := slice_bounds lo hi its.toArray.size
  unfold slicePick
  rw [h1, h2, h3]
  simp only [sliceRange_one, pick_run, List.size_toArray] <;> rfl
def rSlL (K : PySem.W.Frag) : V → Option Int → Option Int → Hp → VK → Prop := fun x lo hi H Q => ∃ a xs, x = .ref a ∧ SqL K H a xs ∧ ∀ p, H p = none → Q (.ref p) (upd H p (.lst (cutV xs lo hi)))
theorem sl_list : SlR X (rSlL X.K) := by
  intro pins s σ H x v vl vu lo hi sl Q I rx hs pl pu h
  obtain ⟨a, xs, rfl, hx, q⟩ := h
  cases rx
  obtain ⟨its, r, ht, hz⟩ := I.list hx
  have hlen := r.length
  refine ⟨"list", _, slot_list_getitem.lookup, ht.isList.typeIs, ?_⟩
  refine wpAny_getItem_list_slice ht.isList hs pl pu .none (by simp) ?_ (by rw [List.size_toArray] <;> omega)
  rw [slicePick_cut, ← hlen]
  refine ⟨.ref s.heap.objs.size, _, I.laid (t' := s.toks) (o := .lst (cutV xs lo hi)) (fun b ob q => Heap.get?_push_of_some _ q) (Nat.le_refl _) ?_, rfl, q _ (I.hok.fresh (Nat.le_refl _))⟩
  exact ⟨Nat.le_trans (cutV_length xs lo hi) hz, _, 0, (r.drop (HT.sIx xs.length 0 lo)).take (HT.sIx xs.length xs.length hi - HT.sIx xs.length 0 lo), Heap.get?_push_size _ rfl⟩
theorem call_len_seq : CallR X (.builtin "len") (fun xs H Q => ∃ p ys, xs = [.ref p] ∧ (SqL X.K H p ys ∨ SqT X.K H p ys) ∧ Q (.int ys.length) H) := by
  intro pins s σ H xs us Q I r h
  obtain ⟨p, ys, rfl, hq, q⟩ := h
  obtain ⟨u, rfl, rx⟩ := vals1 r
  cases rx
  have hn := line63
  rcases hq with hq | hq
  · obtain ⟨its, r', pl, hz⟩ := I.list hq
    have hlen := r'.length
    exact Calls.call_len_list pl.isList (by simp only [List.size_toArray] <;> omega) ⟨.int ys.length, H, I.tok _, ⟨s.toks + 1, by rw [List.size_toArray, hlen]⟩, q⟩
  · obtain ⟨its, r', pl, hz⟩ := I.tuple hq
    have hlen := r'.length
    exact len_tuple pl (by simp only [List.size_toArray] <;> omega) ⟨.int ys.length, H, I.tok _, ⟨s.toks + 1, by rw [List.size_toArray, hlen]⟩, q⟩
theorem call_len_str : CallR X (.builtin "len") (fun xs H Q => ∃ z, xs = [.str z] ∧ z.length ≤ sizeLine ∧ Q (.int z.length) H) := by
  intro pins s σ H xs us Q I r h
  obtain ⟨z, rfl, hz, q⟩ := h
  obtain ⟨u, rfl, t, rfl⟩ := vals1 r
  have hn := line63
  exact len_str (by omega) ⟨.int z.length, H, I.tok _, ⟨_, rfl⟩, q⟩
theorem call_tuple_of : CallR X (.type "tuple") (fun xs H Q => ∃ p ys, xs = [.ref p] ∧ ((SqL X.K H p ys ∧ ∀ l, H l = none → Q (.ref l) (upd H l (.tup ys))) ∨ (SqT X.K H p ys ∧ Q (.ref p) H))) := by
  intro pins s σ H xs us Q I r h
  obtain ⟨p, ys, rfl, h⟩ := h
  obtain ⟨u, rfl, rx⟩ := vals1 r
  cases rx
  rcases h with ⟨hq, q⟩ | ⟨hq, q⟩
  · obtain ⟨its, r', pl, hz⟩ := I.list hq
    have hlen := r'.length
    refine call_tuple_list pl.isList (fun h' kp => ?_) (by simp only [List.size_toArray] <;> omega)
    have I1 : Inv X pins σ H { s with heap := h' } := I.kept (t' := s.toks) kp
    have I2 : Inv X pins σ (upd H h'.objs.size (.tup ys)) { s with heap := h'.push { cls := .type "tuple", data := .seq its.toArray } } :=
      I1.laid (t' := s.toks) (fun b o e => Heap.get?_push_of_some _ e) (Nat.le_refl _) (show ObjOk X.prog X.w _ _ _ (.tup ys) from ⟨hz, its, r', IsTup.new _ _⟩)
    exact ⟨.ref h'.objs.size, _, I2, rfl, q _ (I1.hok.fresh (Nat.le_refl _))⟩
  · obtain ⟨its, r', pl, hz⟩ := I.tuple hq
    exact call_tuple_same pl ⟨.ref p, H, I, rfl, q⟩
def tyV (K : PySem.W.Frag) (T : String) (x : V) (H : Hp) : Prop := match x with
  | .str _ => T = "str"
  | .int _ => T = "int"
  | .ref p => (T = "list" ∧ ∃ xs, SqL K H p xs) ∨ (T = "tuple" ∧ ∃ o, K.lookup p = some o ∧ o.cls = .type "tuple" ∧ o.dict = none) ∨
      (T = "dict" ∧ ((∃ kvs, H p = some (.dK kvs)) ∨ ∃ kvs, H p = some (.dT kvs))) ∨ (T = "set" ∧ ∃ S n, H p = some (.set S n))
  | _ => False
theorem tyV_is {pins : List (Addr × Obj)} {σ : St} {H : Hp} {s : Shared} {T : String} {x : V} {v : Value} (I : Inv X pins σ H s) (r : RelV x v) (ty : tyV X.K T x H) :
    s.TypeIs v T ∧ ∀ a, v = .ref a → ∃ ob, s.heap.get? a = some ob ∧ ob.dict = none := by
  cases x with
  | str z =>
    obtain ⟨t, rfl⟩ := r
    cases (show T = "str" from ty)
    exact ⟨typeIs_str s z t, fun _ e => nomatch e⟩
  | int i =>
    obtain ⟨t, rfl⟩ := r
    cases (show T = "int" from ty)
    exact ⟨typeIs_int s i t, fun _ e => nomatch e⟩
  | ref p =>
    cases r
    rcases ty with ⟨rfl, xs, hq⟩ | ⟨rfl, o, hk, hc, hd⟩ | ⟨rfl, hk⟩ | ⟨rfl, S, n, hk⟩
    · obtain ⟨its, _, pl, _⟩ := I.list hq
      refine ⟨pl.isList.typeIs, fun a e => ?_⟩
      cases e
      obtain ⟨o, n, e, c, hd, _⟩ := pl
      exact ⟨o, e, hd⟩
    · refine ⟨⟨o, I.kIn p o hk, hc⟩, fun a e => ?_⟩
      cases e
      exact ⟨o, I.kIn _ o hk, hd⟩
    · have z : ∃ o, s.heap.get? p = some o ∧ o.ExactDict := by
        rcases hk with ⟨kvs, hk⟩ | ⟨kvs, hk⟩
        · obtain ⟨_, _, _, _, o, _, _, e, ex, _⟩ := I.hok p _ hk
          exact ⟨o, e, ex⟩
        · obtain ⟨_, _, _, _, o, _, _, e, ex, _⟩ := I.hok p _ hk
          exact ⟨o, e, ex⟩
      obtain ⟨o, e, ex⟩ := z
      refine ⟨⟨o, e, ex.1⟩, fun a e2 => ?_⟩
      cases e2
      exact ⟨o, e, ex.2.1⟩
    · obtain ⟨o, _, _, _, e, ex, _⟩ := I.hok p _ hk
      refine ⟨⟨o, e, ex.1⟩, fun a e2 => ?_⟩
      cases e2
      exact ⟨o, e, ex.2.1⟩
  | _ => exact False.elim ty
def tBM (K : PySem.W.Frag) (T : String) (r : V → List V → Hp → VK → Prop) (to : TE) (t : TA) : TE := fun σ H Q => to σ H fun x H1 => tyV K T x H1 ∧ t σ H1 fun xs H2 => r x xs H2 Q
variable {o e : Expr} {es : List Expr} {to : TE} {t : TA} {name : Str} {apos cpos : Pos} {T id : String} {r : V → List V → Hp → VK → Prop}
theorem pe_bm (pa : PlainAttrs T) (slot : Slot T name id) (hty : typeOf (.builtin id) = pure (.type "method_descriptor")) (hm : MtR X id r) (ho : PE X o to) (ha : PA X (e :: es) t)
    (hbase : attributeBase o name X.env (eval o X.env) = eval o X.env := by rfl)
    (hfew : ((backTo cpos (starEach (e :: es) X.env)).all (fun x => !x.1) && (backToKw cpos (keywordEach [] X.env)).all (fun x => x.1.isSome)
      && decide ((e :: es).length + ([] : List Keyword).length + (if ([] : List Keyword).isEmpty then 0 else 1) < 30)) = true := by rfl)
    (hline : (apos.endLine == cpos.line) = true := by rfl) (hs : starEach (e :: es) X.env = (false, eval e X.env) :: starEach es X.env := by rfl) (hplain : (backTo cpos (starEach es X.env)).any (·.1) = false := by rfl) :
    PE X (.Call (.Attribute o name apos) (e :: es) [] cpos) (tBM X.K T r to t) := by
  intro pins s σ H Q I h
  refine wpAny_Call_method_late hbase hfew hline rfl (thn (ho pins s σ H _ I h) fun v s1 ⟨x, H1, I1, r1, ty, q1⟩ => ?_)
  obtain ⟨h1, h2⟩ := tyV_is I1 r1 ty
  refine ⟨T, id, pa, slot, hty, h1, h2, ?_⟩
  have hA := ha cpos pins s1 σ H1 _ I1 q1
  rw [hs] at hA ⊢
  refine Calls.callWith_builtin (by show (false || (backTo cpos (starEach es X.env)).any (·.1)) = false; rw [hplain] <;> rfl) (Calls.evalArgs_plain ?_)
  exact thn hA fun us s2 ⟨vs, H2, I2, r2, q2⟩ => hm pins s2 σ H2 x vs v us Q I2 r1 r2 q2
end
end L2
namespace L2
open PySem PySem.Spec PyProof.Rows
def MtM (X : Cx) (id : String) (r : V → List V → Hp → VK → Prop) : Prop :=
  ∀ (pins : List (Addr × Obj)) (s : Shared) (σ : St) (H : Hp) (x : V) (xs : List V) (v : Value) (us : List Value) (Q : VK), Inv X pins σ H s → RelV x v → Vals xs us → r x xs H Q →
    wpAny (model X.prog X.w) X.A (call (.builtin id) (v :: us)) (EP X pins σ Q) X.xe s
theorem Vals.one : ∀ {x : V} {us : List Value}, Vals [x] us → ∃ u, us = [u] ∧ RelV x u
  | _, _, .cons r .nil => ⟨_, rfl, r⟩
theorem Vals.eraseIdx : ∀ {xs : List V} {us : List Value} (i : Nat), Vals xs us → Vals (xs.eraseIdx i) (us.eraseIdx i)
  | _, _, _, .nil => .nil
  | _, _, 0, .cons _ t => t
  | _, _, i + 1, .cons r t => .cons r (Vals.eraseIdx i t)
theorem Vals.rep {xs : List V} {us : List Value} (h : Vals xs us) : ∀ k : Nat, Vals (List.replicate k xs).flatten (List.replicate k us).flatten
  | 0 => .nil
  | k + 1 => by
    rw [List.replicate_succ, List.replicate_succ, List.flatten_cons, List.flatten_cons]
    exact Vals.append h (Vals.rep h k)
theorem len_erase {α : Type} : ∀ (l : List α) (i : Nat), (l.eraseIdx i).length ≤ l.length
  | [], _ => Nat.le_refl _
  | _ :: _, 0 => Nat.le_succ _
  | _ :: r, i + 1 => Nat.succ_le_succ (len_erase r i)
theorem foldl_rep (its : List Value) : ∀ (k : Nat) (acc : List Value),
    List.foldl (fun x1 x2 => x1 ++ x2) acc.toArray (List.replicate k its.toArray) = (acc ++ (List.replicate k its).flatten).toArray
  | 0, acc => by simp
  | k + 1, acc => by
    have e : acc.toArray ++ its.toArray = (acc ++ its).toArray := by simp
    have e2 : (acc ++ its) ++ (List.replicate k its).flatten = acc ++ (List.replicate (k + 1) its).flatten := by
      rw [List.replicate_succ, List.flatten_cons, List.append_assoc]
    rw [← e2, ← foldl_rep its k (acc ++ its), ← e, List.replicate_succ, List.foldl_cons]
section
variable {X : Cx} {pins : List (Addr × Obj)} {σ : St} {H : Hp} {s : Shared} {l b : Addr} {xs ys zs : List V}
theorem Inv.lset {its its' : List Value} {n : Nat} {f : Array Value → Array Value} {t' : Nat} (I : Inv X pins σ H s) (hH : H l = some (.lst xs))
    (e : s.heap.get? l = some { cls := .type "list", data := .seq its.toArray n }) (hf : f its.toArray = its'.toArray) (hv : Vals ys its') (hz : ys.length ≤ sizeLine) :
    Inv X pins σ (upd H l (.lst ys)) { s with heap := s.heap.update l (Obj.mapSeq f), toks := t' } := by
  have q := PySem.IsL.update e f
  rw [hf] at q
  refine I.write (x := l) (e := l) (by rw [hH]; exact trivial) (.inl rfl) (fun b' u hb hu => (Heap.get?_update_other s.heap (Obj.mapSeq f) (Ne.symm hb)).trans hu) ⟨_, q⟩ ?_
  exact ⟨hz, its', _, hv, q⟩
theorem Inv.lnew {its : List Value} {t' : Nat} (I : Inv X pins σ H s) (hv : Vals ys its) (hz : ys.length ≤ sizeLine) :
    Inv X pins σ (upd H s.heap.objs.size (.lst ys)) { s with heap := s.heap.push { cls := .type "list", data := .seq its.toArray }, toks := t' } :=
  I.laid (fun _ _ q => Heap.get?_push_of_some _ q) (Nat.le_refl _) ⟨hz, its, 0, hv, Heap.get?_push_size _ rfl⟩
theorem Inv.fresh (I : Inv X pins σ H s) : H s.heap.objs.size = none := I.hok.fresh (Nat.le_refl _)
theorem Inv.lstM (I : Inv X pins σ H s) (hH : H l = some (.lst xs)) : xs.length ≤ sizeLine ∧ ∃ (its : List Value) (n : Nat), Vals xs its ∧ xs.length = its.length ∧ s.heap.get? l = some { cls := .type "list", data := .seq its.toArray n } := by
  obtain ⟨z, its, n, r, e⟩ := I.hok l _ hH
  exact ⟨z, its, n, r, r.length, e⟩
theorem notLongL {n : Nat} (h : n ≤ sizeLine) : Builtin.List.listTooLong n = false := by
  unfold Builtin.List.listTooLong
  exact decide_eq_false (by omega)
end
section
variable {X : Cx}
def rAppend : V → List V → Hp → VK → Prop := fun x vs H Q => ∃ l xs y, x = .ref l ∧ vs = [y] ∧ H l = some (.lst xs) ∧ xs.length < sizeLine ∧ Q .non (upd H l (.lst (xs ++ [y])))
theorem mt_append : MtM X "list.append" rAppend := by
  intro pins s σ H x vs v us Q I rx rv h
  obtain ⟨l, xs, y, rfl, rfl, hH, hz, q⟩ := h
  cases rx
  obtain ⟨u, rfl, ru⟩ := rv.one
  obtain ⟨z, its, n, r, hl, e⟩ := I.lstM hH
  refine call_meets F.slot_list_append ⟨_, e, rfl⟩ F.entry_list_append (F.args_list_append_2 _ _) (PySem.list_append l its.toArray n u (by rw [List.size_toArray]; omega)) ⟨e, ?_⟩
  refine ⟨.non, _, I.lset (its' := its ++ [u]) hH e (by simp) (r.append (.cons ru .nil)) ?_, rfl, q⟩
  rw [List.length_append, List.length_singleton]
  omega
def rPopAt : V → List V → Hp → VK → Prop := fun x vs H Q => ∃ l xs i k y, x = .ref l ∧ vs = [.int i] ∧ H l = some (.lst xs) ∧ -(2 ^ 63) ≤ i ∧ i < 2 ^ 63 ∧ seqIndex? i xs.length = some k ∧ xs[k]? = some y ∧ Q y (upd H l (.lst (xs.eraseIdx k)))
theorem mt_popAt : MtM X "list.pop" rPopAt := by
  intro pins s σ H x vs v us Q I rx rv h
  obtain ⟨l, xs, i, k, y, rfl, rfl, hH, h1, h2, hk, hy, q⟩ := h
  cases rx
  obtain ⟨u, rfl, ru⟩ := rv.one
  obtain ⟨t, rfl⟩ := ru
  obtain ⟨z, its, n, r, hl, e⟩ := I.lstM hH
  obtain ⟨w, hw, rw'⟩ := r.get hy
  refine call_meets F.slot_list_pop ⟨_, e, rfl⟩ F.entry_list_pop (F.args_list_pop_2 _ _)
    (MeetsSeq.list_pop_at l its.toArray n i t k w (fitsIndex_both h1 h2) (by rw [List.size_toArray, ← hl]; exact hk) (by rw [← Array.getElem?_toList]; exact hw) (by rw [List.size_toArray]; omega)) ⟨e, ?_⟩
  refine ⟨y, _, I.lset (its' := its.eraseIdx k) hH e ?_ (r.eraseIdx k) ?_, rw', q⟩
  · show its.toArray.eraseIdxIfInBounds k = (its.eraseIdx k).toArray
    rw [List.eraseIdxIfInBounds_toArray]
  · have := len_erase xs k
    omega
def rCat : R2 := fun x y H Q => ∃ l b xs zs, x = .ref l ∧ y = .ref b ∧ H l = some (.lst xs) ∧ H b = some (.lst zs) ∧ xs.length + zs.length ≤ sizeLine ∧ ∀ p, H p = none → Q (.ref p) (upd H p (.lst (xs ++ zs)))
theorem op_cat : OpR X (binaryOp .Add) rCat := by
  intro pins s σ H x y v u Q I rx ry h
  obtain ⟨l, b, xs, zs, rfl, rfl, hH, hB, hz, q⟩ := h
  cases rx
  cases ry
  obtain ⟨z, its, n, r, hl, e⟩ := I.lstM hH
  obtain ⟨z2, its2, n2, r2, hl2, e2⟩ := I.lstM hB
  refine PySem.P.add_list e e2 ?_ (by rw [List.size_toArray, List.size_toArray]; omega)
  have ea : its.toArray ++ its2.toArray = (its ++ its2).toArray := by simp
  rw [ea]
  exact ⟨.ref _, _, I.lnew (t' := s.toks) (r.append r2) (by rw [List.length_append]; omega), rfl, q _ I.fresh⟩
def rRep : R2 := fun x y H Q => ∃ l k xs, x = .ref l ∧ y = .int k ∧ H l = some (.lst xs) ∧ -(2 ^ 63) ≤ k ∧ k < 2 ^ 63 ∧ xs.length * k.toNat ≤ sizeLine ∧
  ∀ p, H p = none → Q (.ref p) (upd H p (.lst (List.replicate k.toNat xs).flatten))
theorem len_rep {α : Type} (xs : List α) (k : Nat) : (List.replicate k xs).flatten.length = k * xs.length := by
  induction k with
  | zero => simp
  | succ k ih => rw [List.replicate_succ, List.flatten_cons, List.length_append, ih, Nat.succ_mul, Nat.add_comm]
theorem op_rep : OpR X (binaryOp .Mult) rRep := by
  intro pins s σ H x y v u Q I rx ry h
  obtain ⟨l, k, xs, rfl, rfl, hH, h1, h2, hz, q⟩ := h
  cases rx
  obtain ⟨t, rfl⟩ := ry
  obtain ⟨z, its, n, r, hl, e⟩ := I.lstM hH
  have hlen : its.toArray.size * k.toNat ≤ sizeLine := by rw [List.size_toArray, ← hl]; exact hz
  have hcap : ¬ its.toArray.size * k.toNat > (2 ^ 63 - 1) / 8 := by
    have : (sizeLine : Nat) ≤ (2 ^ 63 - 1) / 8 := by decide
    omega
  have hfit : ¬ (!Builtin.List.listFitsIndex k) = true := by
    rw [fitsIndex_both h1 h2]
    exact Bool.false_ne_true
  have hlong : ¬ Builtin.List.listTooLong (its.toArray.size * k.toNat) = true := by
    rw [notLongL hlen]
    exact Bool.false_ne_true
  have hnew : List.foldl (fun x1 x2 => x1 ++ x2) #[] (List.replicate (if its.toArray.isEmpty = true then 0 else k.toNat) its.toArray) = (List.replicate k.toNat its).flatten.toArray := by
    have f0 : ∀ m : Nat, List.foldl (fun x1 x2 => x1 ++ x2) #[] (List.replicate m its.toArray) = (List.replicate m its).flatten.toArray := fun m => by
      have := foldl_rep its m []
      rw [List.nil_append] at this
      exact this
    rw [f0]
    cases its with
    | nil => simp
    | cons a r' => rw [if_neg (by simp)]
  refine wpAny_binaryOp_repeat_ref (T := "list") (U := "int") (by decide) ⟨_, e, rfl⟩ (fun s' => typeIs_int s' k t) noFill_list_mul F.fills_int_mul F.slot_int_rmul repeat_list F.slot_int_index.lookup
    (call_meets F.slot_int_rmul (typeIs_int s k t) F.entry_int_rmul (F.args_int_rmul_2 _ _) (int___rmul___int_list k t l its.toArray n)
      ⟨e, rfl, ⟨_, e, rfl⟩, call_meets F.slot_list_mul ⟨_, e, rfl⟩ F.entry_list_mul (F.args_list_mul_2 _ _) (AutoListH.list___mul___list_int_3 l its.toArray n k t hfit hcap hlong) ⟨e, ?_⟩⟩)
  rw [hnew]
  exact ⟨.ref _, _, I.lnew (t' := s.toks) (r.rep k.toNat) (by rw [len_rep, Nat.mul_comm]; exact hz), rfl, q _ I.fresh⟩
end
section
variable {prog : Program} {w : World} {A : Around} {E : Value → Shared → Prop} {s : Shared}
end
section
variable {X : Cx}
end
end L2
namespace L2
open PySem PySem.Spec PyProof.Rows
section
variable {κ : Type} [DecidableEq κ]
def valV (kvs : List (κ × V)) (k : κ) : Option V := (kvs.find? fun kv => decide (kv.1 = k)).map (·.2)
def putK (kvs : List (κ × V)) (k : κ) (v : V) : List (κ × V) :=
  if (kvs.any fun kv => decide (kv.1 = k)) = true then kvs.map (fun kv => if kv.1 = k then (kv.1, v) else kv) else kvs ++ [(k, v)]
theorem valV_pos {p : κ × V} {r : List (κ × V)} {k : κ} (e : p.1 = k) : valV (p :: r) k = some p.2 := by simp [valV, List.find?_cons, e]
theorem valV_neg {p : κ × V} {r : List (κ × V)} {k : κ} (e : ¬ p.1 = k) : valV (p :: r) k = valV r k := by simp [valV, List.find?_cons, e]
theorem valV_any (k : κ) : ∀ kvs : List (κ × V), (kvs.any fun kv => decide (kv.1 = k)) = (valV kvs k).isSome
  | [] => rfl
  | p :: r => by
    rw [List.any_cons]
    by_cases e : p.1 = k
    · simp only [valV_pos e, decide_eq_true e, Bool.true_or, Option.isSome_some]
    · rw [valV_neg e, decide_eq_false e, Bool.false_or]; exact valV_any k r
theorem length_putK (kvs : List (κ × V)) (k : κ) (v : V) : (putK kvs k v).length ≤ kvs.length + 1 := by
  unfold putK
  split
  · rw [List.length_map]; omega
  · rw [List.length_append, List.length_cons, List.length_nil]; omega
theorem RelO.isSome_eq {o : Option V} {u : Option Value} (r : RelO o u) : o.isSome = u.isSome := by
  cases o with
  | none => cases u with
    | none => rfl
    | some _ => exact (show False from r).elim
  | some _ => cases u with
    | none => exact (show False from r).elim
    | some _ => rfl
theorem RelO.getD {o : Option V} {u : Option Value} {d : V} {d' : Value} (r : RelO o u) (rd : RelV d d') : RelV (o.getD d) (u.getD d') := by
  cases o with
  | none => cases u with
    | none => exact rd
    | some _ => exact (show False from r).elim
  | some _ => cases u with
    | none => exact (show False from r).elim
    | some _ => exact r
theorem KV.val {kvs : List (κ × V)} {vs : List (κ × Value)} (r : KV kvs vs) (k : κ) : RelO (valV kvs k) (valueAt vs k) := by
  unfold KV at r
  induction r with
  | nil => exact True.intro
  | @cons p q ps qs h t ih =>
    obtain ⟨h1, h2⟩ := h
    by_cases e : p.1 = k
    · have e' : q.1 = k := h1.symm.trans e
      have b : valueAt (q :: qs) k = some q.2 := by simp [valueAt, List.find?_cons, e']
      rw [valV_pos e, b]; exact h2
    · have e' : ¬ q.1 = k := fun z => e (h1.trans z)
      have b : valueAt (q :: qs) k = valueAt qs k := by simp [valueAt, List.find?_cons, e']
      rw [valV_neg e, b]; exact ih
theorem KV.any {kvs : List (κ × V)} {vs : List (κ × Value)} (r : KV kvs vs) (k : κ) : (kvs.any fun kv => decide (kv.1 = k)) = vs.any fun kv => decide (kv.1 = k) := by
  unfold KV at r
  induction r with
  | nil => rfl
  | cons h t ih => rw [List.any_cons, List.any_cons, ih, h.1]
theorem KV.repl {kvs : List (κ × V)} {vs : List (κ × Value)} (r : KV kvs vs) (k : κ) {y : V} {u : Value} (ry : RelV y u) :
    KV (kvs.map fun kv => if kv.1 = k then (kv.1, y) else kv) (vs.map fun kv => if kv.1 = k then (kv.1, u) else kv) := by
  unfold KV at r ⊢
  induction r with
  | nil => exact .nil
  | @cons p q ps qs h t ih =>
    rw [List.map_cons, List.map_cons]
    refine .cons ?_ ih
    obtain ⟨h1, h2⟩ := h
    by_cases e : p.1 = k
    · rw [if_pos e, if_pos (h1.symm.trans e)]; exact ⟨h1, ry⟩
    · rw [if_neg e, if_neg (fun z => e (h1.trans z))]; exact ⟨h1, h2⟩
theorem KV.put {kvs : List (κ × V)} {vs : List (κ × Value)} (r : KV kvs vs) (k : κ) {y : V} {u : Value} (ry : RelV y u) : KV (putK kvs k y) (stored vs k u) := by
  unfold putK stored
  rw [r.any k]
  by_cases e : (vs.any fun kv => decide (kv.1 = k)) = true
  · rw [if_pos e, if_pos e]; exact r.repl k ry
  · rw [if_neg e, if_neg e]; exact Paired.snoc r ⟨rfl, ry⟩
theorem KV.keys {kvs : List (κ × V)} {vs : List (κ × Value)} (r : KV kvs vs) : kvs.map (·.1) = vs.map (·.1) := by
  unfold KV at r
  induction r with
  | nil => rfl
  | cons h t ih => rw [List.map_cons, List.map_cons, ih, h.1]
theorem KV.length {kvs : List (κ × V)} {vs : List (κ × Value)} (r : KV kvs vs) : kvs.length = vs.length := Paired.length r
end
theorem kV_is {P : Program} {w : World} {k : Key} {u : Value} (r : RelV (kV k) u) : (mixKind P w).is k u = true := by
  cases k with
  | inl i => obtain ⟨t, e⟩ := (show ∃ t, u = Value.int i t from r); subst e; exact mixKind_int P w i t
  | inr x => obtain ⟨t, e⟩ := (show ∃ t, u = Value.str x t from r); subst e; exact mixKind_str P w x t
theorem items_are {P : Program} {w : World} : ∀ {ks : List Key} {us : List Value}, Vals (ks.map kV) us → ItemsAre (mixKind P w) ks us
  | [], _, r => by rw [List.map_nil] at r; cases r; exact .nil
  | k :: ks, _, r => by
    rw [List.map_cons] at r
    cases r with
    | cons h t => exact .cons (kV_is h) (items_are t)
abbrev KT (H : Hp) : List (List Key × V) → List (List Key × Addr × Value) → Prop := Paired fun p q => p.1 = q.1 ∧ H q.2.1 = some (.tup (p.1.map kV)) ∧ RelV p.2 q.2.2
theorem KT.val {H : Hp} {kvs : List (List Key × V)} {xs : List (List Key × Addr × Value)} (r : KT H kvs xs) (k : List Key) : RelO (valV kvs k) ((atKey xs k).map (·.2)) := by
  induction r with
  | nil => exact True.intro
  | @cons p q ps qs h t ih =>
    obtain ⟨h1, _, h2⟩ := h
    by_cases e : p.1 = k
    · have e' : q.1 = k := h1.symm.trans e
      have b : atKey (q :: qs) k = some q.2 := by simp [atKey, List.find?_cons, e']
      rw [valV_pos e, b]; exact h2
    · have e' : ¬ q.1 = k := fun z => e (h1.trans z)
      have b : atKey (q :: qs) k = atKey qs k := by simp [atKey, List.find?_cons, e']
      rw [valV_neg e, b]; exact ih
theorem KT.repl {H : Hp} {kvs : List (List Key × V)} {xs : List (List Key × Addr × Value)} (r : KT H kvs xs) (k : List Key) {y : V} {u : Value} (ry : RelV y u) :
    KT H (kvs.map fun kv => if kv.1 = k then (kv.1, y) else kv) (xs.map (putAt k u)) := by
  induction r with
  | nil => exact .nil
  | @cons p q ps qs h t ih =>
    rw [List.map_cons, List.map_cons]
    refine .cons ?_ ih
    obtain ⟨h1, h2, h3⟩ := h
    unfold putAt
    by_cases e : p.1 = k
    · rw [if_pos e, if_pos (h1.symm.trans e)]; exact ⟨h1, h2, ry⟩
    · rw [if_neg e, if_neg (fun z => e (h1.trans z))]; exact ⟨h1, h2, h3⟩
theorem KT.put {H : Hp} {kvs : List (List Key × V)} {xs : List (List Key × Addr × Value)} (r : KT H kvs xs) (k : List Key) {b : Addr} {y : V} {u : Value} (hb : H b = some (.tup (k.map kV))) (ry : RelV y u) :
    KT H (putK kvs k y) (storedH xs k b u) := by
  have e : (kvs.any fun kv => decide (kv.1 = k)) = (atKey xs k).isSome := by
    rw [valV_any, (r.val k).isSome_eq, Option.isSome_map]
  unfold putK storedH
  rw [e]
  by_cases q : (atKey xs k).isSome = true
  · rw [if_pos q, if_pos q]; exact r.repl k ry
  · rw [if_neg q, if_neg q]; exact Paired.snoc r ⟨rfl, hb, ry⟩
theorem KT.keeps {H H' : Hp} {kvs : List (List Key × V)} {xs : List (List Key × Addr × Value)} (r : KT H kvs xs) (ht : ∀ b ys, H b = some (.tup ys) → H' b = some (.tup ys)) : KT H' kvs xs :=
  Paired.mapP r fun _ _ z => ⟨z.1, ht _ _ z.2.1, z.2.2⟩
section
variable {P : Program} {w : World} {H : Hp} {h : Heap} {a : Addr}
theorem rd_of {u : HO} (ok : HOk P w H h) (e : Rd H a u) : ObjOk P w H h a u := e.ok ok
theorem dk_rd {kvs : List (Key × V)} (ok : HOk P w H h) (e : Rd H a (.dK kvs)) : kvs.length ≤ sizeLine ∧ (a == sysModules) = false ∧ ∃ vs, KV kvs vs ∧ h.DictOf (mixKind P w) a vs :=
  show ObjOk P w H h a (.dK kvs) from rd_of ok e
theorem dk_of {kvs : List (Key × V)} (ok : HOk P w H h) (e : H a = some (.dK kvs)) : kvs.length ≤ sizeLine ∧ (a == sysModules) = false ∧ ∃ vs, KV kvs vs ∧ h.DictOf (mixKind P w) a vs := dk_rd ok (.inl e)
theorem key_of {ks : List Key} (ok : HOk P w H h) (e : H a = some (.tup (ks.map kV))) : (tupleKind (mixKind P w)).is h ks a := by
  obtain ⟨_, its, r, o, h1, h2, n, h3⟩ := (show ObjOk P w H h a (.tup (ks.map kV)) from ok a _ e)
  exact ⟨o, its.toArray, n, h1, h2, h3, by simpa using items_are r⟩
theorem dt_rd {kvs : List (List Key × V)} (ok : HOk P w H h) (e : Rd H a (.dT kvs)) : kvs.length ≤ sizeLine ∧ (a == sysModules) = false ∧
    ∃ xs, KT H kvs xs ∧ h.DictOfH (tupleKind (mixKind P w)) a xs := by
  obtain ⟨z, y, xs, r, o, es, ep, h1, h2, h3, h4, h5⟩ := (show ObjOk P w H h a (.dT kvs) from rd_of ok e)
  refine ⟨z, y, xs, r, o, es, ep, h1, h2, h3, h4, fun x hx => ?_, h5⟩
  have all : ∀ {l : List (List Key × V)} {m : List (List Key × Addr × Value)}, KT H l m → ∀ x ∈ m, (tupleKind (mixKind P w)).is h x.1 x.2.1 := by
    intro l m q
    induction q with
    | nil => intro x hx; exact nomatch hx
    | @cons p q ps qs hq t ih =>
      intro x hx
      rcases List.mem_cons.mp hx with e | hx
      · subst e
        exact key_of ok (by rw [← hq.1]; exact hq.2.1)
      · exact ih x hx
  exact all r x hx
theorem dt_of {kvs : List (List Key × V)} (ok : HOk P w H h) (e : H a = some (.dT kvs)) : kvs.length ≤ sizeLine ∧ (a == sysModules) = false ∧
    ∃ xs, KT H kvs xs ∧ h.DictOfH (tupleKind (mixKind P w)) a xs := dt_rd ok (.inl e)
end
def DGet (H : Hp) (a : Addr) (y : V) (r : Option V) : Prop :=
  (∃ kvs k, Rd H a (.dK kvs) ∧ y = kV k ∧ r = valV kvs k) ∨ ∃ kvs k b, Rd H a (.dT kvs) ∧ y = .ref b ∧ H b = some (.tup (k.map kV)) ∧ r = valV kvs k
def DPut (H : Hp) (a : Addr) (y v : V) (H' : Hp) : Prop :=
  (∃ kvs k, H a = some (.dK kvs) ∧ y = kV k ∧ kvs.length < sizeLine ∧ H' = upd H a (.dK (putK kvs k v))) ∨
  ∃ kvs k b, H a = some (.dT kvs) ∧ y = .ref b ∧ H b = some (.tup (k.map kV)) ∧ kvs.length < sizeLine ∧ H' = upd H a (.dT (putK kvs k v))
theorem DPut.k {H : Hp} {a : Addr} {kvs : List (Key × V)} {k : Key} {v : V} (e : H a = some (.dK kvs)) (hl : kvs.length < sizeLine) : DPut H a (kV k) v (upd H a (.dK (putK kvs k v))) := .inl ⟨kvs, k, e, rfl, hl, rfl⟩
section
variable {X : Cx} {pins : List (Addr × Obj)} {σ : St} {H : Hp} {s : Shared} {a : Addr} {y v : V} {u r : Value} {o : Option V} {A : Around} {E : Value → Shared → Prop}
theorem Inv.big (I : Inv X pins σ H s) : sysModules < s.heap.objs.size := by
  have h : mainGlobals < s.heap.objs.size := (I.mod.glob.keeps I.bk).lt
  exact Nat.lt_trans (by decide) h
theorem d_getItem {Q : Value → Shared → Prop} (hu : A.units + 1 < cLine) (I : Inv X pins σ H s) (g : DGet H a y (some v)) (ry : RelV y u) (h : ∀ w' s', Inv X pins σ H s' → RelV v w' → Q w' s') :
    wpAny (model X.prog X.w) A (getItem (.ref a) u) Q E s := by
  rcases g with ⟨kvs, k, e, ey, l⟩ | ⟨kvs, k, b, e, ey, eb, l⟩
  · subst ey
    obtain ⟨z, hd, vs, rel, dd⟩ := dk_rd I.hok e
    obtain ⟨w', hw, rw'⟩ := RelO.some_of (v := v) (o := valueAt vs k) (by rw [l]; exact rel.val k)
    exact wpAny_getItem_of (kV_is ry) dd.mapOf hw (h w' _ (I.tok _) rw')
  · subst ey
    cases (show u = Value.ref b from ry)
    obtain ⟨z, hd, xs, rel, dd⟩ := dt_rd I.hok e
    obtain ⟨w', hw, rw'⟩ := RelO.some_of (v := v) (o := (atKey xs k).map (·.2)) (by rw [l]; exact rel.val k)
    obtain ⟨p, hp, hp2⟩ := Option.map_eq_some_iff.mp hw
    refine wpAny_getItem_heap (tupleKind_room_in1 hu) (key_of I.hok eb) dd hp ?_
    rw [hp2]
    exact h w' _ (I.tok _) rw'
theorem d_write {h' : Heap} {t' : Nat} {ob : HO} (I : Inv X pins σ H s) (mu : Mut (H a)) (hs : Heap.SameBut a s.heap h') (he : ∃ q, h'.get? a = some q) (new : ObjOk X.prog X.w (upd H a ob) h' a ob) :
    Inv X pins σ (upd H a ob) { s with heap := h', toks := t' } :=
  I.write (x := a) (e := a) mu (.inl rfl) (fun b q hb z => (hs.2 b hb).trans z) he new
theorem dk_new {P : Program} {w : World} {H' : Hp} {h' : Heap} {kvs : List (Key × V)} {vs : List (Key × Value)} (z : kvs.length ≤ sizeLine) (hd : (a == sysModules) = false) (rel : KV kvs vs) (dd : h'.DictOf (mixKind P w) a vs) :
    ObjOk P w H' h' a (.dK kvs) := ⟨z, hd, vs, rel, dd⟩
theorem d_setItem {H' : Hp} {Q : Unit → Shared → Prop} (hu : A.units + 1 < cLine) (I : Inv X pins σ H s) (g : DPut H a y v H') (ry : RelV y u) (rv : RelV v r) (h : ∀ s', Inv X pins σ H' s' → Q () s') :
    wpAny (model X.prog X.w) A (setItem (.ref a) u r) Q E s := by
  rcases g with ⟨kvs, k, e, ey, l, eH⟩ | ⟨kvs, k, b, e, ey, eb, l, eH⟩
  · subst ey eH
    obtain ⟨z, hd, vs, rel, dd⟩ := dk_of I.hok e
    have hz : vs.length ≤ sizeLine := by rw [← rel.length]; exact z
    have hl : (putK kvs k v).length ≤ sizeLine := by have := length_putK kvs k v; omega
    refine wpAny_setItem_pairs (hsz := hz) (kV_is ry) dd fun h' dd' hs => h _ ?_
    have he : ∃ q, h'.get? a = some q := let ⟨q, _, _, hq, _⟩ := dd'; ⟨q, hq⟩
    exact d_write I (by rw [e]; exact True.intro) hs he (dk_new hl hd (rel.put k rv) dd')
  · subst ey eH
    cases (show u = Value.ref b from ry)
    obtain ⟨z, hd, xs, rel, dd⟩ := dt_of I.hok e
    have hz : xs.length ≤ sizeLine := by rw [← Paired.length rel]; exact z
    have hl : (putK kvs k v).length ≤ sizeLine := by have := length_putK kvs k v; omega
    refine wpAny_setItem_heap (hsz := hz) (tupleKind_room_in1 hu) (key_of I.hok eb) dd fun h' dd' hs => h _ ?_
    obtain ⟨q, es, ep, hq, h2, h3, h4, _, h5⟩ := dd'
    refine d_write I (by rw [e]; exact True.intro) hs ⟨q, hq⟩ ⟨hl, hd, _, (rel.put k eb rv).keeps fun c ys ec => ?_, q, es, ep, hq, h2, h3, h4, h5⟩
    rw [upd_ne (ne_of ec e (fun z => nomatch z))]
    exact ec
end
section
variable {X : Cx} {pins : List (Addr × Obj)} {σ : St} {H : Hp} {s : Shared} {a : Addr} {kvs : List (Key × V)} {k : Key} {u : Value} {A : Around} {E : Value → Shared → Prop}
theorem d_len {Q : Value → Shared → Prop} (I : Inv X pins σ H s) (e : Rd H a (.dK kvs)) (h : ∀ t s', Inv X pins σ H s' → Q (.int kvs.length t) s') : wpAny (model X.prog X.w) A (call (.builtin "len") [.ref a]) Q E s := by
  obtain ⟨z, hd, vs, rel, dd⟩ := dk_rd I.hok e
  refine call_len_dict hd dd (by rw [← rel.length]; rw [sizeLine_eq] at z; omega) ?_
  rw [← rel.length]
  exact h _ _ (I.tok _)
end
theorem dict_typeIs {X : Cx} {pins : List (Addr × Obj)} {σ : St} {H : Hp} {s : Shared} {a : Addr} {y : V} {o : Option V} (I : Inv X pins σ H s) (g : DGet H a y o) : s.TypeIs (.ref a) "dict" := by
  rcases g with ⟨kvs, k, e, _, _⟩ | ⟨kvs, k, b, e, _, _, _⟩
  · obtain ⟨_, _, vs, _, dd⟩ := dk_rd I.hok e
    exact dd.typeIs
  · obtain ⟨_, _, xs, _, dd⟩ := dt_rd I.hok e
    exact dd.typeIs
section
variable {X : Cx} {o i e value : Expr} {pos pos' tpos : Pos} {td ty tv : TE}
end
theorem dk_empty {P : Program} {w : World} {H : Hp} (h : Heap) (hb : sysModules < h.objs.size) : ObjOk P w H (h.push { cls := .type "dict", data := .dict #[] }) h.objs.size (.dK []) :=
  ⟨Nat.zero_le _, beq_eq_false_iff_ne.mpr (Ne.symm (Nat.ne_of_lt hb)), [], .nil, Heap.DictOf.new h⟩
def tDNewK : TE := fun _ H Q => ∀ p, H p = none → Q (.ref p) (upd H p (.dK []))
section
variable {X : Cx} {pos : Pos}
theorem pe_dnewK : PE X (.Dict [] [] pos) tDNewK := fun pins s σ H Q I h =>
  wpAny_Dict_empty ⟨.ref s.heap.objs.size, _, I.laid (a := s.heap.objs.size) (o := .dK []) (t' := s.toks) (fun _ _ q => Heap.get?_push_of_some _ q) (Nat.le_refl _) (dk_empty s.heap I.big), rfl, h _ (I.hok.fresh (Nat.le_refl _))⟩
end
def tPairs : List (TE × TE) → St → Hp → (List (V × V) → Hp → Prop) → Prop
  | [], _, H, Q => Q [] H
  | (tk, tv) :: r, σ, H, Q => tk σ H fun x H1 => tv σ H1 fun y H2 => tPairs r σ H2 fun ps H3 => Q ((x, y) :: ps) H3
abbrev VV : List (V × V) → List (Value × Value) → Prop := Paired fun p q => RelV p.1 q.1 ∧ RelV p.2 q.2
def PPs (X : Cx) (pos : Pos) (keys : List (Option Expr)) (values : List Expr) (trs : List (TE × TE)) : Prop :=
  ∀ (pins : List (Addr × Obj)) (s : Shared) (σ : St) (H : Hp) (Q : List (V × V) → Hp → Prop), Inv X pins σ H s → tPairs trs σ H Q →
    wpAny (model X.prog X.w) X.A (evalPairs (pairTrees keys values X.env pos)) (fun vs s' => ∃ ps H', Inv X pins σ H' s' ∧ VV ps vs ∧ Q ps H') X.xe s
theorem pps_nil {X : Cx} {pos : Pos} : PPs X pos [] [] [] := fun pins s σ H Q I h => pairTrees_nil_walk ⟨[], H, I, .nil, h⟩
theorem pps_cons {X : Cx} {pos : Pos} {k v : Expr} {ks : List (Option Expr)} {vs : List Expr} {tk tv : TE} {trs : List (TE × TE)} (hk : PE X k tk) (hv : PE X v tv) (hr : PPs X pos ks vs trs) :
    PPs X pos (some k :: ks) (v :: vs) ((tk, tv) :: trs) := fun pins s σ H Q I h =>
  pairTrees_cons_walk (thn (hk pins s σ H _ I h) fun u s1 ⟨x, H1, I1, rx, q1⟩ => thn (hv pins s1 σ H1 _ I1 q1) fun w2 s2 ⟨y, H2, I2, ry, q2⟩ =>
    thn (hr pins s2 σ H2 _ I2 q2) fun ws s3 ⟨ps, H3, I3, rel, q3⟩ => ⟨(x, y) :: ps, H3, I3, .cons ⟨rx, ry⟩ rel, q3⟩)
def mergeK (kvs more : List (Key × V)) : List (Key × V) := more.foldl (fun acc kv => putK acc kv.1 kv.2) kvs
theorem KV.merge : ∀ {more : List (Key × V)} {rs : List (Key × Value)} {kvs : List (Key × V)} {vs : List (Key × Value)}, KV more rs → KV kvs vs → KV (mergeK kvs more) (merged vs rs) := by
  intro more rs kvs vs r
  unfold KV at r
  induction r generalizing kvs vs with
  | nil => intro q; exact q
  | @cons p q ps qs h t ih =>
    intro r0
    have e : KV (putK kvs p.1 p.2) (stored vs q.1 q.2) := by
      have := r0.put p.1 h.2
      rw [← h.1]; exact this
    exact ih e
theorem length_mergeK : ∀ (more kvs : List (Key × V)), (mergeK kvs more).length ≤ kvs.length + more.length
  | [], kvs => by show kvs.length ≤ kvs.length + 0; omega
  | p :: r, kvs => by
    have h1 := length_mergeK r (putK kvs p.1 p.2)
    have h2 := length_putK kvs p.1 p.2
    show (mergeK (putK kvs p.1 p.2) r).length ≤ _
    rw [List.length_cons]; omega
theorem carries_of {P : Program} {w : World} : ∀ {kvs : List (Key × V)} {ws : List (Value × Value)}, VV (kvs.map fun kv => (kV kv.1, kv.2)) ws → ∃ rs, Carries (mixKind P w) ws rs ∧ KV kvs rs
  | [], _, r => by rw [List.map_nil] at r; cases r; exact ⟨[], True.intro, .nil⟩
  | p :: kvs, _, r => by
    rw [List.map_cons] at r
    cases r with
    | @cons a b as bs h t =>
      obtain ⟨rs, c, q⟩ := carries_of (P := P) (w := w) t
      obtain ⟨b1, b2⟩ := b
      exact ⟨(p.1, b2) :: rs, ⟨kV_is h.1, rfl, c⟩, .cons ⟨rfl, h.2⟩ q⟩
def tDisp (trs : List (TE × TE)) : TE := fun σ H Q => ∀ p, H p = none → tPairs trs σ (upd H p (.dK [])) fun ps H2 => H2 p = some (.dK []) ∧ ∃ kvs : List (Key × V), ps = kvs.map (fun kv => (kV kv.1, kv.2)) ∧ kvs.length ≤ 15 ∧ Q (.ref p) (upd H2 p (.dK (mergeK [] kvs)))
theorem pe_disp {X : Cx} {pos : Pos} {keys : List (Option Expr)} {values : List Expr} {trs : List (TE × TE)} (h : PPs X pos keys values trs) (hall : keys.all (·.isSome) = true) (hl : keys.length = values.length) (h0 : keys ≠ [])
    (h15 : keys.length ≤ 15) : PE X (.Dict keys values pos) (tDisp trs) := by
  intro pins s σ H Q I q
  have hn := I.hok.fresh (Nat.le_refl s.heap.objs.size)
  have I1 := I.laid (a := s.heap.objs.size) (o := .dK []) (h' := s.heap.push { cls := .type "dict", data := .dict #[] }) (t' := s.toks) (fun _ _ q => Heap.get?_push_of_some _ q) (Nat.le_refl _) (dk_empty s.heap I.big)
  refine wpAny_Dict_walk (knd := mixKind X.prog X.w) hall hl h0 h15 (thn (h pins _ σ _ _ I1 (q _ hn)) fun ws s2 ⟨ps, H2, I2, rel, e, kvs, ep, lk, q2⟩ => ?_)
  subst ep
  obtain ⟨rs, c, rk⟩ := carries_of (P := X.prog) (w := X.w) rel
  obtain ⟨z, hd, vs0, r0, dd⟩ := dk_of I2.hok e
  cases r0
  refine ⟨rs, c, dd, fun h' dd' hs => ⟨.ref s.heap.objs.size, _, ?_, rfl, q2⟩⟩
  have hz : (mergeK [] kvs).length ≤ sizeLine := by
    have h1 := length_mergeK kvs []
    rw [List.length_nil] at h1
    rw [sizeLine_eq]; omega
  have he : ∃ q, h'.get? s.heap.objs.size = some q := let ⟨q, _, _, hq, _⟩ := dd'; ⟨q, hq⟩
  exact d_write I2 (by rw [e]; exact True.intro) hs he (dk_new hz hd (rk.merge .nil) dd')
structure M2 (X : Cx) (o : Expr) (m : Str) (apos : Pos) (e f : Expr) (cpos : Pos) : Prop where
  base : attributeBase o m X.env (eval o X.env) = eval o X.env
  few : ((backTo cpos (starEach [e, f] X.env)).all (fun x => !x.1) && (backToKw cpos (keywordEach [] X.env)).all (fun x => x.1.isSome)
    && decide (([e, f] : List Expr).length + ([] : List Keyword).length + (if ([] : List Keyword).isEmpty then 0 else 1) < 30)) = true
  line : (apos.endLine == cpos.line) = true
  trees : backTo cpos (starEach [e, f] X.env) = [(false, eval e X.env), (false, eval f X.env)]
def IsD (H : Hp) (a : Addr) : Prop := (∃ kvs, Rd H a (.dK kvs)) ∨ ∃ kvs, Rd H a (.dT kvs)
theorem isD_at {X : Cx} {pins : List (Addr × Obj)} {σ : St} {H : Hp} {s : Shared} {a : Addr} (I : Inv X pins σ H s) (d : IsD H a) :
    s.TypeIs (.ref a) "dict" ∧ (∀ b, Value.ref a = .ref b → ∃ ob, s.heap.get? b = some ob ∧ ob.dict = none) ∧ (a == sysModules) = false := by
  rcases d with ⟨kvs, e⟩ | ⟨kvs, e⟩
  · obtain ⟨_, hd, vs, _, dd⟩ := dk_rd I.hok e
    refine ⟨dd.typeIs, fun b q => ?_, hd⟩
    cases q
    obtain ⟨ob, _, _, h1, h2, _⟩ := dd
    exact ⟨ob, h1, h2.2.1⟩
  · obtain ⟨_, hd, xs, _, dd⟩ := dt_rd I.hok e
    refine ⟨dd.typeIs, fun b q => ?_, hd⟩
    cases q
    obtain ⟨ob, _, _, h1, h2, _⟩ := dd
    exact ⟨ob, h1, h2.2.1⟩
section
variable {X : Cx} {pins : List (Addr × Obj)} {σ : St} {H : Hp} {s : Shared} {a : Addr} {y d : V} {u r : Value} {o : Option V} {A : Around} {E : Value → Shared → Prop}
theorem d_get2 {Q : Value → Shared → Prop} (hu : A.units + 1 < cLine) (I : Inv X pins σ H s) (g : DGet H a y o) (ry : RelV y u) (rd : RelV d r) (h : ∀ w' s', Inv X pins σ H s' → RelV (o.getD d) w' → Q w' s') :
    wpAny (model X.prog X.w) A (call (.builtin "dict.get") [.ref a, u, r]) Q E s := by
  rcases g with ⟨kvs, k, e, ey, l⟩ | ⟨kvs, k, b, e, ey, eb, l⟩
  · subst ey
    obtain ⟨z, hd, vs, rel, dd⟩ := dk_rd I.hok e
    refine call_meetsIn PySem.F.slot_dict_get dd.typeIs PySem.F.entry_dict_get (PySem.F.args_dict_get_3 _ _ _) (meets_dict_get_default (mixKind X.prog X.w) a (kV_is ry) hd r) ⟨_, dd.mapOf, h _ _ (I.tok _) ?_⟩
    rw [l]
    exact (rel.val k).getD rd
  · subst ey
    cases (show u = Value.ref b from ry)
    obtain ⟨z, hd, xs, rel, dd⟩ := dt_rd I.hok e
    refine call_meetsIn PySem.F.slot_dict_get dd.typeIs PySem.F.entry_dict_get (PySem.F.args_dict_get_3 _ _ _) (meetsH_dict_get_default (tupleKind (mixKind X.prog X.w)) a b hd r) ⟨tupleKind_room_in1 hu, k, xs, key_of I.hok eb, dd, h _ _ (I.tok _) ?_⟩
    rw [l]
    exact (rel.val k).getD rd
end
def tDGet2 (td ty tx : TE) : TE := fun σ H Q => td σ H fun x H1 => ∃ a, x = .ref a ∧ IsD H1 a ∧ ty σ H1 fun y H2 => tx σ H2 fun z H3 => ∃ o, DGet H3 a y o ∧ Q (o.getD z) H3
section
variable {X : Cx} {o e f : Expr} {apos cpos : Pos} {td ty tx : TE}
theorem pe_dget2 (hu : X.A.units + 1 < cLine) (ho : PE X o td) (he : PE X e ty) (hf : PE X f tx) (m : M2 X o "get" apos e f cpos) : PE X (.Call (.Attribute o "get" apos) [e, f] [] cpos) (tDGet2 td ty tx) := by
  intro pins s σ H Q I h
  refine wpAny_Call_method m.base m.few m.line PySem.F.plainAttrs_dict PySem.F.slot_dict_get PySem.F.type_dict_get (thn (ho pins s σ H _ I h) fun u s1 ⟨x, H1, I1, rx, a, ex, d, q1⟩ => ?_)
  subst ex
  obtain rfl : u = Value.ref a := rx
  obtain ⟨t1, t2, _⟩ := isD_at I1 d
  refine ⟨t1, t2, ?_⟩
  rw [m.trees]
  refine Calls.callWith_builtin rfl (Calls.evalArgs_plain (Calls.spliced_cons (thn (he pins s1 σ H1 _ I1 q1) fun iv s2 ⟨y, H2, I2, ry, q2⟩ =>
    Calls.spliced_cons (thn (hf pins s2 σ H2 _ I2 q2) fun fv s3 ⟨z, H3, I3, rz, ov, g, q3⟩ => Calls.spliced_nil ?_))))
  exact d_get2 hu I3 g ry rz fun w' s4 I4 rw' => ⟨_, H3, I4, rw', q3⟩
end
section
variable {X : Cx} {pins : List (Addr × Obj)} {σ : St} {H : Hp} {s : Shared} {a : Addr} {kvs : List (Key × V)} {A : Around} {E : Value → Shared → Prop}
end
section
variable {X : Cx} {pins : List (Addr × Obj)} {σ : St} {H : Hp} {s : Shared} {a : Addr} {y : V} {u : Value} {A : Around} {E : Value → Shared → Prop}
end
end L2
namespace Att
open PySem PySem.W PySem.Calls PyProof.Rows
theorem ints_of_wellAll {P : Params} {h : Heap} : ∀ (ns : List Int) (vs : List Value), WellAll P h vs (ns.map WData.int) → IntsAre vs ns := by
  intro ns
  induction ns with
  | nil =>
    intro vs w
    rw [List.map_nil] at w
    cases w
    exact .nil
  | cons n ns ih =>
    intro vs w
    rw [List.map_cons] at w
    cases w with
    | cons a b =>
      cases a
      exact .cons _ _ (ih _ b)
theorem script_of {l : OpenLaw} {n : Nat} (hn : l.most = some n) {P : Params} {h : Heap} {args : List WData} {vals : List Value}
    (hpre : l.row.toRowW.claim.pre args = true) (hwl : WellAll P h vals args) :
    ∃ a vs ns, vals = [Value.ref a] ∧ args = [WData.list (ns.map WData.int)] ∧ h.get? a = some { cls := .type "list", data := .seq vs.toArray } ∧ IntsAre vs ns ∧ ns.length ≤ n := by
  have hsh : WShape.hasAll [] args [.list .int] = true := (pre_splitW hpre).1
  have hc : l.pre.holds [] { args := args } = true := (pre_splitW hpre).2
  obtain ⟨d, r, rfl, h1, h2⟩ := hasAllW_cons hsh
  obtain rfl := hasAllW_nil h2
  obtain ⟨xs, rfl, h3⟩ := hasW_list h1
  obtain ⟨ns, rfl⟩ := items_int h3
  have hlen : ns.length ≤ n := by
    unfold OpenLaw.pre at hc
    have h4 : (WTm.not (.lt (.lit (.int (n : Int))) (.len (.arg 0)))).holds [] { args := [.list (ns.map .int)] } = true := by
      have h4 := (holds_andW hc).1
      rw [hn] at h4
      exact h4
    have h5 := condW_of h4 (w_not (w_lt w_lit (w_len_list (w_arg rfl))))
    rw [List.length_map] at h5
    refine Nat.le_of_not_lt fun q => ?_
    have q' : (n : Int) < ((ns.length : Nat) : Int) := by omega
    first
      | (rw [decide_eq_true q'] at h5; exact absurd h5 (by decide))
      | (simp at h5; omega)
  cases hwl with
  | cons w1 w2 =>
    cases w2
    cases w1 with
    | list ho hall => exact ⟨_, _, ns, rfl, rfl, ho, ints_of_wellAll ns _ hall, hlen⟩
theorem post_true (l : OpenLaw) (args : List WData) : l.row.toRowW.claim.post args (.bool true) args = true :=
  postW_of (r := l.row.toRowW) (X := (true == true))
    (show WShape.has [] (.bool true) .bool = true by first | rfl | decide | simp [WShape.has, WShape.arms, WShape.armsAll])
    (show (WTm.eq .res (.lit (.bool true))).value [] { args := args, res := some (.bool true), after := args } = some (.bool (true == true)) from w_eq_bool (w_res rfl) w_lit) rfl
theorem attach_call {l : OpenLaw} {n : Nat} {q : Program} {loose : List Str} {XP : (Str → Option Value) → Heap → Prop} {YP : World → Heap → Prop} {d : DefRec}
    (hn : l.most = some n) (hdf : d.params.defaults = [])
    (call : ∀ (w : World) (s₀ s₁ : Shared) (mg mb : Str → Option Value) (fa : Addr) (o : Obj) (pm cd doc : Value) (a : Addr) (vs : List Value) (ns : List Int),
      Ground q loose [] XP w s₀ mg mb s₁.heap → YP w s₁.heap →
      s₁.heap.get? fa = some o → o.data = .func (docDef d.name d.params d.body d.scope pm cd doc) → s₁.heap.CodeRec cd d.name → mg d.name = some (.ref fa) →
      s₁.heap.get? a = some { cls := .type "list", data := .seq vs.toArray } → IntsAre vs ns → ns.length ≤ n → s₁.gens = #[] →
      codeAny (model l.prog w) callerA (.call (.ref fa) ⟨[.ref a], []⟩) (fun r s' => r = .ok (.ret (.bool true)) ∧ OldK s₁.heap s'.heap ∧ s'.os = s₁.os ∧ AllBare s'.gens) s₁) :
    WalkO q loose XP YP l.row.toRowW d [] (fun f vs => PySem.call f vs) := by
  intro w s₀ s₁ mg mb G Y fa o pm cd doc dV kV ho hd hcd hD hmg hg args vals as hpre hlay hrd hwl hlo
  obtain rfl : dV = .none := Dflts.none hD hdf
  obtain rfl : kV = .none := Dflts.noKw hD
  obtain ⟨a, vs, ns, rfl, rfl, hobj, hints, hlen⟩ := script_of hn hpre hwl
  refine enter_call (codeAny_mono (call w s₀ s₁ mg mb fa o pm cd doc a vs ns G Y ho (fd_plain hd) hcd hmg hobj hints hlen hg) fun r s' hq => ?_)
  obtain ⟨rfl, h2, h3, h4⟩ := hq
  exact ⟨.inl ⟨.bool true, .bool true, [], rfl, fun _ => rfl, .bool true, post_true l _, fun _ => ⟨List.Pairwise.nil, fun _ hm => (nomatch hm)⟩⟩, h2, h3, h4⟩
section
variable {prog : Program} {w : World} {A : Around} {E : Value → Shared → Prop} {s : Shared} {K : Frag}
end
end Att
namespace L2
open PySem PySem.Spec PyProof.Rows
theorem vals_ints : ∀ {vs : List Value} {ns : List Int}, IntsAre vs ns → Vals (ns.map V.int) vs
  | _, _, .nil => .nil
  | _, _, .cons n t h => .cons ⟨t, rfl⟩ (vals_ints h)
def Only (H : Hp) : Prop := ∀ b, H b = none ∨ ∃ o xs, H b = some (.frz o (.lst xs))
theorem law_call {P : Program} {w : World} {K : PySem.W.Frag} {mg mb : Str → Option Value} {CX : CXT} {k : Nat} {fa a : Addr} {fd : FuncData} {x : Str} {sp : Sp} {s₁ : Shared} {vs : List Value} {ns : List Int}
    (KX : K.In s₁.heap) (hns : s₁.heap.Ns mainGlobals mg) (hb : s₁.heap.Ns builtinsNs mb) (hbb : ∀ x : Str, x ≠ "__name__" → mb x = bootBuiltins x) (hlim : s₁.heap.NoLimit) (hg : s₁.gens = #[])
    (ha : s₁.heap.get? a = some { cls := .type "list", data := .seq vs.toArray }) (hi : IntsAre vs ns) (hl : ns.length ≤ sizeLine) (hr : Room k callerA)
    (F : ∀ base : Heap, K.In base → base.Ns mainGlobals mg → FnOk P w K mg base CX k fa fd [x] sp) (hbind : ∀ (s : Shared) (u : Value), BindsTo s fd ⟨[u], []⟩ [(x, u)])
    (hsp : ∀ H : Hp, Only H → SqL K H a (ns.map V.int) → sp [.ref a] H (fun v _ => v = .bl true) fun _ _ _ => False)
    (hCX : ∀ H e s', CX [] H s₁ (fun _ _ _ => False) e s' → False) :
    codeAny (model P w) callerA (.call (.ref fa) ⟨[.ref a], []⟩) (fun r s' => r = .ok (.ret (.bool true)) ∧ OldK s₁.heap s'.heap ∧ s'.os = s₁.os ∧ AllBare s'.gens) s₁ := by
  have rv := vals_ints hi
  have lenV := hi.length
  -- from an abstract heap in which nothing but the script may be tracked
  have core : ∀ H : Hp, Only H → SqL K H a (ns.map V.int) → HOk P w H s₁.heap → (∀ b, H b ≠ none → b = a) → (H a ≠ none → K.lookup a = none) →
      codeAny (model P w) callerA (.call (.ref fa) ⟨[.ref a], []⟩) (fun r s' => r = .ok (.ret (.bool true)) ∧ OldK s₁.heap s'.heap ∧ s'.os = s₁.os ∧ AllBare s'.gens) s₁ := by
    intro H hO hS hok hA hK
    have base_of : ∀ {b : Addr} {o : Obj}, s₁.heap.get? b = some o → H b = none → (hidT s₁.heap H).get? b = some o := fun e n => hidT_get e n
    have noA : ∀ {b : Addr} {o : Obj} {es : Array DictEntry} {ep : Nat}, s₁.heap.get? b = some o → o.data = .dict es ep → H b = none := fun {b o es ep} e d => by
      cases q : H b with
      | none => rfl
      | some u =>
        have e' : b = a := hA b (by rw [q]; simp)
        subst e'
        rw [ha] at e; cases e
        have d' : Data.seq vs.toArray _ = Data.dict es ep := d
        cases d'
    have nsK : ∀ {b : Addr} {m : Str → Option Value}, s₁.heap.Ns b m → (hidT s₁.heap H).Ns b m := fun {b m} ⟨o, es, ep, e, d, r⟩ => ⟨o, es, ep, base_of e (noA e d), d, r⟩
    have hKb : K.In (hidT s₁.heap H) := fun b o e => base_of (KX b o e) (by
      cases q : H b with
      | none => rfl
      | some u =>
        have e' : b = a := hA b (by rw [q]; simp)
        subst e'
        rw [hK (by rw [q]; simp)] at e; cases e)
    have hM : Mod K mg (hidT s₁.heap H) := ⟨hKb, nsK hns, ⟨mb, nsK hb, hbb⟩, let ⟨mc, h1, h2⟩ := hlim; ⟨mc, nsK h1, h2⟩⟩
    have e0 : Env0 P w K mg (hidT s₁.heap H) callerA [] s₁ H := ⟨rfl, hM, fun b o e => of_hidT e, Nat.le_of_eq (hidT_size _ _), trivial, fun b hb => absurd (show b ∈ ([] : List Addr) from hb) (by simp), hok, .of_eq hg⟩
    refine codeAny_mono ((F _ hKb (nsK hns)).run callerA [] s₁ H ⟨[.ref a], []⟩ [.ref a] [.ref a] _ _ hr e0 (hbind s₁ (.ref a)) (.cons rfl .nil) (hsp H hO hS)) fun r s' h => ?_
    cases r with
    | error e => exact (hCX H e s' h).elim
    | ok fl =>
      cases fl with
      | next => exact False.elim h
      | brk => exact False.elim h
      | cont => exact False.elim h
      | ret u =>
        obtain ⟨v, H', os, bare, un, hok', r', q⟩ := h
        have q' : v = .bl true := q
        subst q'
        obtain rfl : u = Value.bool true := r'
        refine ⟨rfl, OldK.of_keep fun b o e => ?_, os, bare⟩
        cases q : H b with
        | none => exact un.keep b o e q (by intro z; exact absurd (show b ∈ ([] : List Addr) from z) (by simp)) (by simp)
        | some u =>
          rcases hO b with z | ⟨ob, xs, z⟩
          · rw [q] at z; cases z
          · have z2 := un.frzs b ob _ z
            obtain ⟨e1, _⟩ := hok b _ z
            obtain ⟨e2, _⟩ := hok' b _ z2
            rw [e] at e1; cases e1
            exact e2
  cases hk : K.lookup a with
  | some o =>
    -- the script is one of the module's own objects
    have e := KX a o hk
    rw [ha] at e
    cases e
    refine core (fun _ => none) (fun _ => .inl rfl) (.inr ⟨_, vs.toArray, _, hk, rfl, rfl, rfl, by rw [List.size_toArray, lenV]; exact hl, by simpa using rv⟩) (fun b u z => by have z' : (none : Option HO) = some u := z; cases z') (fun b z => absurd rfl z) fun z => absurd rfl z
  | none =>
    refine core (fun b => if b = a then some (.frz { cls := .type "list", data := .seq vs.toArray } (.lst (ns.map V.int))) else none) (fun b => ?_) (.inl (.inr ⟨{ cls := .type "list", data := .seq vs.toArray }, if_pos rfl⟩)) (fun b u z => ?_) (fun b z => ?_) fun _ => hk
    · by_cases hb : b = a
      · exact .inr ⟨_, _, if_pos hb⟩
      · exact .inl (if_neg hb)
    · by_cases hb : b = a
      · have z' := (if_pos hb).symm.trans z
        cases z'
        subst hb
        exact ⟨ha, by rw [List.length_map]; exact hl, vs, _, rv, ha⟩
      · have z' := (if_neg hb).symm.trans z
        cases z'
    · by_cases hb : b = a
      · exact hb
      · exact absurd (if_neg hb) z
end L2
namespace L2
open PySem PySem.Spec PyProof.Rows
theorem walk_of {l : PySem.W.OpenLaw} {n k : Nat} {q : Program} {loose : List Str} {XP : (Str → Option Value) → Heap → Prop} {YP : World → Heap → Prop} {d : DefRec} {K : Params → PySem.W.Frag} {CX : World → CXT} {sp : World → Sp} {x : Str}
    (hn : l.most = some n) (hn2 : n ≤ sizeLine) (hdf : d.params.defaults = []) (hr : Room k callerA)
    (hY : ∀ (w : World) (h : Heap), YP w h → (K w.params).In h)
    (F : ∀ (w : World) (mg : Str → Option Value) (fa : Addr) (h : Heap), (K w.params).In h → h.Ns mainGlobals mg → mg d.name = some (.ref fa) →
      ∃ fd : FuncData, (∀ (s : Shared) (u : Value), BindsTo s fd ⟨[u], []⟩ [(x, u)]) ∧
        ∀ base : Heap, (K w.params).In base → base.Ns mainGlobals mg → FnOk l.prog w (K w.params) mg base (CX w) k fa fd [x] (sp w))
    (hsp : ∀ (w : World) (H : Hp) (a : Addr) (ns : List Int), ns.length ≤ n → Only H → SqL (K w.params) H a (ns.map V.int) → sp w [.ref a] H (fun v _ => v = .bl true) fun _ _ _ => False)
    (hCX : ∀ (w : World) (H : Hp) (s : Shared) (e : Value) (s' : Shared), CX w [] H s (fun _ _ _ => False) e s' → False) :
    PySem.W.WalkO q loose XP YP l.row.toRowW d [] (fun f vs => PySem.call f vs) := by
  refine Att.attach_call hn hdf fun w s₀ s₁ mg mb fa o pm cd doc a vs ns G Y ho hd hcd hmg hobj hints hlen hg => ?_
  have KX := hY w _ Y
  obtain ⟨fd, hb, hF⟩ := F w mg fa _ KX G.T.g hmg
  exact law_call KX G.T.g G.T.b G.T.builtins G.T.nolimit hg hobj hints (Nat.le_trans hlen hn2) hr hF hb (fun H hO hS => hsp w H a ns hlen hO hS) fun H e s' => hCX w H s₁ e s'
end L2
namespace L2
open PySem PySem.Spec PyProof.Rows
def defArgs (s : Stmt) : Arguments := match s with
  | .FunctionDef _ a _ _ _ _ _ _ _ _ => a
  | _ => { posonlyargs := [], args := [], vararg := none, kwonlyargs := [], kw_defaults := [], kwarg := none, defaults := [] }
def defBody (s : Stmt) : List Stmt := match s with
  | .FunctionDef _ _ b _ _ _ _ _ _ _ => b
  | _ => []
def defScope (s : Stmt) : Scope := match s with
  | .FunctionDef _ _ _ _ _ _ sc _ _ _ => sc
  | _ => { kind := .function, names := [], isGenerator := false, isCoroutine := false }
abbrev E0 : XK := fun _ _ _ => False
structure Fun (K : PySem.W.Frag) (x qual : Str) (st : Stmt) (f : Addr) (fd : FuncData) : Prop where
  ex : ∃ (oc : Value) (od : Option Addr) (kV doc pm : Value) (an : Option Addr) (cdv ct : Value) (osl : Array (Option Value)),
    fd = PySem.W.fnOf x qual (defArgs st) (defBody st) (defScope st) .none kV doc pm an cdv ct ∧ K.lookup f = some ⟨oc, od, .func fd, osl⟩ ∧ PySem.W.codeIn K cdv qual = true
  kp : PySem.W.keepIn K (.ref f) = true
section
variable {P : Program} {w : World} {K : PySem.W.Frag} {mg : Str → Option Value} {base : Heap}
theorem Fun.binds {x qual : Str} {st : Stmt} {f : Addr} {fd : FuncData} {ps : List Str} (F : Fun K x qual st f fd)
    (h : ∀ (kV doc pm : Value) (an : Option Addr) (cdv ct : Value) (us : List Value), us.length = ps.length → bindArgs (PySem.W.fnOf x qual (defArgs st) (defBody st) (defScope st) .none kV doc pm an cdv ct) ⟨us, []⟩ = pure (ps.zip us)) : Binds K fd ps [] := by
  obtain ⟨oc, od, kV, doc, pm, an, cdv, ct, osl, rfl, lk, hcd⟩ := F.ex
  exact .all (h kV doc pm an cdv ct)
theorem fun_mk {x qual : Str} {st : Stmt} {f : Addr} {oc : Value} {od an : Option Addr} {osl : Array (Option Value)} {kV doc pm cdv ct : Value} (l : K.lookup f = some ⟨oc, od, .func (PySem.W.fnOf x qual (defArgs st) (defBody st) (defScope st) .none kV doc pm an cdv ct), osl⟩)
    (c : PySem.W.codeIn K cdv qual = true) (k : PySem.W.keepIn K (.ref f) = true) : Fun K x qual st f (PySem.W.fnOf x qual (defArgs st) (defBody st) (defScope st) .none kV doc pm an cdv ct) := ⟨⟨oc, od, kV, doc, pm, an, cdv, ct, osl, rfl, l, c⟩, k⟩
end
section
variable {X : Cx}
theorem pv (i : Nat) {x : Str} {pos : Pos} (hN : X.N[i]? = some x := by rfl) (hv : Vis X.env.scope x := by first | exact Or.inl rfl | exact Or.inr (Or.inl rfl) | exact Or.inr (Or.inr rfl)) (hd : (x == ("__debug__" : Str)) = false := by decide)
    (hcd : (x == ("__classdict__" : Str)) = false := by decide) : PE X (.Name x pos) (tVar i) := pe_var hN hv hd hcd
end
theorem iteF {A B : Prop} (h : B) : if false = true then A else B := by
  rw [if_neg Bool.false_ne_true]
  exact h
theorem iteT {A B : Prop} (h : A) : if true = true then A else B := by
  rw [if_pos rfl]
  exact h
end L2
namespace L2
open PySem PySem.Spec PyProof.Rows
section
variable {X : Cx}
theorem call_lenD : CallR X (.builtin "len") (fun xs H Q => ∃ a kvs, xs = [V.ref a] ∧ H a = some (.dK kvs) ∧ Q (.int kvs.length) H) := by
  intro pins s σ H xs us Q I r h
  obtain ⟨a, kvs, rfl, ha, q⟩ := h
  obtain ⟨u, rfl, ru⟩ := vals1 r
  cases ru
  exact d_len I (.inl ha) fun t s' I' => ⟨.int kvs.length, H, I', ⟨t, rfl⟩, q⟩
end
section
variable {κ : Type} [DecidableEq κ]
end
end L2
end
set_option autoImplicit false

namespace PD
open PySem
inductive D where
  | non | bl (b : Bool) | int (i : Int) | str (x : Str)
  | tup (xs : List D) | lst (xs : List D) | fz (xs : List D) | dic (kvs : List (Sum Int Str × D)) | ref (n : Nat) | ty (n : String)
  /-- a caught exception of an own class; an own class -/
  | exc (c : Str) | cls (c : Str)
  deriving Inhabited
inductive SO where
  | lst (xs : List D) | dic (kvs : List (Sum Int Str × D)) | ins (c : Str) (fs : List (Str × D))
  /-- a dict that has been walked: read, changed no more -/
  | fdic (kvs : List (Sum Int Str × D))
  /-- a list that has been walked: read, changed no more -/
  | flst (xs : List D)
  deriving Inhabited
abbrev Sto := List SO
structure XD where
  cls : Str
  arg : D
  deriving Inhabited
inductive R (A : Type) where
  | ok (a : A) (S : Sto) | err (x : XD) (S : Sto) | bad
def R.bind {A B : Type} (r : R A) (f : A → Sto → R B) : R B := match r with
  | .ok a S => f a S | .err x S => .err x S | .bad => .bad
theorem R.bind_ok {A B : Type} (a : A) (S : Sto) (f : A → Sto → R B) : (R.ok a S).bind f = f a S := rfl
theorem R.bind_err {A B : Type} (x : XD) (S : Sto) (f : A → Sto → R B) : (R.err (A := A) x S).bind f = .err x S := rfl
theorem R.bind_bad {A B : Type} (f : A → Sto → R B) : (R.bad (A := A)).bind f = .bad := rfl
def R.of {A : Type} (S : Sto) : Option A → R A
  | some a => .ok a S | none => .bad
theorem R.of_some {A : Type} (S : Sto) (a : A) : R.of S (some a) = .ok a S := rfl
abbrev Rho := List (Option D)
abbrev EM := Rho → Sto → R D
abbrev TM := Rho → Sto → R Bool
abbrev AM := Rho → Sto → R (List D)
inductive F where
  | nx (r : Rho) | rt (d : D) | bk (r : Rho) | ct (r : Rho)
abbrev SM := Rho → Sto → R F
abbrev FM := List D → Sto → R D
def eVar (i : Nat) : EM := fun r S => match r[i]? with
  | some (some d) => .ok d S
  | _ => .bad
def eC (d : D) : EM := fun _ S => .ok d S
def eUn (f : Sto → D → Option D) (a : EM) : EM := fun r S => (a r S).bind fun x S1 => R.of S1 (f S1 x)
def eOp (f : Sto → D → D → Option D) (a b : EM) : EM := fun r S => (a r S).bind fun x S1 => (b r S1).bind fun y S2 => R.of S2 (f S2 x y)
def eChain (f g : Sto → D → D → Option D) (a b c : EM) : EM := fun r S => (a r S).bind fun x S1 => (b r S1).bind fun y S2 => match f S2 x y with
  | some (.bl true) => (c r S2).bind fun z S3 => R.of S3 (g S3 y z)
  | some (.bl false) => .ok (.bl false) S2
  | _ => .bad
def eAnd (a b : EM) : EM := fun r S => (a r S).bind fun x S1 => match x with
  | .bl true => b r S1
  | .bl false => .ok (.bl false) S1
  | _ => .bad
def eOr (a b : EM) : EM := fun r S => (a r S).bind fun x S1 => match x with
  | .bl true => .ok (.bl true) S1
  | .bl false => b r S1
  | _ => .bad
def eNot (a : EM) : EM := fun r S => (a r S).bind fun x S1 => match x with
  | .bl b => .ok (.bl (!b)) S1
  | _ => .bad
def eIf (t : TM) (a b : EM) : EM := fun r S => (t r S).bind fun c S1 => if c = true then a r S1 else b r S1
def aNil : AM := fun _ S => .ok [] S
def aCons (a : EM) (t : AM) : AM := fun r S => (a r S).bind fun x S1 => (t r S1).bind fun xs S2 => .ok (x :: xs) S2
def eTup (t : AM) : EM := fun r S => (t r S).bind fun xs S1 => if xs.length ≤ sizeLine then .ok (.tup xs) S1 else .bad
def eLst (t : AM) : EM := fun r S => (t r S).bind fun xs S1 => if xs.length ≤ sizeLine then .ok (.lst xs) S1 else .bad
def eNew (t : AM) : EM := fun r S => (t r S).bind fun xs S1 => if xs.length ≤ sizeLine then .ok (.ref S1.length) (S1 ++ [.lst xs]) else .bad
def eCall (f : FM) (t : AM) : EM := fun r S => (t r S).bind fun xs S1 => f xs S1
def eB (f : Sto → List D → Option D) (t : AM) : EM := fun r S => (t r S).bind fun xs S1 => R.of S1 (f S1 xs)
def eBN (f : Sto → List D → Option SO) (t : AM) : EM := fun r S => (t r S).bind fun xs S1 => match f S1 xs with
  | some o => .ok (.ref S1.length) (S1 ++ [o])
  | none => .bad
def tV (a : EM) : TM := fun r S => (a r S).bind fun x S1 => match x with
  | .bl b => .ok b S1
  | _ => .bad
def tAnd (a b : TM) : TM := fun r S => (a r S).bind fun c S1 => if c = true then b r S1 else .ok false S1
def tOr (a b : TM) : TM := fun r S => (a r S).bind fun c S1 => if c = true then .ok true S1 else b r S1
def tNot (a : TM) : TM := fun r S => (a r S).bind fun c S1 => .ok (!c) S1
def R.nx {A : Type} : R A → R A
  | .err _ _ => .bad
  | r => r
def eNx (a : EM) : EM := fun r S => (a r S).nx
def tNx (a : TM) : TM := fun r S => (a r S).nx
def aNx (a : AM) : AM := fun r S => (a r S).nx
def sSkip : SM := fun r S => .ok (.nx r) S
def sBad : SM := fun _ _ => .bad
def sSeq (a b : SM) : SM := fun r S => (a r S).bind fun f S1 => match f with
  | .nx r1 => b r1 S1
  | g => .ok g S1
def sRet (a : EM) : SM := fun r S => (a r S).bind fun x S1 => .ok (.rt x) S1
def sRetN : SM := fun _ S => .ok (.rt .non) S
def sDrop (a : EM) : SM := fun r S => (a r S).bind fun _ S1 => .ok (.nx r) S1
def sIf (t : TM) (a b : SM) : SM := fun r S => (t r S).bind fun c S1 => if c = true then a r S1 else b r S1
def sBreak : SM := fun r S => .ok (.bk r) S
def sCont : SM := fun r S => .ok (.ct r) S
inductive G where
  | nm (i : Nat) | tp (gs : List G)
mutual
def G.put : G → D → Rho → Option Rho
  | .nm i, d, r => some (r.set i (some d))
  | .tp gs, d, r => match d with
    | .tup xs => G.puts gs xs r
    | _ => none
def G.puts : List G → List D → Rho → Option Rho
  | [], [], r => some r
  | g :: gs, x :: xs, r => match G.put g x r with
    | some r1 => G.puts gs xs r1
    | none => none
  | _, _, _ => none
end
def sSet (i : Nat) (a : EM) : SM := fun r S => (a r S).bind fun x S1 => .ok (.nx (r.set i (some x))) S1
def sAsg (g : G) (a : EM) : SM := fun r S => (a r S).bind fun x S1 => match g.put x r with
  | some r1 => .ok (.nx r1) S1
  | none => .bad
def sPar (i j : Nat) (t : AM) : SM := fun r S => (t r S).bind fun xs S1 => match xs with
  | [x, y] => .ok (.nx ((r.set i (some x)).set j (some y))) S1
  | _ => .bad
def sPut (f : Sto → D → D → D → Option Sto) (e o i : EM) : SM := fun r S => (e r S).bind fun v S1 => (o r S1).bind fun x S2 => (i r S2).bind fun y S3 => match f S3 x y v with
  | some S4 => .ok (.nx r) S4
  | none => .bad
def sMut (f : Sto → D → List D → Option Sto) (o : EM) (t : AM) : SM := fun r S => (o r S).bind fun x S1 => (t r S1).bind fun ys S2 => match f S2 x ys with
  | some S3 => .ok (.nx r) S3
  | none => .bad
def sNx (a : SM) : SM := fun r S => (a r S).nx
def sRaise (c : Str) (t : AM) : SM := fun r S => (t r S).bind fun xs S1 => if xs.length ≤ sizeLine then .err ⟨c, .tup xs⟩ S1 else .bad
def sTry (cs : List Str) (i n : Nat) (b h : SM) : SM := fun r S => match b r S with
  | .err x S1 => if cs.contains x.cls = true then (h ((List.replicate n none).set i (some (.exc x.cls))) S1).nx.bind fun f S2 => match f with
      | .rt d => .ok (.rt d) S2
      | _ => .bad
    else .bad
  | .ok f S1 => .ok f S1
  | .bad => .bad
def forL (g : G) (b : SM) : List D → SM
  | [] => fun r S => .ok (.nx r) S
  | x :: xs => fun r S => match g.put x r with
    | none => .bad
    | some r1 => (b r1 S).bind fun f S1 => match f with
      | .nx r2 => forL g b xs r2 S1
      | .ct r2 => forL g b xs r2 S1
      | .bk r2 => .ok (.nx r2) S1
      | .rt d => .ok (.rt d) S1
def sFor (it : AM) (g : G) (b : SM) : SM := fun r S => (it r S).bind fun xs S1 => forL g b xs r S1
def whileL (t : TM) (b : SM) : Nat → SM
  | 0 => fun _ _ => .bad
  | n + 1 => fun r S => (t r S).bind fun c S1 => if c = true then (b r S1).bind fun f S2 => match f with
      | .nx r2 => whileL t b n r2 S2
      | .ct r2 => whileL t b n r2 S2
      | .bk r2 => .ok (.nx r2) S2
      | .rt d => .ok (.rt d) S2
    else .ok (.nx r) S1
def capOf (k : Nat) (caps : List Nat) (r : Rho) : Rho := List.replicate k none ++ caps.map fun i => (r[i]?).join
def compL (g : G) (t : TM) (e : EM) : List D → Rho → Sto → R (List D)
  | [], _, S => .ok [] S
  | x :: xs, r, S => match g.put x r with
    | none => .bad
    | some r1 => (t r1 S).bind fun c S1 => if c = true then (e r1 S1).bind fun y S2 => (compL g t e xs r1 S2).bind fun ys S3 => .ok (y :: ys) S3
        else compL g t e xs r1 S1
def eComp (it : AM) (k : Nat) (caps : List Nat) (g : G) (t : TM) (e : EM) : EM := fun r S => (it r S).bind fun xs S1 =>
  if xs.length ≤ sizeLine then (compL g t e xs (capOf k caps r) S1).bind fun ys S2 => .ok (.lst ys) S2 else .bad
def tTrue : TM := fun _ S => .ok true S
def fnM (n : Nat) (b : SM) : FM := fun ds S => (b (ds.map some ++ List.replicate (n - ds.length) none) S).bind fun f S1 => match f with
  | .rt d => .ok d S1
  | .nx _ => .ok .non S1
  | _ => .bad
end PD
namespace PD
open PySem PySem.Spec PyProof.Rows L2
structure Wd where
  st : List Addr
  hid : List Addr
def Wd.no (w : Wd) (a : Addr) : Prop := a ∉ w.st ∧ a ∉ w.hid
def Wd.add (w : Wd) (p : Addr) : Wd := ⟨w.st ++ [p], w.hid⟩
def Wd.hide (w : Wd) (p : Addr) : Wd := ⟨w.st, p :: w.hid⟩
def At (w : Wd) (H : Hp) (a : Addr) (o : HO) : Prop := H a = some o ∧ w.no a
def KTup (K : PySem.W.Frag) (a : Addr) (vs : List V) : Prop :=
  ∃ (o : Obj) (its : Array Value) (n : Nat), K.lookup a = some o ∧ o.cls = .type "tuple" ∧ o.data = .seq its n ∧ its.size ≤ sizeLine ∧ Vals vs its.toList
def KLst (K : PySem.W.Frag) (a : Addr) (vs : List V) : Prop :=
  ∃ (o : Obj) (its : Array Value) (n : Nat), K.lookup a = some o ∧ o.cls = .type "list" ∧ o.dict = none ∧ o.data = .seq its n ∧ its.size ≤ sizeLine ∧ Vals vs its.toList
def FzAt (K : PySem.W.Frag) (w : Wd) (H : Hp) (a : Addr) (vs : List V) : Prop := (∃ o, At w H a (.frz o (.lst vs))) ∨ KLst K a vs
theorem FzAt.sq {K : PySem.W.Frag} {w : Wd} {H : Hp} {a : Addr} {vs : List V} (h : FzAt K w H a vs) : SqL K H a vs := h.elim (fun ⟨o, z⟩ => .inl (.inr ⟨o, z.1⟩)) .inr
def ExcAt (a : Addr) (C : Value) : Heap → Prop := fun h => ∃ o, h.get? a = some o ∧ o.cls = C
mutual
def RD (K : PySem.W.Frag) (w : Wd) (H : Hp) : D → V → Prop
  | .non, v => v = .non
  | .bl b, v => v = .bl b
  | .int i, v => v = .int i
  | .str x, v => v = .str x
  | .tup ds, v => ∃ a vs, v = .ref a ∧ (At w H a (.tup vs) ∨ KTup K a vs) ∧ RDs K w H ds vs
  | .lst ds, v => ∃ a vs, v = .ref a ∧ At w H a (.lst vs) ∧ RDs K w H ds vs
  | .fz ds, v => ∃ a vs, v = .ref a ∧ FzAt K w H a vs ∧ RDs K w H ds vs
  | .dic kvs, v => ∃ a us, v = .ref a ∧ At w H a (.dK us) ∧ RDk K w H kvs us
  | .ref n, v => ∃ a, v = .ref a ∧ w.st[n]? = some a
  | .ty n, v => v = .ty n
  | .exc c, v => ∃ a C o, v = .ref a ∧ PySem.W.nsIn K mainGlobals c = some (some C) ∧ At w H a (.frz o (.ext (ExcAt a C)))
  | .cls c, v => ∃ C, PySem.W.nsIn K mainGlobals c = some (some (.ref C)) ∧ v = .ref C
def RDs (K : PySem.W.Frag) (w : Wd) (H : Hp) : List D → List V → Prop
  | [], vs => vs = []
  | d :: ds, vs => ∃ v r, vs = v :: r ∧ RD K w H d v ∧ RDs K w H ds r
def RDk (K : PySem.W.Frag) (w : Wd) (H : Hp) : List (Sum Int Str × D) → List (Key × V) → Prop
  | [], us => us = []
  | (k, d) :: ds, us => ∃ v r, us = (k, v) :: r ∧ RD K w H d v ∧ RDk K w H ds r
end
structure Ext (w : Wd) (H : Hp) (w' : Wd) (H' : Hp) : Prop where
  keep : ∀ a o, H a = some o → a ∉ w.st → H' a = some o
  sub : ∃ l, w'.st = w.st ++ l ∧ ∀ a ∈ l, H a = none
  hid : ∀ a, a ∈ w.hid → a ∈ w'.hid
  hnew : ∀ a, a ∈ w'.hid → a ∈ w.hid ∨ H a = none
  frz : ∀ a o u, H a = some (.frz o u) → H' a = some (.frz o u)
theorem Ext.refl (w : Wd) (H : Hp) : Ext w H w H := ⟨fun _ _ h _ => h, ⟨[], by simp, fun _ h => nomatch h⟩, fun _ h => h, fun _ h => .inl h, fun _ _ _ h => h⟩
theorem Ext.out {w w' : Wd} {H H' : Hp} (x : Ext w H w' H') {a : Addr} {o : HO} (h : H a = some o) (n : a ∉ w.st) : a ∉ w'.st := by
  obtain ⟨l, e, f⟩ := x.sub
  rw [e]
  intro z
  rcases List.mem_append.mp z with z | z
  · exact n z
  · rw [f a z] at h; cases h
theorem Ext.at {w w' : Wd} {H H' : Hp} (x : Ext w H w' H') {a : Addr} {o : HO} (h : At w H a o) : At w' H' a o := ⟨x.keep a o h.1 h.2.1, x.out h.1 h.2.1, fun z => (x.hnew a z).elim h.2.2 fun e => by rw [h.1] at e; cases e⟩
theorem Ext.get {w w' : Wd} {H H' : Hp} (x : Ext w H w' H') {n : Nat} {a : Addr} (h : w.st[n]? = some a) : w'.st[n]? = some a := by
  obtain ⟨l, e, f⟩ := x.sub
  rw [e, List.getElem?_append_left (List.getElem?_eq_some_iff.mp h).1]
  exact h
theorem Ext.trans {w w1 w2 : Wd} {H H1 H2 : Hp} (x : Ext w H w1 H1) (y : Ext w1 H1 w2 H2) (fr : ∀ a ∈ w.st, ∃ o, H a = some o ∧ ∃ o', H1 a = some o') : Ext w H w2 H2 := by
  have hno : ∀ a, H1 a = none → H a = none := fun a z => by
    cases e : H a with
    | none => rfl
    | some o =>
      by_cases hw : a ∈ w.st
      · obtain ⟨_, _, o', e'⟩ := fr a hw
        rw [z] at e'; cases e'
      · have := x.keep a o e hw
        rw [z] at this; cases this
  refine ⟨fun a o h n => y.keep a o (x.keep a o h n) (x.out h n), ?_, fun a h => y.hid a (x.hid a h), fun a h => (y.hnew a h).elim (x.hnew a) fun z => .inr (hno a z), fun a o u h => y.frz a o u (x.frz a o u h)⟩
  obtain ⟨l, e1, f⟩ := x.sub
  obtain ⟨l2, e2, f2⟩ := y.sub
  refine ⟨l ++ l2, by rw [e2, e1]; simp, fun a ha => ?_⟩
  rcases List.mem_append.mp ha with z | z
  · exact f a z
  · exact hno a (f2 a z)
section
variable {K : PySem.W.Frag} {w w' : Wd} {H H' : Hp}
mutual
theorem RD.ext (x : Ext w H w' H') : ∀ (d : D) (v : V), RD K w H d v → RD K w' H' d v
  | .non, _, h => h
  | .bl _, _, h => h
  | .int _, _, h => h
  | .str _, _, h => h
  | .tup ds, v, h => by
    unfold RD at h ⊢
    obtain ⟨a, vs, e, p, r⟩ := h
    exact ⟨a, vs, e, p.imp x.at id, RDs.ext x ds vs r⟩
  | .lst ds, v, h => by
    unfold RD at h ⊢
    obtain ⟨a, vs, e, p, r⟩ := h
    exact ⟨a, vs, e, x.at p, RDs.ext x ds vs r⟩
  | .fz ds, v, h => by
    unfold RD at h ⊢
    obtain ⟨a, vs, e, p, r⟩ := h
    exact ⟨a, vs, e, p.imp (fun ⟨o, z⟩ => ⟨o, x.at z⟩) id, RDs.ext x ds vs r⟩
  | .dic kvs, v, h => by
    unfold RD at h ⊢
    obtain ⟨a, us, e, p, r⟩ := h
    exact ⟨a, us, e, x.at p, RDk.ext x kvs us r⟩
  | .ref n, v, h => by
    unfold RD at h ⊢
    obtain ⟨a, e, p⟩ := h
    exact ⟨a, e, x.get p⟩
  | .ty _, _, h => h
  | .exc c, v, h => by
    unfold RD at h ⊢
    obtain ⟨a, C, o, e, q, p⟩ := h
    exact ⟨a, C, o, e, q, x.at p⟩
  | .cls _, _, h => h
theorem RDs.ext (x : Ext w H w' H') : ∀ (ds : List D) (vs : List V), RDs K w H ds vs → RDs K w' H' ds vs
  | [], _, h => h
  | d :: ds, vs, h => by
    unfold RDs at h ⊢
    obtain ⟨v, r, e, p, q⟩ := h
    exact ⟨v, r, e, RD.ext x d v p, RDs.ext x ds r q⟩
theorem RDk.ext (x : Ext w H w' H') : ∀ (ds : List (Sum Int Str × D)) (vs : List (Key × V)), RDk K w H ds vs → RDk K w' H' ds vs
  | [], _, h => h
  | (k, d) :: ds, vs, h => by
    unfold RDk at h ⊢
    obtain ⟨v, r, e, p, q⟩ := h
    exact ⟨v, r, e, RD.ext x d v p, RDk.ext x ds r q⟩
end
end
def RDf (K : PySem.W.Frag) (w : Wd) (H : Hp) (fs : List (Str × D)) (us : List (Str × V)) : Prop := fs.map (·.1) = us.map (·.1) ∧ RDs K w H (fs.map (·.2)) (us.map (·.2))
def RO (K : PySem.W.Frag) (w : Wd) (H : Hp) (a : Addr) : SO → Prop
  | .lst ds => ∃ vs, H a = some (.lst vs) ∧ RDs K w H ds vs
  | .dic kvs => ∃ us, H a = some (.dK us) ∧ RDk K w H kvs us
  | .fdic kvs => ∃ o us, H a = some (.frz o (.dK us)) ∧ RDk K w H kvs us
  | .ins c fs => ∃ C dx us, PySem.W.nsIn K mainGlobals c = some (some (.ref C)) ∧ H a = some (.ins C dx us) ∧ RDf K w H fs us
  | .flst ds => ∃ o vs, H a = some (.frz o (.lst vs)) ∧ RDs K w H ds vs
structure RS (K : PySem.W.Frag) (w : Wd) (H : Hp) (S : Sto) : Prop where
  nd : w.st.Nodup
  len : w.st.length = S.length
  obj : ∀ (n : Nat) (o : SO), S[n]? = some o → ∃ a : Addr, w.st[n]? = some a ∧ RO K w H a o
  hid : ∀ a ∈ w.hid, a ∉ w.st ∧ ∃ o, H a = some o
section
variable {K : PySem.W.Frag} {w w' : Wd} {H H' : Hp} {S : Sto}
theorem RS.there (s : RS K w H S) {a : Addr} (ha : a ∈ w.st) : ∃ o, H a = some o := by
  obtain ⟨n, hn⟩ := List.mem_iff_getElem?.mp ha
  have hl : n < S.length := by rw [← s.len]; exact (List.getElem?_eq_some_iff.mp hn).1
  obtain ⟨b, hb, r⟩ := s.obj n S[n] (List.getElem?_eq_getElem hl)
  rw [hn] at hb; cases hb
  revert r
  cases S[n] with
  | lst ds => rintro ⟨vs, e, _⟩; exact ⟨_, e⟩
  | dic kvs => rintro ⟨vs, e, _⟩; exact ⟨_, e⟩
  | fdic kvs => rintro ⟨o, vs, e, _⟩; exact ⟨_, e⟩
  | ins c fs => rintro ⟨C, dx, us, _, e, _⟩; exact ⟨_, e⟩
  | flst ds => rintro ⟨o, vs, e, _⟩; exact ⟨_, e⟩
theorem RS.freshS (s : RS K w H S) {a : Addr} (h : H a = none) : a ∉ w.st := fun z => by
  obtain ⟨o, e⟩ := s.there z
  rw [h] at e; cases e
theorem RS.fresh (s : RS K w H S) {a : Addr} (h : H a = none) : w.no a := ⟨s.freshS h, fun z => by
  obtain ⟨_, o, e⟩ := s.hid a z
  rw [h] at e; cases e⟩
theorem Ext.trans' {w1 w2 : Wd} {H1 H2 : Hp} {S1 : Sto} (x : Ext w H w1 H1) (y : Ext w1 H1 w2 H2) (s : RS K w H S) (s1 : RS K w1 H1 S1) : Ext w H w2 H2 :=
  x.trans y fun a ha => by
    obtain ⟨o, e⟩ := s.there ha
    obtain ⟨l, el, _⟩ := x.sub
    obtain ⟨o', e'⟩ := s1.there (a := a) (by rw [el]; exact List.mem_append_left _ ha)
    exact ⟨o, e, o', e'⟩
theorem Ext.new {p : Addr} {o : HO} (hp : H p = none) : Ext w H w (upd H p o) :=
  ⟨fun a u e _ => by rw [upd_ne (ne_of_none e hp)]; exact e, ⟨[], by simp, fun _ z => nomatch z⟩, fun _ h => h, fun _ h => .inl h, fun a o u e => by rw [upd_ne (ne_of_none e hp)]; exact e⟩
theorem RO.ext (x : Ext w H w' H') {a : Addr} {o : SO} (hk : ∀ u, H a = some u → H' a = some u) (r : RO K w H a o) : RO K w' H' a o := by
  cases o with
  | lst ds => obtain ⟨vs, e, q⟩ := r; exact ⟨vs, hk _ e, RDs.ext x _ _ q⟩
  | dic kvs => obtain ⟨vs, e, q⟩ := r; exact ⟨vs, hk _ e, RDk.ext x _ _ q⟩
  | fdic kvs => obtain ⟨o, vs, e, q⟩ := r; exact ⟨o, vs, hk _ e, RDk.ext x _ _ q⟩
  | ins c fs => obtain ⟨C, dx, us, n, e, q1, q2⟩ := r; exact ⟨C, dx, us, n, hk _ e, q1, RDs.ext x _ _ q2⟩
  | flst ds => obtain ⟨o, vs, e, q⟩ := r; exact ⟨o, vs, hk _ e, RDs.ext x _ _ q⟩
theorem RS.new {p : Addr} {o : HO} (s : RS K w H S) (hp : H p = none) : RS K w (upd H p o) S :=
  ⟨s.nd, s.len, fun n so e => by
    obtain ⟨a, ha, r⟩ := s.obj n so e
    exact ⟨a, ha, r.ext (Ext.new hp) fun u q => by rw [upd_ne (ne_of_none q hp)]; exact q⟩,
   fun a ha => by
    obtain ⟨h1, u, e⟩ := s.hid a ha
    exact ⟨h1, u, by rw [upd_ne (ne_of_none e hp)]; exact e⟩⟩
theorem Ext.alloc {p : Addr} {o : HO} (hp : H p = none) : Ext w H (w.add p) (upd H p o) :=
  ⟨fun a u e _ => by rw [upd_ne (ne_of_none e hp)]; exact e, ⟨[p], rfl, fun a ha => by
    have : a = p := by simpa using ha
    subst this; exact hp⟩, fun _ h => h, fun _ h => .inl h, fun a o u e => by rw [upd_ne (ne_of_none e hp)]; exact e⟩
theorem RS.alloc {p : Addr} {o : HO} {so : SO} (s : RS K w H S) (hp : H p = none) (r : RO K (w.add p) (upd H p o) p so) : RS K (w.add p) (upd H p o) (S ++ [so]) := by
  have np := s.freshS hp
  refine ⟨?_, by simp [Wd.add, s.len], fun n so' e => ?_, fun a ha => ?_⟩
  · show (w.st ++ [p]).Nodup
    rw [List.nodup_append]
    exact ⟨s.nd, by simp, fun a ha b hb => by
      have : b = p := by simpa using hb
      subst this
      rintro rfl
      exact np ha⟩
  · by_cases hn : n < S.length
    · rw [List.getElem?_append_left hn] at e
      obtain ⟨a, ha, q⟩ := s.obj n so' e
      exact ⟨a, (Ext.alloc (o := o) hp).get ha, q.ext (Ext.alloc hp) fun u z => by rw [upd_ne (ne_of_none z hp)]; exact z⟩
    · have hn' : n = S.length := by
        have := (List.getElem?_eq_some_iff.mp e).1
        simp at this; omega
      subst hn'
      simp at e; subst e
      exact ⟨p, by show (w.st ++ [p])[S.length]? = some p; rw [← s.len]; simp, r⟩
  · obtain ⟨h1, u, e⟩ := s.hid a ha
    refine ⟨?_, u, by rw [upd_ne (ne_of_none e hp)]; exact e⟩
    show a ∉ w.st ++ [p]
    intro z
    rcases List.mem_append.mp z with z | z
    · exact h1 z
    · have : a = p := by simpa using z
      subst this
      rw [hp] at e; cases e
theorem Ext.mut {p : Addr} {o u0 : HO} (hp : p ∈ w.st) (h0 : H p = some u0) (hu : ∀ o u, u0 ≠ .frz o u := by intro _ _ z; cases z) : Ext w H w (upd H p o) :=
  ⟨fun a u e n => by rw [upd_ne (fun z : a = p => n (z ▸ hp))]; exact e, ⟨[], by simp, fun _ z => nomatch z⟩, fun _ h => h, fun _ h => .inl h, fun a o u e => by
    rw [upd_ne (fun z : a = p => by rw [z, h0] at e; exact hu o u (Option.some.inj e))]; exact e⟩
theorem RS.mut {p : Addr} {o : HO} {so : SO} {n : Nat} (s : RS K w H S) (hp : w.st[n]? = some p) {u0 : HO} (h0 : H p = some u0) (r : RO K w (upd H p o) p so) (hu : ∀ o u, u0 ≠ .frz o u := by intro _ _ z; cases z) : RS K w (upd H p o) (S.set n so) := by
  have hm : p ∈ w.st := List.mem_of_getElem? hp
  refine ⟨s.nd, by simp [s.len], fun m so' e => ?_, fun a ha => ?_⟩
  · by_cases hn : m = n
    · subst hn
      have hl : m < S.length := by rw [← s.len]; exact (List.getElem?_eq_some_iff.mp hp).1
      rw [List.getElem?_set_self hl] at e
      cases e
      exact ⟨p, hp, r⟩
    · rw [List.getElem?_set_ne (Ne.symm hn)] at e
      obtain ⟨a, ha, q⟩ := s.obj m so' e
      refine ⟨a, ha, q.ext (Ext.mut hm h0 hu) fun u z => ?_⟩
      have : a ≠ p := fun z => by
        subst z
        obtain ⟨h1, e1⟩ := List.getElem?_eq_some_iff.mp ha
        obtain ⟨h2, e2⟩ := List.getElem?_eq_some_iff.mp hp
        exact hn ((List.getElem_inj s.nd).mp (e1.trans e2.symm))
      rw [upd_ne this]; exact z
  · obtain ⟨h1, u, e⟩ := s.hid a ha
    exact ⟨h1, u, by rw [upd_ne (fun z : a = p => h1 (z ▸ hm))]; exact e⟩
end
def RSt (K : PySem.W.Frag) (w : Wd) (H : Hp) (r : Rho) (s : L2.St) : Prop :=
  s.length = r.length ∧ ∀ (i : Nat) (d : D), r[i]? = some (some d) → ∃ v, s[i]? = some (some v) ∧ RD K w H d v
theorem RSt.ext {K : PySem.W.Frag} {w w' : Wd} {H H' : Hp} {r : Rho} {s : L2.St} (h : RSt K w H r s) (x : Ext w H w' H') : RSt K w' H' r s :=
  ⟨h.1, fun i d e => let ⟨v, e1, q⟩ := h.2 i d e; ⟨v, e1, RD.ext x d v q⟩⟩
theorem RSt.set {K : PySem.W.Frag} {w : Wd} {H : Hp} {r : Rho} {s : L2.St} (h : RSt K w H r s) (i : Nat) {d : D} {v : V} (q : RD K w H d v) : RSt K w H (r.set i (some d)) (s.set i (some v)) := by
  refine ⟨by simp [h.1], fun j d' e => ?_⟩
  by_cases hj : j = i
  · subst hj
    have hl : j < r.length := by
      have := (List.getElem?_eq_some_iff.mp e).1
      simpa using this
    rw [List.getElem?_set_self hl] at e
    cases e
    exact ⟨v, List.getElem?_set_self (by rw [h.1]; exact hl), q⟩
  · rw [List.getElem?_set_ne (Ne.symm hj)] at e
    obtain ⟨v', e', q'⟩ := h.2 j d' e
    exact ⟨v', by rw [List.getElem?_set_ne (Ne.symm hj)]; exact e', q'⟩
section
variable {K : PySem.W.Frag} {w : Wd} {H : Hp}
theorem RDs.nil : RDs K w H [] [] := by unfold RDs; rfl
theorem RDs.cons {d : D} {v : V} {ds : List D} {vs : List V} (r : RD K w H d v) (q : RDs K w H ds vs) : RDs K w H (d :: ds) (v :: vs) := by unfold RDs; exact ⟨v, vs, rfl, r, q⟩
theorem RDs.nil_inv {vs : List V} (h : RDs K w H [] vs) : vs = [] := by unfold RDs at h; exact h
theorem RDs.cons_inv {d : D} {ds : List D} {vs : List V} (h : RDs K w H (d :: ds) vs) : ∃ v r, vs = v :: r ∧ RD K w H d v ∧ RDs K w H ds r := by unfold RDs at h; exact h
theorem RDs.one_inv {d : D} {vs : List V} (h : RDs K w H [d] vs) : ∃ v, vs = [v] ∧ RD K w H d v := by
  obtain ⟨v, r, rfl, h1, h2⟩ := h.cons_inv
  rw [h2.nil_inv]
  exact ⟨v, rfl, h1⟩
theorem RDs.two_inv {d e : D} {vs : List V} (h : RDs K w H [d, e] vs) : ∃ v u, vs = [v, u] ∧ RD K w H d v ∧ RD K w H e u := by
  obtain ⟨v, r, rfl, h1, h2⟩ := h.cons_inv
  obtain ⟨u, rfl, h3⟩ := h2.one_inv
  exact ⟨v, u, rfl, h1, h3⟩
theorem RDs.length : ∀ {ds : List D} {vs : List V}, RDs K w H ds vs → vs.length = ds.length
  | [], _, h => by rw [h.nil_inv]; rfl
  | _ :: _, _, h => by
    obtain ⟨v, r, rfl, _, q⟩ := h.cons_inv
    simp [q.length]
theorem RDs.get : ∀ {ds : List D} {vs : List V} {i : Nat} {d : D}, RDs K w H ds vs → ds[i]? = some d → ∃ v, vs[i]? = some v ∧ RD K w H d v
  | [], _, _, _, _, e => by simp at e
  | _ :: _, _, 0, _, h, e => by
    obtain ⟨v, r, rfl, p, _⟩ := h.cons_inv
    simp at e; subst e
    exact ⟨v, rfl, p⟩
  | _ :: ds, _, i + 1, d, h, e => by
    obtain ⟨v, r, rfl, _, q⟩ := h.cons_inv
    obtain ⟨u, e1, q1⟩ := q.get (i := i) (d := d) (by simpa using e)
    exact ⟨u, by simpa using e1, q1⟩
theorem RDs.append : ∀ {ds es : List D} {vs us : List V}, RDs K w H ds vs → RDs K w H es us → RDs K w H (ds ++ es) (vs ++ us)
  | [], _, _, _, h, q => by rw [h.nil_inv]; exact q
  | _ :: _, _, _, _, h, q => by
    obtain ⟨v, r, rfl, p, t⟩ := h.cons_inv
    exact .cons p (t.append q)
theorem RDs.take : ∀ {ds : List D} {vs : List V} (n : Nat), RDs K w H ds vs → RDs K w H (ds.take n) (vs.take n)
  | _, _, 0, _ => by simp; exact .nil
  | [], _, _ + 1, h => by rw [h.nil_inv]; simp; exact .nil
  | _ :: _, _, n + 1, h => by
    obtain ⟨v, r, rfl, p, t⟩ := h.cons_inv
    exact .cons p (t.take n)
theorem RDs.drop : ∀ {ds : List D} {vs : List V} (n : Nat), RDs K w H ds vs → RDs K w H (ds.drop n) (vs.drop n)
  | _, _, 0, h => h
  | [], _, _ + 1, h => by rw [h.nil_inv]; simp; exact .nil
  | _ :: _, _, n + 1, h => by
    obtain ⟨v, r, rfl, _, t⟩ := h.cons_inv
    exact t.drop n
theorem RDs.set {d : D} {v : V} (r : RD K w H d v) : ∀ {ds : List D} {vs : List V} (i : Nat), RDs K w H ds vs → RDs K w H (ds.set i d) (vs.set i v)
  | [], _, _, h => by rw [h.nil_inv]; exact .nil
  | _ :: _, _, 0, h => by
    obtain ⟨_, _, rfl, _, t⟩ := h.cons_inv
    exact .cons r t
  | _ :: _, _, i + 1, h => by
    obtain ⟨_, _, rfl, p, t⟩ := h.cons_inv
    exact .cons p (RDs.set r i t)
end
end PD
namespace PD
open PySem PySem.Spec PyProof.Rows L2
def RX (K : PySem.W.Frag) (w : Wd) (H : Hp) (x : XD) (c : Value) (da : Option Addr) : Prop := PySem.W.nsIn K mainGlobals x.cls = some (some c)
def Post {A B : Type} (K : PySem.W.Frag) (E : XK) (rel : Wd → Hp → A → B → Prop) (w : Wd) (H : Hp) (r : R A) (Q : B → Hp → Prop) : Prop := match r with
  | .ok a S' => ∀ w' H' b, Ext w H w' H' → rel w' H' a b → RS K w' H' S' → Q b H'
  | .err x S' => ∀ w' H' c da, Ext w H w' H' → RS K w' H' S' → RX K w' H' x c da → E c da H'
  | .bad => False
section
variable {A B A2 B2 : Type} {K : PySem.W.Frag} {E : XK} {rel : Wd → Hp → A → B → Prop} {rel2 : Wd → Hp → A2 → B2 → Prop} {w w1 : Wd} {H H1 : Hp} {S S1 : Sto}
theorem Post.ext {r : R A} {Q : B → Hp → Prop} (h : Post K E rel w H r Q) (x : Ext w H w1 H1) (s : RS K w H S) (s1 : RS K w1 H1 S1) : Post K E rel w1 H1 r Q := by
  cases r with
  | ok a S' => exact fun w' H' b y q t => h w' H' b (x.trans' y s s1) q t
  | err e S' => exact fun w' H' c da y t q => h w' H' c da (x.trans' y s s1) t q
  | bad => exact h
theorem Post.bind {r : R A} {f : A → Sto → R A2} {Q' : B → Hp → Prop} {Q : B2 → Hp → Prop} (h : Post K E rel2 w H (r.bind f) Q) (s : RS K w H S)
    (k : ∀ a S1 w1 H1 b, Ext w H w1 H1 → rel w1 H1 a b → RS K w1 H1 S1 → Post K E rel2 w1 H1 (f a S1) Q → Q' b H1) : Post K E rel w H r Q' := by
  cases r with
  | ok a S' => exact fun w1 H1 b x q s1 => k a S' w1 H1 b x q s1 (Post.ext (r := f a S') h x s s1)
  | err e S' => exact h
  | bad => exact h
theorem Post.bindAt {w0 : Wd} {H0 : Hp} {S0 : Sto} {r : R A} {f : A → Sto → R A2} {Q' : B → Hp → Prop} {Q : B2 → Hp → Prop} (h : Post K E rel2 w0 H0 (r.bind f) Q) (x : Ext w0 H0 w H) (s0 : RS K w0 H0 S0) (s : RS K w H S)
    (k : ∀ a S1 w1 H1 b, Ext w H w1 H1 → rel w1 H1 a b → RS K w1 H1 S1 → Post K E rel2 w0 H0 (f a S1) Q → Q' b H1) : Post K E rel w H r Q' := by
  cases r with
  | ok a S' => exact fun w1 H1 b y q s1 => k a S' w1 H1 b y q s1 h
  | err e S' => exact fun w' H' c da y t q => h w' H' c da (x.trans' y s0 s) t q
  | bad => exact h
theorem Post.ret {a : A} {b : B} {Q : B → Hp → Prop} (h : Post K E rel w H (.ok a S) Q) (q : rel w H a b) (s : RS K w H S) : Q b H := h w H b (Ext.refl w H) q s
theorem Post.at {a : A} {b : B} {Q : B → Hp → Prop} (h : Post K E rel w H (.ok a S) Q) (x : Ext w H w1 H1) (q : rel w1 H1 a b) (s : RS K w1 H1 S) : Q b H1 := h w1 H1 b x q s
theorem Post.of {o : Option A} {Q : B → Hp → Prop} (h : Post K E rel w H (R.of S o) Q) : ∃ a, o = some a ∧ Post K E rel w H (.ok a S) Q := by
  cases o with
  | some a => exact ⟨a, rfl, h⟩
  | none => exact h.elim
end
inductive FV where
  | nx (s : L2.St) | rt (v : V) | bk (s : L2.St) | ct (s : L2.St)
def FV.to (D : Ends) : FV → Hp → Prop
  | .nx s, H => D.nx s H
  | .rt v, H => D.rt v H
  | .bk s, H => D.bk s H
  | .ct s, H => D.ct s H
def RF (K : PySem.W.Frag) (w : Wd) (H : Hp) : F → FV → Prop
  | .nx r, f => ∃ s, f = .nx s ∧ RSt K w H r s
  | .rt d, f => ∃ v, f = .rt v ∧ RD K w H d v
  | .bk r, f => ∃ s, f = .bk s ∧ RSt K w H r s
  | .ct r, f => ∃ s, f = .ct s ∧ RSt K w H r s
def RB (w : Wd) (H : Hp) (a b : Bool) : Prop := b = a
def uE (K : PySem.W.Frag) (E : XK) (m : EM) : TE := fun s H Q => ∃ w r S, RSt K w H r s ∧ RS K w H S ∧ Post K E (RD K) w H (m r S) Q
def uT (K : PySem.W.Frag) (E : XK) (m : TM) : TT := fun s H Q => ∃ w r S, RSt K w H r s ∧ RS K w H S ∧ Post K E RB w H (m r S) Q
def uA (K : PySem.W.Frag) (E : XK) (m : AM) : TA := fun s H Q => ∃ w r S, RSt K w H r s ∧ RS K w H S ∧ Post K E (RDs K) w H (m r S) Q
def uS (K : PySem.W.Frag) (E : XK) (m : SM) : TS := fun D s H => ∃ w r S, RSt K w H r s ∧ RS K w H S ∧ Post K E (RF K) w H (m r S) (FV.to D)
structure Bx (p : Prop) : Prop where
  out : p
abbrev SE (X : Cx) (E : XK) (e : Expr) (m : EM) : Prop := Bx (PE X e (uE X.K E m))
abbrev ST (X : Cx) (E : XK) (e : Expr) (m : TM) : Prop := Bx (PT X e (uT X.K E m))
abbrev SW (X : Cx) (E : XK) (e : Expr) (m : TM) : Prop := Bx (PW X e (uT X.K E m))
abbrev SA (X : Cx) (E : XK) (es : List Expr) (m : AM) : Prop := Bx (PA X es (uA X.K E m))
abbrev SS (X : Cx) (E : XK) (st : Stmt) (m : SM) : Prop := Bx (PS X st (uS X.K E m))
abbrev SSs (X : Cx) (E : XK) (st : List Stmt) (m : SM) : Prop := Bx (PSs X st (uS X.K E m))
theorem pe_weak {X : Cx} {e : Expr} {t t' : TE} (h : PE X e t) (k : ∀ s H Q, t' s H Q → t s H Q) : PE X e t' := fun pins s σ H Q I q => h pins s σ H Q I (k σ H Q q)
theorem pt_weak {X : Cx} {e : Expr} {t t' : TT} (h : PT X e t) (k : ∀ s H Q, t' s H Q → t s H Q) : PT X e t' := fun pins s σ H Q I q => h pins s σ H Q I (k σ H Q q)
theorem pw_weak {X : Cx} {e : Expr} {t t' : TT} (h : PW X e t) (k : ∀ s H Q, t' s H Q → t s H Q) : PW X e t' := fun wh pins s σ H Q I q => h wh pins s σ H Q I (k σ H Q q)
theorem pa_weak {X : Cx} {e : List Expr} {t t' : TA} (h : PA X e t) (k : ∀ s H Q, t' s H Q → t s H Q) : PA X e t' := fun p pins s σ H Q I q => h p pins s σ H Q I (k σ H Q q)
theorem ps_weak {X : Cx} {e : Stmt} {t t' : TS} (h : PS X e t) (k : ∀ D s H, t' D s H → t D s H) : PS X e t' := fun pins s σ H Q I q => h pins s σ H Q I (k Q σ H q)
theorem pss_weak {X : Cx} {e : List Stmt} {t t' : TS} (h : PSs X e t) (k : ∀ D s H, t' D s H → t D s H) : PSs X e t' := fun pins s σ H Q I q => h pins s σ H Q I (k Q σ H q)
section
variable {X : Cx} {E : XK} {a b c : Expr} {ma mb mc : EM} {pos : Pos}
theorem se_var (i : Nat) {x : Str} {pos : Pos} (hN : X.N[i]? = some x := by kernel_rfl) (hv : Vis X.env.scope x := by first | exact Or.inl (by kernel_rfl) | exact Or.inr (Or.inl (by kernel_rfl)) | exact Or.inr (Or.inr (by kernel_rfl))) (hd : (x == ("__debug__" : Str)) = false := by decide +kernel)
    (hcd : (x == ("__classdict__" : Str)) = false := by decide +kernel) : SE X E (.Name x pos) (eVar i) := ⟨
  pe_weak (pv i hN hv hd hcd) fun s H Q ⟨w, r, S, hr, hS, hp⟩ => by
    unfold eVar at hp
    split at hp
    · rename_i d e
      obtain ⟨v, e', q⟩ := hr.2 i d e
      exact ⟨v, e', hp.ret q hS⟩
    · exact hp.elim⟩
theorem se_c {e : Expr} {v : V} {d : D} (h : PE X e (tC v)) (q : ∀ w H, RD X.K w H d v) : SE X E e (eC d) := ⟨
  pe_weak h fun s H Q ⟨w, r, S, hr, hS, hp⟩ => hp.ret (q w H) hS⟩
theorem se_int {i j pos} : SE X E (.Constant (.int i) j pos) (eC (.int i)) := se_c pe_int fun _ _ => by unfold RD; rfl
theorem se_bl {i j pos} : SE X E (.Constant (.bool i) j pos) (eC (.bl i)) := se_c pe_bl fun _ _ => by unfold RD; rfl
theorem se_non {j pos} : SE X E (.Constant .none j pos) (eC .non) := se_c pe_non fun _ _ => by unfold RD; rfl
theorem se_gint {x : Str} {i : Int} {t : Tok} {pos : Pos} (hg : Gl X x) (hm : X.mg x = some (.int i t)) (hd : (x == ("__debug__" : Str)) = false := by decide +kernel) : SE X E (.Name x pos) (eC (.int i)) :=
  se_c (pe_glob hg hm (v := .int i) ⟨t, rfl⟩ hd) fun _ _ => by unfold RD; rfl
theorem se_ty {x : Str} {T : String} {pos : Pos} (hg : Gl X x) (hm : X.mg x = none) (hv : bootBuiltins x = some (.type T)) (hn : x ≠ "__name__" := by decide +kernel) (hd : (x == ("__debug__" : Str)) = false := by decide +kernel) : SE X E (.Name x pos) (eC (.ty T)) :=
  se_c (pe_bltn hg hm hv (v := .ty T) rfl hn hd) fun _ _ => by unfold RD; rfl
def xO (K : PySem.W.Frag) (E : XK) (f : Sto → D → D → Option D) : R2 := fun x y H Q => ∃ w S d e, RS K w H S ∧ RD K w H d x ∧ RD K w H e y ∧ Post K E (RD K) w H (R.of S (f S d e)) Q
def xC (K : PySem.W.Frag) (E : XK) (f : Sto → List D → Option D) : List V → Hp → VK → Prop := fun xs H Q => ∃ w S ds, RS K w H S ∧ RDs K w H ds xs ∧ Post K E (RD K) w H (R.of S (f S ds)) Q
theorem se_op {op : Operator} {f : Sto → D → D → Option D} (ho : OpR X (binaryOp op) (xO X.K E f)) (ha : SE X E a ma) (hb : SE X E b mb) : SE X E (.BinOp a op b pos) (eOp f ma mb) := ⟨
  pe_weak (pe_op ho ha.out hb.out) fun s H Q ⟨w, r, S, hr, hS, hp⟩ => ⟨w, r, S, hr, hS, hp.bind hS fun d S1 w1 H1 v x1 q1 s1 p1 =>
    ⟨w1, r, S1, hr.ext x1, s1, p1.bind s1 fun e S2 w2 H2 u x2 q2 s2 p2 => ⟨w2, S2, d, e, s2, RD.ext x2 d v q1, q2, p2⟩⟩⟩⟩
theorem se_cmp {op : CmpOp} {f : Sto → D → D → Option D} (ho : OpR X (compareOp op) (xO X.K E f)) (ha : SE X E a ma) (hb : SE X E b mb) (hm : behindInMarks op b = false := by first | exact nomark _ | kernel_rfl) :
    SE X E (.Compare a [op] [b] pos) (eOp f ma mb) := ⟨
  pe_weak (pe_cmpR ho ha.out hb.out hm) fun s H Q ⟨w, r, S, hr, hS, hp⟩ => ⟨w, r, S, hr, hS, hp.bind hS fun d S1 w1 H1 v x1 q1 s1 p1 =>
    ⟨w1, r, S1, hr.ext x1, s1, p1.bind s1 fun e S2 w2 H2 u x2 q2 s2 p2 => ⟨w2, S2, d, e, s2, RD.ext x2 d v q1, q2, p2⟩⟩⟩⟩
theorem se_one {op} (h : SE X E a ma) : SE X E (.BoolOp op [a] pos) ma := ⟨pe_one h.out⟩
theorem se_and {rest : List Expr} (ha : SE X E a ma) (hb : SE X E (.BoolOp .And (b :: rest) pos) mb) : SE X E (.BoolOp .And (a :: b :: rest) pos) (eAnd ma mb) := ⟨
  pe_weak (pe_and ha.out hb.out) fun s H Q ⟨w, r, S, hr, hS, hp⟩ => ⟨w, r, S, hr, hS, hp.bind hS fun d S1 w1 H1 v x1 q1 s1 p1 => by
    cases d with
    | bl k =>
      unfold RD at q1
      subst q1
      refine ⟨k, rfl, ?_⟩
      cases k with
      | true => exact iteT ⟨w1, r, S1, hr.ext x1, s1, p1⟩
      | false => exact iteF (Post.ret p1 (by unfold RD; rfl) s1)
    | _ => exact p1.elim⟩⟩
theorem se_not (ha : SE X E a ma) : SE X E (.UnaryOp .Not a pos) (eNot ma) := ⟨
  pe_weak (pe_not ha.out) fun s H Q ⟨w, r, S, hr, hS, hp⟩ => ⟨w, r, S, hr, hS, hp.bind hS fun d S1 w1 H1 v x1 q1 s1 p1 => by
    cases d with
    | bl k =>
      unfold RD at q1
      subst q1
      exact ⟨k, rfl, Post.ret p1 (by unfold RD; rfl) s1⟩
    | _ => exact p1.elim⟩⟩
theorem uT_of {s : L2.St} {H : Hp} {Q : Bool → Hp → Prop} (h : uT X.K E (tV ma) s H Q) : uE X.K E ma s H fun x H1 => ∃ k, x = .bl k ∧ Q k H1 := by
  obtain ⟨w, r, S, hr, hS, hp⟩ := h
  exact ⟨w, r, S, hr, hS, hp.bind hS fun d S1 w1 H1 v x1 q1 s1 p1 => by
    cases d with
    | bl k =>
      unfold RD at q1
      exact ⟨k, q1, Post.ret p1 rfl s1⟩
    | _ => exact p1.elim⟩
theorem st_val (h : SE X E a ma) (he : ∀ whole, isTrue a X.env whole = (do let v ← whole; standAt a.pos; holding [v] (truthy v)) := by intro _; kernel_rfl) : ST X E a (tV ma) := ⟨
  pt_weak (pt_val h.out he) fun s H Q q => uT_of q⟩
theorem st_cmp {op : CmpOp} {f : Sto → D → D → Option D} (ho : OpR X (compareOp op) (xO X.K E f)) (ha : SE X E a ma) (hb : SE X E b mb) (hm : behindInMarks op b = false := by first | exact nomark _ | kernel_rfl) :
    ST X E (.Compare a [op] [b] pos) (tV (eOp f ma mb)) := ⟨
  pt_weak (pt_cmpR ho ha.out hb.out hm) fun s H Q q => by
    obtain ⟨w, r, S, hr, hS, hp⟩ := uT_of q
    exact ⟨w, r, S, hr, hS, hp.bind hS fun d S1 w1 H1 v x1 q1 s1 p1 =>
      ⟨w1, r, S1, hr.ext x1, s1, p1.bind s1 fun e S2 w2 H2 u x2 q2 s2 p2 => ⟨w2, S2, d, e, s2, RD.ext x2 d v q1, q2, p2⟩⟩⟩⟩
theorem sw_and1 {mt : TM} (ha : ST X E a mt) : SW X E (.BoolOp .And [a] pos) mt := ⟨pw_and1 ha.out⟩
theorem sw_or1 {mt : TM} (ha : ST X E a mt) : SW X E (.BoolOp .Or [a] pos) mt := ⟨pw_or1 ha.out⟩
theorem sw_and {mt mu : TM} {rest : List Expr} (ha : ST X E a mt) (hb : SW X E (.BoolOp .And (b :: rest) pos) mu) : SW X E (.BoolOp .And (a :: b :: rest) pos) (PD.tAnd mt mu) := ⟨
  pw_weak (pw_and ha.out hb.out) fun s H Q ⟨w, r, S, hr, hS, hp⟩ => ⟨w, r, S, hr, hS, hp.bind hS fun k S1 w1 H1 v x1 q1 s1 p1 => by
    have e : v = k := q1
    subst e
    cases v with
    | true => exact iteT ⟨w1, r, S1, hr.ext x1, s1, p1⟩
    | false => exact iteF (Post.ret p1 rfl s1)⟩⟩
theorem sw_or {mt mu : TM} {rest : List Expr} (ha : ST X E a mt) (hb : SW X E (.BoolOp .Or (b :: rest) pos) mu) : SW X E (.BoolOp .Or (a :: b :: rest) pos) (PD.tOr mt mu) := ⟨
  pw_weak (pw_or ha.out hb.out) fun s H Q ⟨w, r, S, hr, hS, hp⟩ => ⟨w, r, S, hr, hS, hp.bind hS fun k S1 w1 H1 v x1 q1 s1 p1 => by
    have e : v = k := q1
    subst e
    cases v with
    | false => exact iteF ⟨w1, r, S1, hr.ext x1, s1, p1⟩
    | true => exact iteT (Post.ret p1 rfl s1)⟩⟩
theorem sw_st {mt : TM} (h : SW X E a mt) : ST X E a mt := ⟨PW.pt h.out⟩
theorem st_not {mt : TM} (ha : ST X E a mt) : ST X E (.UnaryOp .Not a pos) (PD.tNot mt) := ⟨
  pt_weak (pt_not ha.out) fun s H Q ⟨w, r, S, hr, hS, hp⟩ => ⟨w, r, S, hr, hS, hp.bind hS fun k S1 w1 H1 v x1 q1 s1 p1 => by
    have e : v = k := q1
    subst e
    exact Post.ret p1 rfl s1⟩⟩
theorem sa_nil : SA X E [] aNil := ⟨pa_weak pa_nil fun s H Q ⟨w, r, S, hr, hS, hp⟩ => Post.ret hp RDs.nil hS⟩
theorem sa_cons {es : List Expr} {ms : AM} (ha : SE X E a ma) (hrr : SA X E es ms) (hs : starEach (a :: es) X.env = (false, eval a X.env) :: starEach es X.env := by kernel_rfl) : SA X E (a :: es) (aCons ma ms) := ⟨
  pa_weak (pa_cons ha.out hrr.out hs) fun s H Q ⟨w, r, S, hr, hS, hp⟩ => ⟨w, r, S, hr, hS, hp.bind hS fun d S1 w1 H1 v x1 q1 s1 p1 =>
    ⟨w1, r, S1, hr.ext x1, s1, p1.bind s1 fun e S2 w2 H2 u x2 q2 s2 p2 => Post.ret p2 (RDs.cons (RD.ext x2 d v q1) q2) s2⟩⟩⟩
theorem se_tup {es : List Expr} {ms : AM} {k} (h : SA X E es ms) : SE X E (.Tuple es k pos) (eTup ms) := ⟨
  pe_weak (pe_tup h.out) fun s H Q ⟨w, r, S, hr, hS, hp⟩ => ⟨w, r, S, hr, hS, hp.bind hS fun ds S1 w1 H1 vs x1 q1 s1 p1 => by
    by_cases hl : ds.length ≤ sizeLine
    · rw [if_pos hl] at p1
      refine ⟨by rw [q1.length]; exact hl, fun p hp => ?_⟩
      exact Post.at p1 (Ext.new hp) (by unfold RD; exact ⟨p, vs, rfl, .inl ⟨upd_same, s1.fresh hp⟩, RDs.ext (Ext.new hp) _ _ q1⟩) (s1.new hp)
    · rw [if_neg hl] at p1; exact p1.elim⟩⟩
theorem se_lst {es : List Expr} {ms : AM} (h : SA X E es ms) : SE X E (.List es pos) (eLst ms) := ⟨
  pe_weak (pe_lst h.out) fun s H Q ⟨w, r, S, hr, hS, hp⟩ => ⟨w, r, S, hr, hS, hp.bind hS fun ds S1 w1 H1 vs x1 q1 s1 p1 => by
    by_cases hl : ds.length ≤ sizeLine
    · rw [if_pos hl] at p1
      refine ⟨by rw [q1.length]; exact hl, fun p hp => ?_⟩
      exact Post.at p1 (Ext.new hp) (by unfold RD; exact ⟨p, vs, rfl, ⟨upd_same, s1.fresh hp⟩, RDs.ext (Ext.new hp) _ _ q1⟩) (s1.new hp)
    · rw [if_neg hl] at p1; exact p1.elim⟩⟩
theorem RS.lastRef {K : PySem.W.Frag} {w : Wd} {H : Hp} {S : Sto} (s : RS K w H S) {p : Addr} {H' : Hp} : RD K (w.add p) H' (.ref S.length) (.ref p) := by
  unfold RD
  exact ⟨p, rfl, by show (w.st ++ [p])[S.length]? = some p; rw [← s.len]; simp⟩
theorem se_new {es : List Expr} {ms : AM} (h : SA X E es ms) : SE X E (.List es pos) (eNew ms) := ⟨
  pe_weak (pe_lst h.out) fun s H Q ⟨w, r, S, hr, hS, hp⟩ => ⟨w, r, S, hr, hS, hp.bind hS fun ds S1 w1 H1 vs x1 q1 s1 p1 => by
    by_cases hl : ds.length ≤ sizeLine
    · rw [if_pos hl] at p1
      refine ⟨by rw [q1.length]; exact hl, fun p hp => ?_⟩
      exact Post.at p1 (Ext.alloc hp) s1.lastRef (s1.alloc hp ⟨vs, upd_same, RDs.ext (Ext.alloc hp) _ _ q1⟩)
    · rw [if_neg hl] at p1; exact p1.elim⟩⟩
def spM (K : PySem.W.Frag) (n : Nat) (f : FM) : Sp := fun vs H Q E => vs.length = n ∧ ∃ w S ds, RS K w H S ∧ RDs K w H ds vs ∧ Post K E (RD K) w H (f ds S) Q
variable {CX : CXT} {k n : Nat} {fa : Addr} {fd : FuncData} {ps : List Str} {f : FM} {x : Str} {p : Pos} {es : List Expr} {ms : AM}
theorem se_callB {id : String} {f : Sto → List D → Option D} (hc : CallR X (.builtin id) (xC X.K E f)) (hg : Gl X x) (hm : X.mg x = none) (hv : bootBuiltins x = some (.builtin id)) (ha : SA X E (a :: es) ms) (hn : x ≠ "__name__" := by decide +kernel) (hdb : (x == ("__debug__" : Str)) = false := by decide +kernel)
    (he : starEach (a :: es) X.env = (false, eval a X.env) :: starEach es X.env := by kernel_rfl) (hpl : (backTo pos (starEach es X.env)).any (·.1) = false := by kernel_rfl) : SE X E (.Call (.Name x p) (a :: es) [] pos) (eB f ms) := ⟨
  pe_weak (pe_callB hc hg hm hv ha.out hn hdb he hpl) fun s H Q ⟨w, r, S, hr, hS, hp⟩ => ⟨w, r, S, hr, hS, hp.bind hS fun ds S1 w1 H1 vs x1 q1 s1 p1 => ⟨w1, S1, ds, s1, q1, p1⟩⟩⟩
theorem se_callTy {T : String} {f : Sto → List D → Option D} (hc : CallR X (.type T) (xC X.K E f)) (hg : Gl X x) (hm : X.mg x = none) (hv : bootBuiltins x = some (.type T)) (ha : SA X E (a :: es) ms) (hn : x ≠ "__name__" := by decide +kernel) (hdb : (x == ("__debug__" : Str)) = false := by decide +kernel)
    (he : starEach (a :: es) X.env = (false, eval a X.env) :: starEach es X.env := by kernel_rfl) (hpl : (backTo pos (starEach es X.env)).any (·.1) = false := by kernel_rfl) : SE X E (.Call (.Name x p) (a :: es) [] pos) (eB f ms) := ⟨
  pe_weak (pe_callTy hc hg hm hv ha.out hn hdb he hpl) fun s H Q ⟨w, r, S, hr, hS, hp⟩ => ⟨w, r, S, hr, hS, hp.bind hS fun ds S1 w1 H1 vs x1 q1 s1 p1 => ⟨w1, S1, ds, s1, q1, p1⟩⟩⟩
variable {st : Stmt} {rest : List Stmt} {m m' : SM}
theorem ss_nil : SSs X E [] sSkip := ⟨pss_weak pss_nil fun D s H ⟨w, r, S, hr, hS, hp⟩ => Post.ret (b := FV.nx s) hp ⟨s, rfl, hr⟩ hS⟩
theorem ss_cons (h1 : SS X E st m) (h2 : SSs X E rest m') : SSs X E (st :: rest) (sSeq m m') := ⟨
  pss_weak (pss_cons h1.out h2.out) fun D s H ⟨w, r, S, hr, hS, hp⟩ => ⟨w, r, S, hr, hS, hp.bind hS fun f S1 w1 H1 fv x1 q1 s1 p1 => by
    cases f with
    | nx r1 => obtain ⟨s', rfl, q⟩ := q1; exact ⟨w1, r1, S1, q, s1, p1⟩
    | rt d => obtain ⟨v, rfl, q⟩ := q1; have z := Post.ret (Q := FV.to D) (rel := RF X.K) (a := F.rt d) (b := FV.rt v) p1 ⟨v, rfl, q⟩ s1; exact z
    | bk r1 => obtain ⟨s', rfl, q⟩ := q1; have z := Post.ret (Q := FV.to D) (rel := RF X.K) (a := F.bk r1) (b := FV.bk s') p1 ⟨s', rfl, q⟩ s1; exact z
    | ct r1 => obtain ⟨s', rfl, q⟩ := q1; have z := Post.ret (Q := FV.to D) (rel := RF X.K) (a := F.ct r1) (b := FV.ct s') p1 ⟨s', rfl, q⟩ s1; exact z⟩⟩
theorem ss_one (h1 : SS X E st m) : SSs X E [st] m := ⟨pss_one h1.out⟩
theorem ss_never : SS X E st sBad := ⟨ps_weak ps_never fun D s H ⟨w, r, S, hr, hS, hp⟩ => hp.elim⟩
theorem ss_expr (ha : SE X E a ma) (hs : swapsWith a none pos.line X.env = pure false := by kernel_rfl) : SS X E (.Expr a pos) (sDrop ma) := ⟨
  ps_weak (ps_expr ha.out hs) fun D s H ⟨w, r, S, hr, hS, hp⟩ => ⟨w, r, S, hr, hS, hp.bind hS fun d S1 w1 H1 v x1 q1 s1 p1 => Post.ret (b := FV.nx s) p1 ⟨s, rfl, hr.ext x1⟩ s1⟩⟩
theorem ss_ret (ha : SE X E a ma) : SS X E (.Return (some a) pos) (sRet ma) := ⟨
  ps_weak (ps_ret ha.out) fun D s H ⟨w, r, S, hr, hS, hp⟩ => ⟨w, r, S, hr, hS, hp.bind hS fun d S1 w1 H1 v x1 q1 s1 p1 => Post.ret (b := FV.rt v) p1 ⟨v, rfl, q1⟩ s1⟩⟩
theorem ss_if {mt : TM} {sa sb : List Stmt} (hc : ST X E c mt) (ha : SSs X E sa m) (hb : SSs X E sb m') : SS X E (.If c sa sb pos) (sIf mt m m') := ⟨
  ps_weak (ps_if hc.out ha.out hb.out) fun D s H ⟨w, r, S, hr, hS, hp⟩ => ⟨w, r, S, hr, hS, hp.bind hS fun k S1 w1 H1 v x1 q1 s1 p1 => by
    have e : v = k := q1
    subst e
    cases v with
    | true => exact iteT ⟨w1, r, S1, hr.ext x1, s1, p1⟩
    | false => exact iteF ⟨w1, r, S1, hr.ext x1, s1, p1⟩⟩⟩
theorem ss_set {i : Nat} {x : Str} {pos' : Pos} (hN : X.N.Nodup) (hi : X.N[i]? = some x) (hx : Loc X.env.scope x) (ha : SE X E a ma) (hs : swapsWith a (some (.Name x pos')) pos.line X.env = pure false := by kernel_rfl) (hf : X.fn x = true ∨ X.env.scope.names.lookup x = some .local := by first | exact .inl rfl | exact .inr (by kernel_rfl)) :
    SS X E (.Assign [.Name x pos'] a pos) (sSet i ma) := ⟨
  ps_weak (ps_set hN hi hx ha.out hs hf) fun D s H ⟨w, r, S, hr, hS, hp⟩ => ⟨w, r, S, hr, hS, hp.bind hS fun d S1 w1 H1 v x1 q1 s1 p1 =>
    Post.ret (b := FV.nx (s.set i (some v))) p1 ⟨_, rfl, (hr.ext x1).set i q1⟩ s1⟩⟩
end
end PD
namespace PD
open PySem PySem.Spec PyProof.Rows L2
def uG (K : PySem.W.Frag) (g : G) : TG := fun v s H Q => ∃ w r d r', RSt K w H r s ∧ RD K w H d v ∧ g.put d r = some r' ∧ ∀ s', RSt K w H r' s' → Q s' H
def uGs (K : PySem.W.Frag) (gs : List G) : TGs := fun vs s H Q => ∃ w r ds r', RSt K w H r s ∧ RDs K w H ds vs ∧ G.puts gs ds r = some r' ∧ ∀ s', RSt K w H r' s' → Q s' H
abbrev SG (X : Cx) (e : Expr) (g : G) : Prop := Bx (PG X e (uG X.K g))
abbrev SGs (X : Cx) (es : List Expr) (gs : List G) : Prop := Bx (PGs X es (uGs X.K gs))
theorem pg_weak {X : Cx} {e : Expr} {t t' : TG} (h : PG X e t) (k : ∀ v s H Q, t' v s H Q → t v s H Q) : PG X e t' := fun pins s σ H v u Q I r q => h pins s σ H v u Q I r (k v σ H Q q)
theorem pgs_weak {X : Cx} {e : List Expr} {t t' : TGs} (h : PGs X e t) (k : ∀ v s H Q, t' v s H Q → t v s H Q) : PGs X e t' := fun pins s σ H v u Q I r q => h pins s σ H v u Q I r (k v σ H Q q)
theorem puts_len : ∀ {gs : List G} {ds : List D} {r r' : Rho}, G.puts gs ds r = some r' → ds.length = gs.length
  | [], [], _, _, _ => rfl
  | [], _ :: _, _, _, h => by simp [G.puts] at h
  | _ :: _, [], _, _, h => by simp [G.puts] at h
  | g :: gs, d :: ds, r, r', h => by
    unfold G.puts at h
    cases e : G.put g d r with
    | none => rw [e] at h; cases h
    | some r1 =>
      rw [e] at h
      have := puts_len h
      simp [this]
section
variable {X : Cx} {E : XK} {a b c : Expr} {ma mb mc : EM} {pos : Pos}
theorem sg_name {i : Nat} {x : Str} (hN : X.N.Nodup) (hi : X.N[i]? = some x) (hx : Loc X.env.scope x) (hf : X.fn x = true ∨ X.env.scope.names.lookup x = some .local := by first | exact .inl rfl | exact .inr (by kernel_rfl)) : SG X (.Name x pos) (.nm i) := ⟨
  pg_weak (pg_name hN hi hx hf) fun v s H Q ⟨w, r, d, r', hr, q, e, k⟩ => by
    unfold G.put at e
    cases e
    exact k _ (hr.set i q)⟩
theorem sgs_nil : SGs X [] [] := ⟨
  pgs_weak pgs_nil fun v s H Q ⟨w, r, ds, r', hr, q, e, k⟩ => by
    cases ds with
    | nil =>
      unfold G.puts at e
      cases e
      exact ⟨q.nil_inv, k s hr⟩
    | cons d ds => simp [G.puts] at e⟩
theorem sgs_cons {e : Expr} {es : List Expr} {g : G} {gs : List G} (h1 : SG X e g) (h2 : SGs X es gs)
    (hs : (assignEach (e :: es) X.env).map (·.2) = assign e X.env :: (assignEach es X.env).map (·.2) := by kernel_rfl) : SGs X (e :: es) (g :: gs) := ⟨
  pgs_weak (pgs_cons h1.out h2.out hs) fun v s H Q ⟨w, r, ds, r', hr, q, e, k⟩ => by
    cases ds with
    | nil => simp [G.puts] at e
    | cons d ds =>
      obtain ⟨v1, vs, rfl, q1, q2⟩ := q.cons_inv
      unfold G.puts at e
      cases e1 : G.put g d r with
      | none => rw [e1] at e; cases e
      | some r1 =>
        rw [e1] at e
        exact ⟨v1, vs, rfl, w, r, d, r1, hr, q1, e1, fun s' hs' => ⟨w, r1, ds, r', hs', q2, e, k⟩⟩⟩
theorem SqT_of {K : PySem.W.Frag} {w : Wd} {H : Hp} {p : Addr} {vs : List V} (h : At w H p (.tup vs) ∨ KTup K p vs) : SqT K H p vs := h.elim (fun z => SqT.of z.1) .inr
theorem sg_tup {es : List Expr} {k : Nat} {gs : List G} (hc : X.calm = true) (h : SGs X es gs)
    (hn : (assignEach es X.env).length = gs.length := by kernel_rfl) (hst : (assignEach es X.env).findIdx? (·.1) = none := by kernel_rfl) : SG X (.Tuple es k pos) (.tp gs) := ⟨
  pg_weak (pg_tup hc h.out hn hst) fun v s H Q ⟨w, r, d, r', hr, q, e, k⟩ => by
    cases d with
    | tup ds =>
      unfold RD at q
      obtain ⟨p, vs, rfl, h1, q1⟩ := q
      unfold G.put at e
      exact ⟨p, vs, rfl, SqT_of h1, by rw [q1.length]; exact puts_len e, w, r, ds, r', hr, q1, e, k⟩
    | _ => simp [G.put] at e⟩
theorem ss_asg {tg : Expr} {g : G} (ha : SE X E a ma) (hg : SG X tg g) (hs : swapsWithSole [tg] a pos.line X.env = pure false := by kernel_rfl) (hw : swappedStores [tg] a X.env = pure none := by kernel_rfl)
    (h1 : (assignEach [tg] X.env).map (·.2) = [assign tg X.env] := by kernel_rfl) : SS X E (.Assign [tg] a pos) (sAsg g ma) := ⟨
  ps_weak (ps_asg ha.out hg.out hs hw h1) fun D s H ⟨w, r, S, hr, hS, hp⟩ => ⟨w, r, S, hr, hS, hp.bind hS fun d S1 w1 H1 v x1 q1 s1 p1 => by
    cases e : g.put d r with
    | none => rw [e] at p1; exact p1.elim
    | some r' =>
      rw [e] at p1
      exact ⟨w1, r, d, r', hr.ext x1, q1, e, fun s' hs' => Post.ret (b := FV.nx s') p1 ⟨s', rfl, hs'⟩ s1⟩⟩⟩
theorem ss_par {i j : Nat} {x y : Str} {ms : AM} {px py pt : Pos} {kt k2 pt2} (hc : X.calm = true) (hN : X.N.Nodup) (hi : X.N[i]? = some x) (hj : X.N[j]? = some y) (hij : i ≠ j)
    (hx : X.env.scope.names.lookup x = some .local) (hy : X.env.scope.names.lookup y = some .local) (ha : SA X E [a, b] ms)
    (hw : swappedStores [.Tuple [.Name x px, .Name y py] kt pt] (.Tuple [a, b] k2 pt2) X.env = pure (some [x, y]) := by kernel_rfl)
    (hs : swapsWithSole [.Tuple [.Name x px, .Name y py] kt pt] (.Tuple [a, b] k2 pt2) pos.line X.env = pure false := by kernel_rfl) :
    SS X E (.Assign [.Tuple [.Name x px, .Name y py] kt pt] (.Tuple [a, b] k2 pt2) pos) (sPar i j ms) := ⟨
  ps_weak (ps_par hc hN hi hj hij hx hy ha.out hw hs) fun D s H ⟨w, r, S, hr, hS, hp⟩ => ⟨w, r, S, hr, hS, hp.bind hS fun ds S1 w1 H1 vs x1 q1 s1 p1 => by
    match ds, q1, p1 with
    | [d, e], q1, p1 =>
      obtain ⟨v, u, rfl, q2, q3⟩ := q1.two_inv
      exact ⟨v, u, rfl, Post.ret (b := FV.nx _) p1 ⟨_, rfl, ((hr.ext x1).set i q2).set j q3⟩ s1⟩
    | [], _, p1 => exact p1.elim
    | [_], _, p1 => exact p1.elim
    | _ :: _ :: _ :: _, _, p1 => exact p1.elim⟩⟩
def xS (K : PySem.W.Frag) (f : Sto → D → D → D → Option Sto) : TSet := fun o i v H Q => ∃ w S x y z S', RS K w H S ∧ RD K w H x o ∧ RD K w H y i ∧ RD K w H z v ∧ f S x y z = some S' ∧ ∀ w' H', Ext w H w' H' → RS K w' H' S' → Q H'
theorem ss_put {f : Sto → D → D → D → Option Sto} {tpos : Pos} (hf : PSet X (xS X.K f)) (ha : SE X E a ma) (ho : SE X E b mb) (hi : SE X E c mc) (hs : swapsWithSole [.Subscript b c tpos] a pos.line X.env = pure false := by kernel_rfl) (hw : swappedStores [.Subscript b c tpos] a X.env = pure none := by kernel_rfl)
    (h1 : (assignEach [.Subscript b c tpos] X.env).map (·.2) = [assign (.Subscript b c tpos) X.env] := by kernel_rfl)
    (hz : ∀ v, assign (.Subscript b c tpos) X.env v = (do
      let ov ← holding [v] (eval b X.env)
      let iv ← holding [v, ov] (eval c X.env)
      standAt tpos
      holding [v, ov, iv] (setItem ov iv v)
      release [v, ov, iv] []) := by intro _; kernel_rfl) : SS X E (.Assign [.Subscript b c tpos] a pos) (sPut f ma mb mc) := ⟨
  ps_weak (ps_asg ha.out (pg_sub ho.out hi.out hf hz) hs hw h1) fun D s H ⟨w, r, S, hr, hS, hp⟩ => ⟨w, r, S, hr, hS, hp.bind hS fun d S1 w1 H1 v x1 q1 s1 p1 =>
    ⟨w1, r, S1, hr.ext x1, s1, p1.bind s1 fun e S2 w2 H2 u x2 q2 s2 p2 => ⟨w2, r, S2, (hr.ext x1).ext x2, s2, p2.bind s2 fun t S3 w3 H3 y x3 q3 s3 p3 => by
      cases hf : f S3 e t d with
      | none => rw [hf] at p3; exact p3.elim
      | some S4 =>
        rw [hf] at p3
        exact ⟨w3, S3, e, t, d, S4, s3, RD.ext x3 _ _ q2, q3, RD.ext x3 _ _ (RD.ext x2 _ _ q1), hf, fun w' H' x4 s4 => Post.at (b := FV.nx s) p3 x4 ⟨s, rfl, (((hr.ext x1).ext x2).ext x3).ext x4⟩ s4⟩⟩⟩⟩⟩
def RI (K : PySem.W.Frag) (w : Wd) (H : Hp) (ds : List D) (J : It) : Prop := ∀ (i : Nat) (w' : Wd) (H' : Hp), Ext w H w' H' →
  (i < ds.length → J.go i H' ∧ ∀ x H'', J.yld i H' x H'' → (H'' = H' ∨ ∃ p o, H' p = none ∧ H'' = upd H' p o) ∧ ∀ S, RS K w' H' S → ∃ d, ds[i]? = some d ∧ RD K w' H'' d x) ∧ (ds.length ≤ i → J.stop i H')
def uI (K : PySem.W.Frag) (E : XK) (m : AM) : TI := fun s H Q => ∃ w r S, RSt K w H r s ∧ RS K w H S ∧ Post K E (RI K) w H (m r S) Q
abbrev SIb (qb : Bool) (X : Cx) (E : XK) (tg iter : Expr) (m : AM) : Prop := Bx (PIb qb X tg iter (uI X.K E m))
abbrev SI (X : Cx) (E : XK) (tg iter : Expr) (m : AM) : Prop := Bx (PI X tg iter (uI X.K E m))
theorem grown_ok {K : PySem.W.Frag} {w : Wd} {H H' : Hp} {S : Sto} (h : H' = H ∨ ∃ p o, H p = none ∧ H' = upd H p o) (s : RS K w H S) : Ext w H w H' ∧ RS K w H' S := by
  rcases h with rfl | ⟨p, o, hp, rfl⟩
  · exact ⟨Ext.refl _ _, s⟩
  · exact ⟨Ext.new hp, s.new hp⟩
theorem ss_for {tg iter : Expr} {body : List Stmt} {it : AM} {g : G} {m : SM} (hp : PassesOwn (model X.prog X.w) X.A X.env X.xe) (hc : X.calm = true) (hi : SI X E tg iter it) (hg : SG X tg g) (hb : SSs X E body m)
    (hs : ∀ x, foldedSetIterable iter X.env x = pure x := by intro _; kernel_rfl) : SS X E (.For tg iter body [] pos) (sFor it g m) := ⟨
  ps_weak (ps_for hp hc hi.out hg.out hb.out hs) fun D s H ⟨w, r, S, hr, hS, hp⟩ => ⟨w, r, S, hr, hS, hp.bind hS fun ds S1 w1 H1 J x1 q1 s1 p1 => by
    refine ⟨fun i n s' H' => n = ds.length - i ∧ i ≤ ds.length ∧ ∃ w' r' S', Ext w1 H1 w' H' ∧ RSt X.K w' H' r' s' ∧ RS X.K w' H' S' ∧ Post X.K E (RF X.K) w' H' (forL g m (ds.drop i) r' S') (FV.to D),
      ⟨ds.length, by simp, Nat.zero_le _, w1, r, S1, Ext.refl _ _, hr.ext x1, s1, p1⟩, ?_⟩
    rintro i n s2 H2 ⟨rfl, hi.out, w2, r2, S2, x2, hr2, hS2, hp2⟩
    by_cases hlt : i < ds.length
    · obtain ⟨go, yld⟩ := (q1 i w2 H2 x2).1 hlt
      refine .inr ⟨go, fun s' H' => ∃ w' r' S', Ext w1 H1 w' H' ∧ RSt X.K w' H' r' s' ∧ RS X.K w' H' S' ∧ Post X.K E (RF X.K) w' H' (forL g m (ds.drop (i + 1)) r' S') (FV.to D),
        fun s' H' hN => ⟨ds.length - (i + 1), by omega, rfl, hlt, hN⟩, fun x H3 hy => ?_⟩
      obtain ⟨gr, rd⟩ := yld x H3 hy
      obtain ⟨d, ed, qd⟩ := rd S2 hS2
      obtain ⟨x3, s3⟩ := grown_ok gr hS2
      have x13 : Ext w1 H1 w2 H3 := x2.trans' x3 s1 hS2
      have hdrop : ds.drop i = d :: ds.drop (i + 1) := by
        rw [List.drop_eq_getElem_cons hlt]
        rw [List.getElem?_eq_getElem hlt] at ed
        cases ed; rfl
      rw [hdrop] at hp2
      have hp3 := Post.ext hp2 x3 hS2 s3
      unfold forL at hp3
      cases e : g.put d r2 with
      | none => rw [e] at hp3; exact hp3.elim
      | some r3 =>
        rw [e] at hp3
        refine ⟨w2, r2, d, r3, hr2.ext x3, qd, e, fun s4 hr4 => ⟨w2, r3, S2, hr4, s3, ?_⟩⟩
        refine Post.bind (rel := RF X.K) hp3 s3 fun f S5 w5 H5 fv x5 q5 s5 p5 => ?_
        cases f with
        | nx r6 => obtain ⟨s6, rfl, q6⟩ := q5; exact ⟨w5, r6, S5, x13.trans' x5 s1 s3, q6, s5, p5⟩
        | ct r6 => obtain ⟨s6, rfl, q6⟩ := q5; exact ⟨w5, r6, S5, x13.trans' x5 s1 s3, q6, s5, p5⟩
        | bk r6 => obtain ⟨s6, rfl, q6⟩ := q5; have z := Post.ret (Q := FV.to D) (rel := RF X.K) (a := F.nx r6) (b := FV.nx s6) p5 ⟨s6, rfl, q6⟩ s5; exact z
        | rt d6 => obtain ⟨v6, rfl, q6⟩ := q5; have z := Post.ret (Q := FV.to D) (rel := RF X.K) (a := F.rt d6) (b := FV.rt v6) p5 ⟨v6, rfl, q6⟩ s5; exact z
    · have e : i = ds.length := by omega
      subst e
      rw [List.drop_length] at hp2
      exact .inl ⟨(q1 _ w2 H2 x2).2 (Nat.le_refl _), Post.ret (b := FV.nx s2) hp2 ⟨s2, rfl, hr2⟩ hS2⟩⟩⟩
def aSeq (m : EM) (f : Sto → D → Option (List D)) : AM := fun r S => (m r S).bind fun d S1 => R.of S1 (f S1 d)
def itTup : Sto → D → Option (List D)
  | _, .tup ds => some ds
  | _, _ => none
def itLst : Sto → D → Option (List D)
  | _, .lst ds => some ds
  | _, .fz ds => some ds
  | _, _ => none
def aRange1 (t : AM) : AM := fun r S => (t r S).bind fun xs S1 => match xs with
  | [.int n] => if n < 2 ^ 62 ∧ -(2 ^ 62) ≤ n then .ok ((List.range n.toNat).map fun (i : Nat) => D.int i) S1 else .bad
  | _ => .bad
theorem pi_weak {qb : Bool} {X : Cx} {tg e : Expr} {t t' : TI} (h : PIb qb X tg e t) (k : ∀ s H Q, t' s H Q → t s H Q) : PIb qb X tg e t' := fun pins s σ H Q I q => h pins s σ H Q I (k σ H Q q)
theorem si_tup {tg : Expr} (ha : SE X E a ma) : SI X E tg a (aSeq ma itTup) := ⟨
  pi_weak (pi_tup ha.out) fun s H Q ⟨w, r, S, hr, hS, hp⟩ => ⟨w, r, S, hr, hS, hp.bind hS fun d S1 w1 H1 v x1 q1 s1 p1 => by
    cases d with
    | tup ds =>
      unfold RD at q1
      obtain ⟨p, vs, rfl, h1, q⟩ := q1
      refine ⟨p, rfl, ⟨vs, SqT_of h1⟩, Post.ret p1 ?_ s1⟩
      intro i w' H' x'
      have h1' : At w' H' p (.tup vs) ∨ KTup X.K p vs := h1.imp x'.at id
      have q' := RDs.ext x' _ _ q
      refine ⟨fun hi => ⟨⟨vs, vs[i]'(by rw [q.length]; exact hi), SqT_of h1', List.getElem?_eq_getElem _⟩, fun x H'' y => ?_⟩, fun hi => ⟨vs, SqT_of h1', by rw [q.length]; exact hi⟩⟩
      obtain ⟨rfl, y⟩ := y
      refine ⟨.inl rfl, fun S _ => ⟨ds[i], List.getElem?_eq_getElem hi, ?_⟩⟩
      obtain ⟨v, e, rv⟩ := q'.get (List.getElem?_eq_getElem hi)
      rw [y vs (SqT_of h1')] at e
      cases e
      exact rv
    | _ => exact p1.elim⟩⟩
theorem si_lst {tg : Expr} (ha : SE X E a ma) : SI X E tg a (aSeq ma itLst) := ⟨
  pi_weak (pi_list ha.out) fun s H Q ⟨w, r, S, hr, hS, hp⟩ => ⟨w, r, S, hr, hS, hp.bind hS fun d S1 w1 H1 v x1 q1 s1 p1 => by
    have main : ∀ (ds : List D) (p : Addr) (vs : List V), RDs X.K w1 H1 ds vs → (∀ w' H', Ext w1 H1 w' H' → SqL X.K H' p vs) → RI X.K w1 H1 ds (Itl X.K p) := by
      intro ds p vs q sq i w' H' x'
      have q' := RDs.ext x' _ _ q
      refine ⟨fun hi => ⟨⟨vs, vs[i]'(by rw [q.length]; exact hi), sq _ _ x', List.getElem?_eq_getElem _⟩, fun x H'' y => ?_⟩, fun hi => ⟨vs, sq _ _ x', by rw [q.length]; exact hi⟩⟩
      obtain ⟨rfl, y⟩ := y
      refine ⟨.inl rfl, fun S _ => ⟨ds[i], List.getElem?_eq_getElem hi, ?_⟩⟩
      obtain ⟨v, e, rv⟩ := q'.get (List.getElem?_eq_getElem hi)
      rw [y vs (sq _ _ x')] at e
      cases e
      exact rv
    cases d with
    | lst ds =>
      unfold RD at q1
      obtain ⟨p, vs, rfl, h1, q⟩ := q1
      exact ⟨p, rfl, ⟨vs, SqL.of h1.1⟩, Post.ret p1 (main ds p vs q fun w' H' x' => SqL.of (x'.at h1).1) s1⟩
    | fz ds =>
      unfold RD at q1
      obtain ⟨p, vs, rfl, h1, q⟩ := q1
      exact ⟨p, rfl, ⟨vs, h1.sq⟩, Post.ret p1 (main ds p vs q fun w' H' x' => FzAt.sq (w := w') (h1.imp (fun ⟨o, z⟩ => ⟨o, x'.at z⟩) id)) s1⟩
    | _ => exact p1.elim⟩⟩
def itSeq : Sto → D → Option (List D)
  | _, .tup ds => some ds
  | _, .lst ds => some ds
  | _, .fz ds => some ds
  | _, _ => none
theorem pi_or {tg e : Expr} {t u : TI} (h1 : PI X tg e t) (h2 : PI X tg e u) : PI X tg e (fun s H Q => t s H Q ∨ u s H Q) := fun pins s σ H Q I q => q.elim (h1 pins s σ H Q I) (h2 pins s σ H Q I)
theorem si_seq {tg : Expr} (ha : SE X E a ma) : SI X E tg a (aSeq ma itSeq) := ⟨
  pi_weak (pi_or (si_tup ha).out (si_lst ha).out) fun s H Q ⟨w, r, S, hr, hS, hp⟩ => by
    unfold aSeq at hp
    cases e : ma r S with
    | bad => rw [e] at hp; exact hp.elim
    | err y S' => rw [e] at hp; exact .inl ⟨w, r, S, hr, hS, by unfold aSeq; rw [e]; exact hp⟩
    | ok d S' =>
      rw [e] at hp
      cases d with
      | tup ds => exact .inl ⟨w, r, S, hr, hS, by unfold aSeq; rw [e]; exact hp⟩
      | lst ds => exact .inr ⟨w, r, S, hr, hS, by unfold aSeq; rw [e]; exact hp⟩
      | fz ds => exact .inr ⟨w, r, S, hr, hS, by unfold aSeq; rw [e]; exact hp⟩
      | _ => exact hp.elim⟩
theorem si_range1 {qb : Bool} {tg : Expr} {ms : AM} {p : Pos} (hg : Gl X "range") (hm : X.mg "range" = none) (ha : SA X E [a] ms) (hs : starEach [a] X.env = [(false, eval a X.env)] := by kernel_rfl) : SIb qb X E tg (.Call (.Name "range" p) [a] [] pos) (aRange1 ms) := ⟨
  pi_weak (pi_range1 hg hm ha.out hs) fun s H Q ⟨w, r, S, hr, hS, hp⟩ => ⟨w, r, S, hr, hS, hp.bind hS fun ds S1 w1 H1 vs x1 q1 s1 p1 => by
    rcases ds with _ | ⟨d, _ | ⟨d', ds⟩⟩
    · exact p1.elim
    · cases d with
      | int n =>
        obtain ⟨v, rfl, q2⟩ := q1.one_inv
        unfold RD at q2
        subst q2
        by_cases hn : n < 2 ^ 62 ∧ -(2 ^ 62) ≤ n
        · have p2 : Post X.K E (RI X.K) w1 H1 (if n < 2 ^ 62 ∧ -(2 ^ 62) ≤ n then R.ok ((List.range n.toNat).map fun (i : Nat) => D.int i) S1 else R.bad) Q := p1
          rw [if_pos hn] at p2
          refine ⟨n, rfl, hn.2, hn.1, Post.ret p2 ?_ s1⟩
          intro i w' H' x'
          refine ⟨fun hi => ⟨show i < n.toNat by simpa using hi, fun x H'' y => ?_⟩, fun hi => show n.toNat ≤ i by simpa using hi⟩
          obtain ⟨rfl, rfl⟩ := y
          refine ⟨.inl rfl, fun S _ => ⟨.int i, ?_, ?_⟩⟩
          · have : i < n.toNat := by simpa using hi
            simp [this]
          · unfold RD; simp
        · have p2 : Post X.K E (RI X.K) w1 H1 (if n < 2 ^ 62 ∧ -(2 ^ 62) ≤ n then R.ok ((List.range n.toNat).map fun (i : Nat) => D.int i) S1 else R.bad) Q := p1
          rw [if_neg hn] at p2
          exact p2.elim
      | _ => exact p1.elim
    · cases d <;> exact p1.elim⟩⟩
end
section
variable {P : Program} {w : World} {K : PySem.W.Frag} {mg : Str → Option Value} {base : Heap}
theorem start_rel {K : PySem.W.Frag} {w : Wd} {H : Hp} {N : List Str} {ds : List D} {vs : List V} (q : RDs K w H ds vs) : RSt K w H (ds.map some ++ List.replicate (N.length - ds.length) none) (L2.start N vs) := by
  unfold L2.start
  refine ⟨by simp [q.length], fun i d e => ?_⟩
  by_cases hi : i < ds.length
  · rw [List.getElem?_append_left (by simpa using hi), List.getElem?_map] at e
    rw [List.getElem?_append_left (by rw [List.length_map, q.length]; exact hi), List.getElem?_map]
    cases e1 : ds[i]? with
    | none => rw [e1] at e; cases e
    | some d' =>
      rw [e1] at e; cases e
      obtain ⟨v, ev, rv⟩ := q.get e1
      exact ⟨v, by rw [ev]; rfl, rv⟩
  · rw [List.getElem?_append_right (by simpa using hi), List.getElem?_replicate] at e
    split at e <;> cases e
end
end PD
namespace PD
open PySem PySem.Spec PyProof.Rows L2
section
variable {prog : Program} {w : World} {A : Around} {R : Result → Shared → Prop} {s : Shared}
theorem compLoop_all {elt target iter : Expr} {ifs : List Expr} {scope : Scope} {pos : Pos} {it acc : Value} {env : Env} (I : Nat → Shared → Prop)
    (turn : ∀ n s, I n s → wpAny (model prog w) A (pyNext it) (fun r s1 => match r with
      | none => R (.ok .next) s1
      | some v => wpAny (model prog w) A (letOwnedTupleGo target it v) (fun _ s1' => wpAny (model prog w) A (assign target env v) (fun _ s2 =>
          wpAny (model prog w) A (forIn ifs true fun c r => if r = true then do let ok ← isTrue c env (eval c env); pure (ForInStep.yield ok) else pure (ForInStep.yield r)) (fun ok s3 =>
            if ok = true then wpAny (model prog w) A (eval elt env) (fun x s4 =>
              wpAny (model prog w) A (call (.builtin "list.append") [acc, x]) (fun _ s5 => ∃ m, m < n ∧ I m s5) (fun _ _ => False) s4) (fun _ _ => False) s3
            else ∃ m, m < n ∧ I m s3) (fun _ _ => False) s2) (fun _ _ => False) s1') (fun _ _ => False) s1) (fun _ _ => False) s)
    (n : Nat) (h : I n s) :
    codeAny (model prog w) A (.compLoop (.ListComp elt [⟨target, iter, ifs, 0⟩] scope pos) 0 it acc env) R s := by
  refine codeAny_loop rfl I (fun n s hI => ?_) n h
  show wpAny _ A ((compTurn (.ListComp elt [⟨target, iter, ifs, 0⟩] scope pos) 0 it acc env).onRaise (fun x => do noteFrame x env; theTreesLotGoes x)) _ _ s
  refine wpAny_noted ?_
  rw [compTurn_list]
  refine wpAny_bind (wpAny_standAt (wpAny_bind (wpAny_mono (turn n s hI) (fun r s1 h1 => ?_) fun _ _ h' => h'.elim)))
  cases r with
  | none => exact wpAny_pure h1
  | some v =>
    refine wpAny_bind (wpAny_mono h1 (fun _ s1' h1' => ?_) fun _ _ h' => h'.elim)
    refine wpAny_bind (wpAny_mono h1' (fun _ s2 h2 => wpAny_bind (wpAny_mono h2 (fun ok s3 h3 => ?_) fun _ _ h' => h'.elim)) fun _ _ h' => h'.elim)
    cases ok with
    | false => exact wpAny_pure ⟨rfl, h3⟩
    | true =>
      exact wpAny_bind (wpAny_bind (wpAny_mono h3 (fun x s4 h4 => wpAny_bind (wpAny_mono h4 (fun _ s5 h5 => wpAny_pure (wpAny_pure ⟨rfl, h5⟩)) fun _ _ h' => h'.elim)) fun _ _ h' => h'.elim))
end
def PIfs (X : Cx) (ifs : List Expr) (t : TT) : Prop :=
  ∀ (pins : List (Addr × Obj)) (s : Shared) (σ : L2.St) (H : Hp) (Q : Bool → Hp → Prop), Inv X pins σ H s → t σ H Q →
    wpAny (model X.prog X.w) X.A (forIn ifs true fun c r => if r = true then do let ok ← isTrue c X.env (eval c X.env); pure (ForInStep.yield ok) else pure (ForInStep.yield r)) (TP X pins σ Q) X.xe s
theorem pifs_nil {X : Cx} : PIfs X [] (fun _ H Q => Q true H) := fun pins s σ H Q I h => wpAny_tests_nil ⟨H, I, h⟩
theorem pifs_one {X : Cx} {c : Expr} {t : TT} (h : PT X c t) : PIfs X [c] t := fun pins s σ H Q I q => wpAny_tests_one (h pins s σ H Q I q)
def cxC (X : Cx) (N : List Str) (scope : Scope) (cl : List (Str × Addr)) (s0 : Shared) (H0 : Hp) (ex : List Addr) : Cx :=
  { X with N := N, s₀ := s0, H₀ := H0, env := compEnvC scope cl s0.heap.objs.size X.env, outer := X.stack, ex := ex, fn := fun _ => false }
def capSt (k : Nat) (caps : List Nat) (s : L2.St) : L2.St := List.replicate k none ++ caps.map fun i => (s[i]?).join
structure CompScope (X : Cx) (N : List Str) (k : Nat) (caps : List Nat) (scope : Scope) : Prop where
  kind : scope.kind = .function
  nocell : ∀ x ∈ scope.names, x.2 ≠ .cell
  names : ∀ x ∈ scope.names, x.2 = .local → scope.names.lookup x.1 = some .local
  free : ∀ x ∈ scope.names, x.2 = .free → X.env.kindOf x.1 = some .cell ∨ X.env.kindOf x.1 = some .free
  len : N.length = k + caps.length
  cap : ∀ t i, caps[t]? = some i → ∃ x, X.N[i]? = some x ∧ N[k + t]? = some x ∧ scope.names.lookup x = some .free
theorem mem_of_lookup' {A B : Type} [BEq A] [LawfulBEq A] : ∀ {l : List (A × B)} {x : A} {b : B}, l.lookup x = some b → (x, b) ∈ l
  | [], _, _, h => by simp at h
  | (y, c) :: r, x, b, h => by
    rw [List.lookup_cons] at h
    cases e : x == y with
    | true =>
      rw [e] at h
      have := eq_of_beq e
      subst this
      cases h
      exact List.mem_cons_self
    | false =>
      rw [e] at h
      exact List.mem_cons_of_mem _ (mem_of_lookup' h)
theorem closure_ok {env : Env} : ∀ (names : List (Str × NameKind)) (cs : List (Str × Addr)), (∀ x ∈ names, x.2 = .free → ∃ c, env.cells.lookup x.1 = some c) →
    ∃ cl, (forIn names cs fun (x : Str × NameKind) (r : List (Str × Addr)) => (if x.2 == NameKind.free then do let a ← cellOf env x.1; pure (ForInStep.yield ((x.1, a) :: r)) else pure (ForInStep.yield r) : Sem (ForInStep (List (Str × Addr))))) = pure cl ∧
      (∀ p ∈ cl, p ∈ cs ∨ env.cells.lookup p.1 = some p.2) ∧ (∀ p ∈ cs, p ∈ cl) ∧ ∀ x ∈ names, x.2 = .free → ∃ c, (x.1, c) ∈ cl
  | [], cs, _ => ⟨cs, rfl, fun p h => .inl h, fun p h => h, fun x h => nomatch h⟩
  | (n, k) :: r, cs, h => by
    by_cases hk : k = .free
    · subst hk
      obtain ⟨c, hc⟩ := h (n, .free) List.mem_cons_self rfl
      obtain ⟨cl, e, h1, h2, h3⟩ := closure_ok r ((n, c) :: cs) fun x hx => h x (List.mem_cons_of_mem _ hx)
      refine ⟨cl, ?_, fun p hp => ?_, fun p hp => h2 p (List.mem_cons_of_mem _ hp), fun x hx hf => ?_⟩
      · rw [List.forIn_cons]
        have hco : cellOf env n = pure c := by unfold cellOf; rw [hc]
        simp only [beq_self_eq_true, if_true, hco, pure_bind]
        exact e
      · rcases h1 p hp with z | z
        · rcases List.mem_cons.mp z with z | z
          · subst z; exact .inr hc
          · exact .inl z
        · exact .inr z
      · rcases List.mem_cons.mp hx with z | z
        · subst z; exact ⟨c, h2 _ List.mem_cons_self⟩
        · exact h3 x z hf
    · obtain ⟨cl, e, h1, h2, h3⟩ := closure_ok r cs fun x hx => h x (List.mem_cons_of_mem _ hx)
      have hb : (k == NameKind.free) = false := by simpa using hk
      refine ⟨cl, ?_, h1, h2, fun x hx hf => ?_⟩
      · rw [List.forIn_cons]
        simp only [hb, Bool.false_eq_true, if_false, pure_bind]
        exact e
      · rcases List.mem_cons.mp hx with z | z
        · subst z; exact absurd hf hk
        · exact h3 x z hf
theorem closure_for {scope : Scope} {env : Env} (h : ∀ x ∈ scope.names, x.2 = .free → ∃ c, env.cells.lookup x.1 = some c) :
    ∃ cl, closureFor scope env = pure cl ∧ (∀ x c, cl.lookup x = some c → env.cells.lookup x = some c) ∧ ∀ x ∈ scope.names, x.2 = .free → ∃ c, cl.lookup x.1 = some c := by
  obtain ⟨cl, e, h1, h2, h3⟩ := closure_ok (env := env) scope.names [] h
  refine ⟨cl, ?_, fun x c hx => ?_, fun x hx hf => ?_⟩
  · unfold closureFor
    show ((forIn scope.names [] fun (x : Str × NameKind) (r : List (Str × Addr)) => (if x.2 == NameKind.free then do let a ← cellOf env x.1; pure (ForInStep.yield ((x.1, a) :: r)) else pure (ForInStep.yield r) : Sem (ForInStep (List (Str × Addr))))) >>= fun l => pure l) = pure cl
    rw [e, pure_bind]
  · rcases h1 _ (mem_of_lookup' hx) with z | z
    · exact nomatch z
    · exact z
  · obtain ⟨c, hc⟩ := h3 x hx hf
    cases e2 : cl.lookup x.1 with
    | some c' => exact ⟨c', rfl⟩
    | none =>
      rw [List.lookup_eq_none_iff] at e2
      have := e2 _ hc
      simp at this
theorem relabel_mem {scope : Scope} {env : Env} {x : Str} {k : NameKind} (h : (relabel scope env).names.lookup x = some k) : (x, k) ∈ scope.names ∨ (k = .cell ∧ (x, NameKind.free) ∈ scope.names) := by
  have m := mem_of_lookup' h
  obtain ⟨⟨n, j⟩, hn, e⟩ := List.mem_map.mp m
  dsimp only at e
  split at e
  · rename_i hc
    cases e
    have : j = NameKind.free := by
      have := (Bool.and_eq_true _ _ |>.mp (Bool.and_eq_true _ _ |>.mp hc).1).1
      simpa using this
    subst this
    exact .inr ⟨rfl, hn⟩
  · cases e
    exact .inl hn
theorem relabel_free {scope : Scope} {env : Env} {x : Str} : ∀ {names : List (Str × NameKind)}, names.lookup x = some .free →
    ((names.map fun (n, k) => if (k == NameKind.free && env.scope.kind == .function && env.kindOf n == some .cell) then (n, NameKind.cell) else (n, k)).lookup x = some .cell) ∨
    ((names.map fun (n, k) => if (k == NameKind.free && env.scope.kind == .function && env.kindOf n == some .cell) then (n, NameKind.cell) else (n, k)).lookup x = some .free)
  | [], h => by simp at h
  | (n, k) :: r, h => by
    have ih := @relabel_free scope env x r
    simp only [List.map_cons]
    cases hx : x == n with
    | true =>
      simp only [List.lookup_cons, hx] at h
      cases h
      by_cases hc : (NameKind.free == NameKind.free && env.scope.kind == .function && env.kindOf n == some .cell) = true
      · left; rw [if_pos hc]; simp [List.lookup_cons, hx]
      · right; rw [if_neg hc]; simp [List.lookup_cons, hx]
    | false =>
      simp only [List.lookup_cons, hx] at h
      by_cases hc : (k == NameKind.free && env.scope.kind == .function && env.kindOf n == some .cell) = true
      · rw [if_pos hc]; simp only [List.lookup_cons, hx]; exact ih h
      · rw [if_neg hc]; simp only [List.lookup_cons, hx]; exact ih h
section
variable {X : Cx} {pins : List (Addr × Obj)} {σ : L2.St} {H : Hp} {s : Shared}
theorem comp_start {N : List Str} {k : Nat} {caps : List Nat} {scope : Scope} {cl : List (Str × Addr)} {fp : List Addr} {h' : Heap} {m : Str → Option Value} {t : Nat} (I : Inv X pins σ H s) (C : CompScope X N k caps scope)
    (hcl : ∀ x c, cl.lookup x = some c → X.env.cells.lookup x = some c) (hcf : ∀ x ∈ scope.names, x.2 = .free → ∃ c, cl.lookup x.1 = some c)
    (hfp : ∀ b ∈ fp, FpOk X pins H b ∧ b < s.heap.objs.size) (hn : h'.Ns s.heap.objs.size m) (hk : ∀ b o, s.heap.get? b = some o → h'.get? b = some o) :
    Inv (cxC X N scope cl s H fp) pins (capSt k caps σ) H { s with heap := h', toks := t } := by
  have hfs : ∀ b, b ∈ frs X.stack → b < s.heap.objs.size := fun b hb => by
    obtain ⟨_, o, ho, _⟩ := I.stack.mem hb
    exact Heap.lt_size ho
  refine ⟨⟨I.ok.mod, C.kind, I.ok.glob, I.ok.blt, Nat.le_refl _, fun x y c h1 h2 => I.ok.inj x y c (hcl x c h1) (hcl y c h2), fun x hx => ?_, (fun x c h => nomatch h), I.ok.hd, I.ok.frames, .inl rfl, fun b hb => ?_, fun b o e => ?_, ?_, fun b o e hb => ?_, fun b hb => ?_, I.stack, fun b hb => I.stkFree b hb⟩,
    rfl, I.bare, Un.kept hk, ?_, fun x c e => ?_, I.hok.fresh (Nat.le_refl _), fun x c e => I.freeC x c (hcl x c e), fun p hp => ?_, I.hok.kept hk, ?_⟩
  · -- has
    have key : ∀ kk, (kk = NameKind.cell ∨ kk = NameKind.free) → (relabel scope X.env).names.lookup x = some kk → ∃ c, cl.lookup x = some c := fun kk hkk hl => by
      rcases relabel_mem hl with z | ⟨_, z⟩
      · rcases hkk with q | q
        · subst q; exact absurd rfl (C.nocell _ z)
        · subst q; exact hcf _ z rfl
      · exact hcf _ z rfl
    rcases hx with z | z
    · exact key _ (.inl rfl) z
    · exact key _ (.inr rfl) z
  · obtain ⟨f, lt⟩ := hfp b hb
    exact ⟨Nat.ne_of_lt lt, fun x c e => f.2.2.2.2.1 x c (hcl x c e)⟩
  · exact I.bs b o e
  · exact Nat.le_trans I.ok.bsz I.sz
  · obtain ⟨f, lt⟩ := hfp b hb
    rcases f.2.2.2.1 with z | z
    · exact I.ok.noex b o e z
    · exact absurd (Nat.lt_of_lt_of_le (Heap.lt_size e) (Nat.le_trans I.ok.bsz z)) (Nat.lt_irrefl _)
  · obtain ⟨f, lt⟩ := hfp b hb
    intro z
    rcases List.mem_cons.mp (I.stkSub b z) with q | q
    · exact f.2.1 q
    · exact f.2.2.1 q
  · obtain ⟨m0, hn0, hl0⟩ := I.loc
    refine ⟨m, hn, fun i x v e1 e2 e3 => ?_⟩
    unfold capSt at e2
    by_cases hi : i < k
    · rw [List.getElem?_append_left (by simpa using hi), List.getElem?_replicate] at e2
      split at e2 <;> cases e2
    · rw [List.getElem?_append_right (by simpa using hi), List.getElem?_map, List.length_replicate] at e2
      cases ec : caps[i - k]? with
      | none => rw [ec] at e2; cases e2
      | some j =>
        rw [ec] at e2
        have e2' : (σ[j]?).join = some v := Option.some.inj e2
        obtain ⟨y, hy1, hy2, hy3⟩ := C.cap _ _ ec
        have e1' : N[i]? = some x := e1
        rw [show k + (i - k) = i by omega] at hy2
        rw [hy2] at e1'
        have exy : y = x := Option.some.inj e1'
        subst exy
        have hfr : (y, NameKind.free) ∈ scope.names := mem_of_lookup' hy3
        have hsj : σ[j]? = some (some v) := by
          cases q : σ[j]? with
          | none => rw [q] at e2'; cases e2'
          | some o => rw [q] at e2'; rw [show o = some v from e2']
        have kinds := C.free _ hfr rfl
        have hvis : Vis X.env.scope y := by
          rcases kinds with z | z
          · exact .inr (.inl z)
          · exact .inr (.inr z)
        obtain ⟨u, ru, lk⟩ := hl0 j y v hy1 hsj hvis
        refine ⟨u, ru, ?_⟩
        rcases lk with ⟨z, _⟩ | ⟨_, c, hc, hcell⟩
        · rcases kinds with q | q <;> (rw [q] at z; cases z)
        · obtain ⟨c', hc'⟩ := hcf _ hfr rfl
          have := hcl _ _ hc'
          rw [hc] at this
          cases this
          refine .inr ⟨?_, c, hc', hcell.keeps hk⟩
          exact relabel_free (scope := scope) (env := X.env) hy3
  · obtain ⟨v, z⟩ := I.cell x c (hcl x c e)
    exact ⟨v, z.keeps hk⟩
  · obtain ⟨e, n, ne, nf, d⟩ := I.pin p hp
    refine ⟨hk _ _ e, n, Nat.ne_of_lt (Heap.lt_size e), fun z => ?_, d⟩
    rcases List.mem_cons.mp (I.stkSub _ z) with q | q
    · exact ne q
    · exact nf q
  · unfold capSt
    show _ = N.length
    rw [C.len]
    simp
end
def tComp (wi : TI) (k : Nat) (caps : List Nat) (g : TG) (tt : TT) (te : TE) : TE := fun σ H Q => wi σ H fun J H1 => ∀ p, H1 p = none → ∃ W : Nat → Nat → L2.St → Hp → Prop, (∃ m, W 0 m (capSt k caps σ) (upd H1 p (.lst []))) ∧ ∀ i m σ' H', W i m σ' H' →
  (J.stop i H' ∧ Q (.ref p) H') ∨ (J.go i H' ∧ ∃ N : L2.St → Hp → Prop, (∀ σ2 H2, N σ2 H2 → ∃ m', m' < m ∧ W (i + 1) m' σ2 H2) ∧
    ∀ x H3, J.yld i H' x H3 → g x σ' H3 fun σ4 H4 => tt σ4 H4 fun b H5 => if b = true then te σ4 H5 fun y H6 => ∃ ys, H6 p = some (.lst ys) ∧ ys.length < sizeLine ∧ N σ4 (upd H6 p (.lst (ys ++ [y]))) else N σ4 H5)
theorem pe_compQ {qb : Bool} {X : Cx} {elt tg iter : Expr} {ifs : List Expr} {scope : Scope} {pos : Pos} {N : List Str} {k : Nat} {caps : List Nat} {wi : TI} {g : TG} {tt : TT} {te : TE} (hX : Cd qb X) (hxe : ∀ e s, ¬ X.xe e s) (C : CompScope X N k caps scope)
    (hi : PIb qb X tg iter wi) (hg : ∀ cl s0 H0 ex, Cd qb (cxC X N scope cl s0 H0 ex) → PG (cxC X N scope cl s0 H0 ex) tg g) (ht : ∀ cl s0 H0 ex, Cd qb (cxC X N scope cl s0 H0 ex) → PIfs (cxC X N scope cl s0 H0 ex) ifs tt) (he : ∀ cl s0 H0 ex, Cd qb (cxC X N scope cl s0 H0 ex) → PE (cxC X N scope cl s0 H0 ex) elt te)
    (hs : ∀ x, foldedSetIterable iter X.env x = pure x := by intro _; kernel_rfl) : PE X (.ListComp elt [⟨tg, iter, ifs, 0⟩] scope pos) (tComp wi k caps g tt te) := by
  intro pins s σ H Q I h
  have noX : ∀ {α : Type} {t : Sem α} {Q' : α → Shared → Prop} {s' : Shared}, wpAny (model X.prog X.w) X.A t Q' X.xe s' → wpAny (model X.prog X.w) X.A t Q' (fun _ _ => False) s' := fun h => wpAny_mono h (fun _ _ x => x) fun e s z => hxe e s z
  obtain ⟨cl, hclos, hcl, hcf⟩ := closure_for (scope := scope) (env := X.env) fun x hx hf => I.ok.has _ (C.free x hx hf)
  rw [eval_ListComp]
  refine wpAny_comprehension_free (use := none) (cl := cl) rfl hs hclos C.kind C.names ?_
  refine thn (hi pins s σ H _ I h) fun v s1 h1 => thn h1 fun itv s2 h2 => ?_
  obtain ⟨it, fp, tn, J, H2, e, I2, T, st2, f2, q⟩ := h2
  subst e
  refine wpAny_newList (items := []) ?_ (by show 0 ≤ sizeLine; exact Nat.zero_le _)
  have hp : H2 s2.heap.objs.size = none := I2.hok.fresh (Nat.le_refl _)
  obtain ⟨W, ⟨m0, w0⟩, turn⟩ := q _ hp
  have I3 : Inv X pins σ (upd H2 s2.heap.objs.size (.lst [])) { s2 with heap := s2.heap.push { cls := .type "list", data := .seq ([] : List Value).toArray } } :=
    I2.laid (t' := s2.toks) (fun b u e => Heap.get?_push_of_some _ e) (Nat.le_refl _) ⟨Nat.zero_le _, [], 0, .nil, Heap.get?_push_size _ rfl⟩
  refine wpAny_newFunctionEnv C.nocell (fun x hx => nomatch hx) (fun h4 hn4 hs4 => ?_) C.kind
  have ltfp : ∀ b ∈ fp, b < s2.heap.objs.size := fun b hb => by
    obtain ⟨o, ho, _⟩ := T.obj _ _ st2 b hb
    exact Heap.lt_size ho
  have hk4 : ∀ b o, (s2.heap.push { cls := .type "list", data := .seq ([] : List Value).toArray }).get? b = some o → h4.get? b = some o := fun b o e => by
    have ne : b ≠ (s2.heap.push { cls := .type "list", data := .seq ([] : List Value).toArray }).objs.size := Nat.ne_of_lt (Heap.lt_size e)
    rw [hs4.2 b ne]
    exact Heap.get?_push_of_some _ e
  have f3 : ∀ b ∈ fp, FpOk X pins (upd H2 s2.heap.objs.size (.lst [])) b := fun b hb => by
    obtain ⟨a1, a2⟩ := f2 b hb
    exact ⟨by rw [upd_ne (Nat.ne_of_lt (ltfp b hb))]; exact a1, a2⟩
  have I4 := comp_start (N := N) (k := k) (caps := caps) (scope := scope) (cl := cl) (fp := fp) (t := s2.toks + 0) I3 C hcl hcf (fun b hb => ⟨f3 b hb, by rw [show ({ s2 with heap := s2.heap.push { cls := .type "list", data := .seq ([] : List Value).toArray } } : Shared).heap.objs.size = s2.heap.objs.size + 1 from Heap.size_push ..]; exact Nat.lt_succ_of_lt (ltfp b hb)⟩) hn4 hk4
  have tn4 : tn 0 h4 := T.keep _ _ _ st2 fun b hb o e => hk4 b o (Heap.get?_push_of_some _ e)
  have loop : codeAny (model X.prog X.w) X.A (.compLoop (.ListComp elt [⟨tg, iter, ifs, 0⟩] scope pos) 0 (.ref it) (.ref s2.heap.objs.size) (compEnvC scope cl ({ s2 with heap := s2.heap.push { cls := .type "list", data := .seq ([] : List Value).toArray } } : Shared).heap.objs.size X.env))
      (compPost (model X.prog X.w) X.A X.xe none (EP X pins σ Q) (.ref s2.heap.objs.size) ({ s2 with heap := s2.heap.push { cls := .type "list", data := .seq ([] : List Value).toArray } } : Shared).heap.objs.size) { s2 with heap := h4, toks := s2.toks + 0 } := by
    generalize hs3 : ({ s2 with heap := s2.heap.push { cls := .type "list", data := .seq ([] : List Value).toArray } } : Shared) = s3 at *
    have sz3 : s2.heap.objs.size ≤ s3.heap.objs.size := by rw [← hs3]; show _ ≤ (s2.heap.push _).objs.size; rw [Heap.size_push]; exact Nat.le_succ _
    have k23 : ∀ b o, s2.heap.get? b = some o → s3.heap.get? b = some o := fun b o e => by rw [← hs3]; exact Heap.get?_push_of_some _ e
    have hos : s3.os = s2.os := by rw [← hs3]
    have stat : ∀ {H' : Hp}, (∀ b ∈ fp, H' b = none) → ∀ b ∈ fp, FpOk (cxC X N scope cl s3 (upd H2 s2.heap.objs.size (.lst [])) fp) pins H' b := fun {H'} hn b hb => by
      obtain ⟨a1, a2, a3, a4, a5, a6⟩ := f3 b hb
      refine ⟨hn b hb, Nat.ne_of_lt (Nat.lt_of_lt_of_le (ltfp b hb) sz3), fun z => ?_, .inl hb, fun x c e => a5 x c (hcl x c e), a6⟩
      rcases List.mem_cons.mp (I2.stkSub b z) with q | q
      · exact a2 q
      · exact a3 q
    have I4' : Inv (cxC X N scope cl s3 (upd H2 s2.heap.objs.size (.lst [])) fp) pins (capSt k caps σ) (upd H2 s2.heap.objs.size (.lst [])) { s2 with heap := h4, toks := s2.toks + 0 } := by subst hs3; exact I4
    have hX2 : Cd qb (cxC X N scope cl s3 (upd H2 s2.heap.objs.size (.lst [])) fp) := by
      rcases hX with z | ⟨z, y | ⟨a, o, u, e1, e2, e3⟩⟩
      · exact .inl z
      · exact .inr ⟨z, .inl y⟩
      · refine .inr ⟨z, .inr ⟨a, o, u, e1, ?_, e3⟩⟩
        have q0 := I2.base.frzs a o u e2
        show upd H2 s2.heap.objs.size (.lst []) a = _
        rw [upd_ne (fun y => by rw [y, hp] at q0; cases q0)]
        exact q0
    refine compLoop_all (fun n s' => ∃ i σ' H', Inv (cxC X N scope cl s3 (upd H2 s2.heap.objs.size (.lst [])) fp) pins σ' H' s' ∧ tn i s'.heap ∧ (∀ b ∈ fp, H' b = none) ∧ W i n σ' H') ?_ m0 ⟨0, _, _, I4', tn4, fun b hb => (f3 b hb).1, w0⟩
    rintro n s5 ⟨i, σ5, H5, I5, st5, fr5, w5⟩
    rcases turn i n σ5 H5 w5 with ⟨stop, qn⟩ | ⟨go, Nn, hN, step⟩
    · refine thn (T.done (cxC X N scope cl s3 (upd H2 s2.heap.objs.size (.lst [])) fp) rfl rfl rfl hX2 i pins s5 σ5 H5 _ I5 (stat fr5) st5 stop) fun r s6 ⟨hr, I6⟩ => ?_
      subst hr
      obtain ⟨m6, hn6, _⟩ := I6.loc
      refine ⟨m6, hn6, fun h7 hs7 => ⟨.ref s2.heap.objs.size, H5, ?_, rfl, qn⟩⟩
      have u1 : Un (frs X.stack) fp H2 (upd H2 s2.heap.objs.size (.lst [])) s2.heap s3.heap := Un.laid k23 (Nat.le_refl _) hp
      have u2 : Un (frs X.stack) fp H2 H5 s2.heap s6.heap := u1.trans I6.base
      have neC : ∀ b o, s2.heap.get? b = some o → b ≠ s3.heap.objs.size := fun b o e => Nat.ne_of_lt (Nat.lt_of_lt_of_le (Heap.lt_size e) sz3)
      have hfree : H5 s3.heap.objs.size = none := I6.free
      refine I2.call' (s' := { s6 with heap := h7 }) (ch := fp) (by rw [← hos]; exact I6.os) ⟨fun b o e n hb hx => ?_, fun b o e n hb hx => ?_, u2.free, fun b o e hx => ?_, u2.tups, u2.frzs, u2.tbls⟩ (fun b ob e => ?_) I6.bare fun b hb => ?_
      · exact (hs7.2 b (neC b o e)).trans (u2.keep b o e n hb hx)
      · obtain ⟨sl, e1⟩ := u2.slot b o e n hb hx
        exact ⟨sl, (hs7.2 b (neC b o e)).trans e1⟩
      · obtain ⟨o', e1⟩ := u2.there b o e hx
        exact ⟨o', (hs7.2 b (neC b o e)).trans e1⟩
      · refine (I6.hok b ob e).stay (fun c v hc z => (hs7.2 c ?_).trans z) (fun _ z => z) fun _ _ z => z
        intro y
        rcases hc with z | z
        · rw [← z, y, hfree] at e; cases e
        · rw [y, hfree] at z; cases z
      · obtain ⟨a1, a2, a3, a4, a5, a6⟩ := f2 b hb
        exact ⟨a4, a2, a5, a6⟩
    · refine thn (T.item (cxC X N scope cl s3 (upd H2 s2.heap.objs.size (.lst [])) fp) rfl rfl rfl hX2 i pins s5 σ5 H5 _ I5 (stat fr5) st5 go) fun r s6 ⟨u, hr, h6⟩ => ?_
      subst hr
      refine thn h6 fun _ s7 ⟨x, H7, I7, r7, y7, st7, fr7⟩ => ?_
      have I7' := I7.pinned (stat fr7) (T.obj _ _ st7)
      refine noX (thn (hg cl s3 _ fp hX2 _ s7 σ5 H7 x u _ I7' r7 (step x H7 y7)) fun _ s8 ⟨σ8, H8, I8, q8⟩ => ?_)
      refine noX (thn (ht cl s3 _ fp hX2 _ s8 σ8 H8 _ I8 q8) fun ok s9 ⟨H9, I9, q9⟩ => ?_)
      have again : ∀ {s' : Shared} {σ' : L2.St} {H' : Hp}, Inv (cxC X N scope cl s3 (upd H2 s2.heap.objs.size (.lst [])) fp) (pins ++ pinsAt fp s7.heap) σ' H' s' → Nn σ' H' →
          ∃ m, m < n ∧ ∃ i σ' H', Inv (cxC X N scope cl s3 (upd H2 s2.heap.objs.size (.lst [])) fp) pins σ' H' s' ∧ tn i s'.heap ∧ (∀ b ∈ fp, H' b = none) ∧ W i m σ' H' := fun {s' σ' H'} I' n' => by
        obtain ⟨m', hm, w'⟩ := hN σ' H' n'
        refine ⟨m', hm, i + 1, σ', H', I'.unpinned, T.keep _ _ _ st7 fun b hb o e => (I'.pin (b, o) (List.mem_append_right _ (List.mem_append_right _ (mem_pinsAt hb e)))).1, fun b hb => ?_, w'⟩
        obtain ⟨o, e, d⟩ := T.obj _ _ st7 b hb
        exact (I'.pin (b, o) (List.mem_append_right _ (List.mem_append_right _ (mem_pinsAt hb e)))).2.1
      cases ok with
      | false => exact again I9 q9
      | true =>
        refine noX (thn (he cl s3 _ fp hX2 _ s9 σ8 H9 _ I9 q9) fun y s10 ⟨yv, H10, I10, r10, ys, hys, hlt, q10⟩ => ?_)
        refine noX (thn (mt_append (X := cxC X N scope cl s3 (upd H2 s2.heap.objs.size (.lst [])) fp) _ s10 σ8 H10 (.ref s2.heap.objs.size) [yv] _ [y] (fun _ H' => Nn σ8 H') I10 rfl (.cons r10 .nil) ⟨_, ys, yv, rfl, rfl, hys, hlt, q10⟩) fun _ s11 ⟨_, H11, I11, _, q11⟩ => ?_)
        exact again I11 q11
  exact codeAny_compStart_list loop (T.self X.A 0 _ _ _ tn4 loop)
end PD
namespace PD
open PySem PySem.Spec PyProof.Rows L2
def smallI (i : Int) : Prop := -(2 ^ 64) < i ∧ i < 2 ^ 64
instance (i : Int) : Decidable (smallI i) := by unfold smallI; infer_instance
def oAdd : Sto → D → D → Option D
  | _, .int i, .int j => some (.int (i + j))
  | _, .str a, .str b => if a.length + b.length ≤ sizeLine then some (.str (a ++ b)) else none
  | _, .tup a, .tup b => if a.length + b.length ≤ sizeLine then some (.tup (a ++ b)) else none
  | _, .lst a, .lst b => if a.length + b.length ≤ sizeLine then some (.lst (a ++ b)) else none
  | _, _, _ => none
def oSub : Sto → D → D → Option D
  | _, .int i, .int j => some (.int (i - j))
  | _, _, _ => none
def oMul : Sto → D → D → Option D
  | _, .int i, .int j => if smallI i ∨ smallI j then some (.int (i * j)) else none
  | _, .tup a, .int k => if -(2 ^ 63) ≤ k ∧ k < 2 ^ 63 ∧ a.length * k.toNat ≤ sizeLine then some (.tup (List.replicate k.toNat a).flatten) else none
  | _, .lst a, .int k => if -(2 ^ 63) ≤ k ∧ k < 2 ^ 63 ∧ a.length * k.toNat ≤ sizeLine then some (.lst (List.replicate k.toNat a).flatten) else none
  | _, _, _ => none
def oFdiv : Sto → D → D → Option D
  | _, .int i, .int j => if 0 < j ∧ j < 1073741824 then some (.int (i / j)) else none
  | _, _, _ => none
def oMod : Sto → D → D → Option D
  | _, .int i, .int j => if 0 < j then some (.int (i % j)) else none
  | _, _, _ => none
def oPow : Sto → D → D → Option D
  | _, .int i, .int j => if 0 ≤ j ∧ j ≤ 1000000 ∧ i.natAbs < 2 ^ 64 then some (.int (i ^ j.toNat)) else none
  | _, _, _ => none
def oShl : Sto → D → D → Option D
  | _, .int i, .int j => if 0 ≤ j ∧ j ≤ 1000000 ∧ i.natAbs < 2 ^ 64 then some (.int (i * 2 ^ j.toNat)) else none
  | _, _, _ => none
def oCmp (p : Int → Int → Bool) : Sto → D → D → Option D
  | _, .int i, .int j => some (.bl (p i j))
  | _, _, _ => none
abbrev oLt := oCmp fun i j => decide (i < j)
abbrev oGt := oCmp fun i j => decide (j < i)
abbrev oGe := oCmp fun i j => decide (j ≤ i)
def eqS : D → D → Option Bool
  | .int i, .int j => some (decide (i = j))
  | .bl i, .bl j => some (decide (i = j))
  | .str i, .str j => some (decide (i = j))
  | .non, .non => some true
  | .non, .int _ => some false
  | .int _, .non => some false
  | .non, .bl _ => some false
  | .bl _, .non => some false
  | .non, .str _ => some false
  | .str _, .non => some false
  | .int _, .str _ => some false
  | .str _, .int _ => some false
  | .bl _, .str _ => some false
  | .str _, .bl _ => some false
  | _, _ => none
def oEq : Sto → D → D → Option D := fun _ a b => (eqS a b).map .bl
def oNe : Sto → D → D → Option D := fun _ a b => (eqS a b).map fun c => .bl (!c)
def seqOf (S : Sto) : D → Option (List D)
  | .tup a => some a
  | .lst a => some a
  | .fz a => some a
  | .ref n => match S[n]? with
    | some (.lst a) => some a
    | some (.flst a) => some a
    | _ => none
  | _ => none
def oIx : Sto → D → D → Option D := fun S x y => match seqOf S x, y with
  | some a, .int i => atI a i
  | _, _ => none
def cutD (xs : List D) (lo hi : Option Int) : List D := (xs.drop (HT.sIx xs.length 0 lo)).take (HT.sIx xs.length xs.length hi - HT.sIx xs.length 0 lo)
section
variable {X : Cx} {E : XK}
theorem RD.int {K : PySem.W.Frag} {w : Wd} {H : Hp} {i : Int} {v : V} (q : RD K w H (.int i) v) : v = .int i := by unfold RD at q; exact q
theorem RD.bl {K : PySem.W.Frag} {w : Wd} {H : Hp} {i : Bool} {v : V} (q : RD K w H (.bl i) v) : v = .bl i := by unfold RD at q; exact q
theorem RD.str {K : PySem.W.Frag} {w : Wd} {H : Hp} {i : Str} {v : V} (q : RD K w H (.str i) v) : v = .str i := by unfold RD at q; exact q
theorem RD.non {K : PySem.W.Frag} {w : Wd} {H : Hp} {v : V} (q : RD K w H .non v) : v = .non := by unfold RD at q; exact q
theorem RD.mkI {K : PySem.W.Frag} {w : Wd} {H : Hp} {i : Int} : RD K w H (.int i) (.int i) := by unfold RD; rfl
theorem RD.mkB {K : PySem.W.Frag} {w : Wd} {H : Hp} {i : Bool} : RD K w H (.bl i) (.bl i) := by unfold RD; rfl
theorem RD.mkS {K : PySem.W.Frag} {w : Wd} {H : Hp} {i : Str} : RD K w H (.str i) (.str i) := by unfold RD; rfl
theorem RD.tupI {K : PySem.W.Frag} {w : Wd} {H : Hp} {ds : List D} {v : V} (q : RD K w H (.tup ds) v) : ∃ a vs, v = .ref a ∧ (At w H a (.tup vs) ∨ KTup K a vs) ∧ RDs K w H ds vs := by unfold RD at q; exact q
theorem RD.lstI {K : PySem.W.Frag} {w : Wd} {H : Hp} {ds : List D} {v : V} (q : RD K w H (.lst ds) v) : ∃ a vs, v = .ref a ∧ At w H a (.lst vs) ∧ RDs K w H ds vs := by unfold RD at q; exact q
theorem RD.fzI {K : PySem.W.Frag} {w : Wd} {H : Hp} {ds : List D} {v : V} (q : RD K w H (.fz ds) v) : ∃ a vs, v = .ref a ∧ FzAt K w H a vs ∧ RDs K w H ds vs := by unfold RD at q; exact q
theorem RD.refI {K : PySem.W.Frag} {w : Wd} {H : Hp} {n : Nat} {v : V} (q : RD K w H (.ref n) v) : ∃ a, v = .ref a ∧ w.st[n]? = some a := by unfold RD at q; exact q
theorem RD.newTup {K : PySem.W.Frag} {w : Wd} {H : Hp} {S : Sto} {ds : List D} {vs : List V} {p : Addr} (s : RS K w H S) (hp : H p = none) (q : RDs K w H ds vs) : RD K w (upd H p (.tup vs)) (.tup ds) (.ref p) := by
  unfold RD
  exact ⟨p, vs, rfl, .inl ⟨upd_same, s.fresh hp⟩, RDs.ext (Ext.new hp) _ _ q⟩
theorem RD.newLst {K : PySem.W.Frag} {w : Wd} {H : Hp} {S : Sto} {ds : List D} {vs : List V} {p : Addr} (s : RS K w H S) (hp : H p = none) (q : RDs K w H ds vs) : RD K w (upd H p (.lst vs)) (.lst ds) (.ref p) := by
  unfold RD
  exact ⟨p, vs, rfl, ⟨upd_same, s.fresh hp⟩, RDs.ext (Ext.new hp) _ _ q⟩
theorem opII {f : Value → Value → Sem Value} {C : Int → Int → Prop} {g : Int → Int → D} {gv : Int → Int → V} {o : Sto → D → D → Option D} (h : OpR X f (rI C gv)) (hg : ∀ K w H i j, RD K w H (g i j) (gv i j))
    (ho : ∀ S d e z, o S d e = some z → ∃ i j, d = .int i ∧ e = .int j ∧ C i j ∧ z = g i j) : OpR X f (xO X.K E o) := by
  rintro pins s σ H x y v u Q I rx ry ⟨w, S, d, e, hS, qd, qe, p⟩
  obtain ⟨z, hz, p⟩ := p.of
  obtain ⟨i, j, rfl, rfl, c, rfl⟩ := ho _ _ _ _ hz
  cases qd.int
  cases qe.int
  exact h pins s σ H _ _ v u Q I rx ry ⟨i, j, rfl, rfl, c, p.ret (hg _ _ _ _ _) hS⟩
theorem opII0 {f : Value → Value → Sem Value} {g : Int → Int → D} {gv : Int → Int → V} {o : Sto → D → D → Option D} (h : OpR X f (rI0 gv)) (hg : ∀ K w H i j, RD K w H (g i j) (gv i j))
    (ho : ∀ S d e z, o S d e = some z → ∃ i j, d = .int i ∧ e = .int j ∧ z = g i j) : OpR X f (xO X.K E o) := by
  rintro pins s σ H x y v u Q I rx ry ⟨w, S, d, e, hS, qd, qe, p⟩
  obtain ⟨z, hz, p⟩ := p.of
  obtain ⟨i, j, rfl, rfl, rfl⟩ := ho _ _ _ _ hz
  cases qd.int
  cases qe.int
  exact h pins s σ H _ _ v u Q I rx ry ⟨i, j, rfl, rfl, p.ret (hg _ _ _ _ _) hS⟩
theorem xo_sub : OpR X (binaryOp .Sub) (xO X.K E oSub) := opII0 (g := fun i j => .int (i - j)) op_sub (fun _ _ _ _ _ => RD.mkI) fun S d e z h => by
  unfold oSub at h; split at h
  · cases h; exact ⟨_, _, rfl, rfl, rfl⟩
  · cases h
theorem xo_fdiv : OpR X (binaryOp .FloorDiv) (xO X.K E oFdiv) := opII (g := fun i j => .int (i / j)) op_fdiv (fun _ _ _ _ _ => RD.mkI) fun S d e z h => by
  unfold oFdiv at h; split at h
  · split at h
    · cases h; exact ⟨_, _, rfl, rfl, by assumption, rfl⟩
    · cases h
  · cases h
theorem xo_mod : OpR X (binaryOp .Mod) (xO X.K E oMod) := opII (g := fun i j => .int (i % j)) op_mod (fun _ _ _ _ _ => RD.mkI) fun S d e z h => by
  unfold oMod at h; split at h
  · split at h
    · cases h; exact ⟨_, _, rfl, rfl, by assumption, rfl⟩
    · cases h
  · cases h
theorem xo_pow : OpR X (binaryOp .Pow) (xO X.K E oPow) := opII (g := fun i j => .int (i ^ j.toNat)) op_pow (fun _ _ _ _ _ => RD.mkI) fun S d e z h => by
  unfold oPow at h; split at h
  · split at h
    · cases h; exact ⟨_, _, rfl, rfl, by assumption, rfl⟩
    · cases h
  · cases h
theorem xo_shl : OpR X (binaryOp .LShift) (xO X.K E oShl) := opII (g := fun i j => .int (i * 2 ^ j.toNat)) op_shl (fun _ _ _ _ _ => RD.mkI) fun S d e z h => by
  unfold oShl at h; split at h
  · split at h
    · cases h; exact ⟨_, _, rfl, rfl, by assumption, rfl⟩
    · cases h
  · cases h
theorem oCmp_inv {p : Int → Int → Bool} {S : Sto} {d e z : D} (h : oCmp p S d e = some z) : ∃ i j, d = .int i ∧ e = .int j ∧ z = .bl (p i j) := by
  unfold oCmp at h; split at h
  · cases h; exact ⟨_, _, rfl, rfl, rfl⟩
  · cases h
theorem xo_lt : OpR X (compareOp .Lt) (xO X.K E oLt) := opII0 (g := fun i j => .bl (decide (i < j))) op_lt (fun _ _ _ _ _ => RD.mkB) fun S d e z h => oCmp_inv h
theorem xo_gt : OpR X (compareOp .Gt) (xO X.K E oGt) := opII0 (g := fun i j => .bl (decide (j < i))) op_gt (fun _ _ _ _ _ => RD.mkB) fun S d e z h => oCmp_inv h
theorem xo_ge : OpR X (compareOp .GtE) (xO X.K E oGe) := opII0 (g := fun i j => .bl (decide (j ≤ i))) op_ge (fun _ _ _ _ _ => RD.mkB) fun S d e z h => oCmp_inv h
theorem eqS_ok {K : PySem.W.Frag} {w : Wd} {H : Hp} {d e : D} {x y : V} {c : Bool} (qd : RD K w H d x) (qe : RD K w H e y) (h : eqS d e = some c) : scal x y = true ∧ decide (x = y) = c := by
  unfold eqS at h
  split at h <;> (try (cases h; done)) <;> (unfold RD at qd qe; subst qd; subst qe; cases h; refine ⟨rfl, ?_⟩; simp)
theorem xo_eq : OpR X (compareOp .Eq) (xO X.K E oEq) := by
  rintro pins s σ H x y v u Q I rx ry ⟨w, S, d, e, hS, qd, qe, p⟩
  obtain ⟨z, hz, p⟩ := p.of
  unfold oEq at hz
  cases h : eqS d e with
  | none => rw [h] at hz; cases hz
  | some c =>
    rw [h] at hz; cases hz
    obtain ⟨h1, h2⟩ := eqS_ok qd qe h
    exact op_eq pins s σ H _ _ v u Q I rx ry ⟨h1, by rw [h2]; exact p.ret RD.mkB hS⟩
theorem xo_ne : OpR X (compareOp .NotEq) (xO X.K E oNe) := by
  rintro pins s σ H x y v u Q I rx ry ⟨w, S, d, e, hS, qd, qe, p⟩
  obtain ⟨z, hz, p⟩ := p.of
  unfold oNe at hz
  cases h : eqS d e with
  | none => rw [h] at hz; cases hz
  | some c =>
    rw [h] at hz; cases hz
    obtain ⟨h1, h2⟩ := eqS_ok qd qe h
    exact op_ne pins s σ H _ _ v u Q I rx ry ⟨h1, by rw [h2]; exact p.ret RD.mkB hS⟩
theorem seq_ok {K : PySem.W.Frag} {w : Wd} {H : Hp} {S : Sto} {d : D} {v : V} {a : List D} (s : RS K w H S) (q : RD K w H d v) (h : seqOf S d = some a) : ∃ p vs, v = .ref p ∧ (SqL K H p vs ∨ SqT K H p vs) ∧ RDs K w H a vs := by
  unfold seqOf at h
  split at h
  · cases h; obtain ⟨p, vs, e, z, r⟩ := q.tupI; exact ⟨p, vs, e, .inr (SqT_of z), r⟩
  · cases h; obtain ⟨p, vs, e, z, r⟩ := q.lstI; exact ⟨p, vs, e, .inl (SqL.of z.1), r⟩
  · cases h; obtain ⟨p, vs, e, z, r⟩ := q.fzI; exact ⟨p, vs, e, .inl z.sq, r⟩
  · split at h
    · rename_i n b hn
      cases h
      obtain ⟨p, e, hp⟩ := q.refI
      obtain ⟨p', hp', vs, hv, r⟩ := s.obj _ _ hn
      rw [hp] at hp'; cases hp'
      exact ⟨p, vs, e, .inl (SqL.of hv), r⟩
    · rename_i n b hn
      cases h
      obtain ⟨p, e, hp⟩ := q.refI
      obtain ⟨p', hp', o, vs, hv, r⟩ := s.obj _ _ hn
      rw [hp] at hp'; cases hp'
      exact ⟨p, vs, e, .inl (.inl (.inr ⟨o, hv⟩)), r⟩
    · cases h
  · cases h
theorem RDs.atI {K : PySem.W.Frag} {w : Wd} {H : Hp} {a : List D} {vs : List V} {i : Int} {d : D} (r : RDs K w H a vs) (h : atI a i = some d) : ∃ v, L2.atI vs i = some v ∧ RD K w H d v := by
  unfold L2.atI at h ⊢
  rw [r.length]
  cases e : ixN a.length i with
  | none => rw [e] at h; cases h
  | some j =>
    rw [e] at h
    obtain ⟨v, ev, rv⟩ := r.get (show a[j]? = some d from h)
    exact ⟨v, ev, rv⟩
theorem xi_ix : IxR X (xO X.K E oIx) := by
  rintro va sl pins s σ H x y v u Q I rx ry ⟨w, S, d, e, hS, qd, qe, p⟩ hsub
  obtain ⟨z, hz, p'⟩ := p.of
  clear p
  unfold oIx at hz
  split at hz
  · rename_i a i ha
    obtain ⟨q, vs, rfl, sq, r⟩ := seq_ok hS qd ha
    cases qe.int
    obtain ⟨v', ev, rv⟩ := r.atI hz
    exact ix_seq va sl pins s σ H _ _ v u Q I rx ry (sq.elim (fun z => .inl ⟨q, vs, i, v', rfl, rfl, z, ev, p'.ret rv hS⟩) fun z => .inr (.inl ⟨q, vs, i, v', rfl, rfl, z, ev, p'.ret rv hS⟩)) hsub
  · cases hz
end
end PD
namespace PD
open PySem PySem.Spec PyProof.Rows L2
section
open PySem.SeqAt
open PySem.AutoSeq1 (wpAny_loadPart')
open PySem.MeetsSeq PySem.MeetsSeq2 PySem.MeetsSeq3
theorem int_rmul_tup (a : Int) (t : Tok) (l : Addr) (items : Array Value) (n : Nat) (dd : Option Addr) (sl : Array (Option Value)) :
    Meets (Builtin.«int.__rmul__» ⟨[.int a t, .ref l], []⟩) (fun _ R s => s.heap.get? l = some { cls := .type "tuple", dict := dd, data := .seq items n, slots := sl } ∧ R (.ok (.ret Value.notImplemented)) s) :=
  .of_wp fun prog w A R s h => by obtain ⟨hp, g, d, tk, os⟩ := s; obtain ⟨hl, h⟩ := h; wp_walk using wpAny_loadPart' hl; exact ⟨_, rfl, h⟩
theorem tup_mul_same (l : Addr) (items : Array Value) (n : Nat) (k : Int) (t : Tok) (dd : Option Addr) (sl : Array (Option Value)) (h1 : ¬ (decide (k < -(2 ^ 63)) || decide (k ≥ 2 ^ 63)) = true) (h2 : (items.isEmpty || k == 1) = true) :
    Meets (Builtin.«tuple.__mul__» ⟨[.ref l, .int k t], []⟩) (fun _ R s => s.heap.get? l = some { cls := .type "tuple", dict := dd, data := .seq items n, slots := sl } ∧ R (.ok (.ret (.ref l))) s) :=
  .of_wp fun prog w A R s h => by obtain ⟨hp, g, d, tk, os⟩ := s; obtain ⟨hl, h⟩ := h; have f1 := AutoSeq1.idx_int; wp_walk using wpAny_loadPart' hl; rw [if_neg h1]; wp_walk using wpAny_loadPart' hl; exact ⟨_, rfl, h⟩
theorem tup_mul_none (l : Addr) (items : Array Value) (n : Nat) (k : Int) (t : Tok) (dd : Option Addr) (sl : Array (Option Value)) (h1 : ¬ (decide (k < -(2 ^ 63)) || decide (k ≥ 2 ^ 63)) = true) (h2 : ¬ (items.isEmpty || k == 1) = true) (h3 : (decide (k ≤ 0) || items.isEmpty) = true) :
    Meets (Builtin.«tuple.__mul__» ⟨[.ref l, .int k t], []⟩) (fun _ R s => s.heap.get? l = some { cls := .type "tuple", dict := dd, data := .seq items n, slots := sl } ∧ R (.ok (.ret (Value.ref s.heap.objs.size))) { s with heap := s.heap.push { cls := Value.type "tuple", data := Data.seq #[] }, toks := s.toks }) :=
  .of_wp fun prog w A R s h => by obtain ⟨hp, g, d, tk, os⟩ := s; obtain ⟨hl, h⟩ := h; have f1 := AutoSeq1.idx_int; wp_walk using wpAny_loadPart' hl; rw [if_neg h1]; wp_walk using wpAny_loadPart' hl; exact ⟨_, rfl, h⟩
theorem tup_mul_more (l : Addr) (items : Array Value) (n : Nat) (k : Int) (t : Tok) (dd : Option Addr) (sl : Array (Option Value)) (h1 : ¬ (decide (k < -(2 ^ 63)) || decide (k ≥ 2 ^ 63)) = true) (h2 : ¬ (items.isEmpty || k == 1) = true) (h3 : ¬ (decide (k ≤ 0) || items.isEmpty) = true)
    (h4 : ¬ (items.size : Int) * k > (2 ^ 63 - 1) / 8) (h5 : ¬ Builtin.Tuple.tupleTooMany ((items.size : Int) * k) = true) (hsz : (List.foldl (fun x1 x2 => x1 ++ x2) #[] (List.replicate k.toNat items)).size ≤ sizeLine) :
    Meets (Builtin.«tuple.__mul__» ⟨[.ref l, .int k t], []⟩) (fun _ R s => s.heap.get? l = some { cls := .type "tuple", dict := dd, data := .seq items n, slots := sl } ∧ R (.ok (.ret (Value.ref s.heap.objs.size))) { s with heap := s.heap.push { cls := Value.type "tuple", data := Data.seq (List.foldl (fun x1 x2 => x1 ++ x2) #[] (List.replicate k.toNat items)) }, toks := s.toks }) :=
  .of_wp fun prog w A R s h => by obtain ⟨hp, g, d, tk, os⟩ := s; obtain ⟨hl, h⟩ := h; have f1 := AutoSeq1.idx_int; wp_walk using wpAny_loadPart' hl; rw [if_neg h1]; wp_walk using wpAny_loadPart' hl; rw [if_neg h4]; wp_walk using wpAny_loadPart' hl; exact ⟨_, rfl, h⟩
end
section
variable {prog : Program} {w : World} {A : Around} {E : Value → Shared → Prop} {s : Shared}
theorem noFill_tuple_mul : fillsNumberSlot (.type "tuple") "mul" = pure false :=
  PySem.fillsNumberSlot_seq (id := "tuple.__mul__") (r := some (.builtin "tuple.__rmul__")) F.slot_tuple_mul.lookup (by decide +kernel) F.slot_tuple_rmul.lookup (by decide +kernel)
theorem repeat_tuple : seqRepeat? (.type "tuple") = pure (some (.builtin "tuple.__mul__")) := by
  unfold seqRepeat?
  rw [PySem.seqSlot_of (T := "tuple") (name := "__mul__") (id := "tuple.__mul__") F.slot_tuple_mul.lookup (by decide +kernel), PySem.seqSlot_of (T := "tuple") (name := "__rmul__") (id := "tuple.__rmul__") F.slot_tuple_rmul.lookup (by decide +kernel)]
  rfl
theorem rep_tup {t : Addr} {vs : List Value} {k : Int} {tk : Tok} {Q : Value → Shared → Prop} (ht : IsTup s.heap t vs.toArray) (h1 : -(2 ^ 63) ≤ k) (h2 : k < 2 ^ 63) (hz : vs.length * k.toNat ≤ sizeLine)
    (q1 : (vs = [] ∨ k = 1) → Q (.ref t) s) (q2 : ¬ (vs = [] ∨ k = 1) → Q (.ref s.heap.objs.size) { s with heap := s.heap.push { cls := .type "tuple", data := .seq (List.replicate k.toNat vs).flatten.toArray } }) :
    wpAny (model prog w) A (binaryOp .Mult (.ref t) (.int k tk)) Q E s := by
  obtain ⟨⟨cls, dd, data, sl⟩, ho, hc, n, hd⟩ := id ht
  simp only at hc hd
  subst hc hd
  have hk : ¬ (decide (k < -(2 ^ 63)) || decide (k ≥ 2 ^ 63)) = true := by simp; omega
  refine wpAny_binaryOp_repeat_ref (T := "tuple") (U := "int") (by decide) ⟨_, ho, rfl⟩ (fun s' => typeIs_int s' k tk) noFill_tuple_mul F.fills_int_mul F.slot_int_rmul repeat_tuple F.slot_int_index.lookup
    (call_meets F.slot_int_rmul (typeIs_int s k tk) F.entry_int_rmul (F.args_int_rmul_2 _ _) (int_rmul_tup k tk t vs.toArray n dd sl) ⟨ho, rfl, ⟨_, ho, rfl⟩, ?_⟩)
  have hfold : ∀ m : Nat, List.foldl (fun x1 x2 => x1 ++ x2) #[] (List.replicate m vs.toArray) = (List.replicate m vs).flatten.toArray := fun m => by
    have := foldl_rep vs m []
    rw [List.nil_append] at this
    exact this
  by_cases c1 : vs = [] ∨ k = 1
  · refine call_meets F.slot_tuple_mul ⟨_, ho, rfl⟩ F.entry_tuple_mul (F.args_tuple_mul_2 _ _) (tup_mul_same t vs.toArray n k tk dd sl hk ?_) ⟨ho, q1 c1⟩
    rcases c1 with rfl | rfl
    · rfl
    · simp
  · have c2 : ¬ (vs.toArray.isEmpty || k == 1) = true := by
      intro z
      rw [Bool.or_eq_true] at z
      rcases z with z | z
      · exact c1 (.inl (by simpa using z))
      · exact c1 (.inr (by simpa using z))
    by_cases c3 : k ≤ 0
    · refine call_meets F.slot_tuple_mul ⟨_, ho, rfl⟩ F.entry_tuple_mul (F.args_tuple_mul_2 _ _) (tup_mul_none t vs.toArray n k tk dd sl hk c2 (by simp [c3])) ⟨ho, ?_⟩
      have := q2 c1
      rw [show k.toNat = 0 by omega] at this
      exact this
    · have c4 : ¬ (decide (k ≤ 0) || vs.toArray.isEmpty) = true := by
        intro z
        rw [Bool.or_eq_true] at z
        rcases z with z | z
        · exact c3 (of_decide_eq_true z)
        · exact c1 (.inl (by simpa using z))
      have hmul : ((vs.toArray.size : Nat) : Int) * k = ((vs.length * k.toNat : Nat) : Int) := by
        rw [List.size_toArray, Int.natCast_mul, Int.toNat_of_nonneg (by omega)]
      have hs0 : (sizeLine : Nat) = 2 ^ 24 := rfl
      refine call_meets F.slot_tuple_mul ⟨_, ho, rfl⟩ F.entry_tuple_mul (F.args_tuple_mul_2 _ _) (tup_mul_more t vs.toArray n k tk dd sl hk c2 c4 ?_ ?_ ?_) ⟨ho, ?_⟩
      · rw [hmul]
        intro z
        have : ((2 : Int) ^ 63 - 1) / 8 ≥ 2 ^ 24 := by decide
        omega
      · rw [hmul]
        unfold Builtin.Tuple.tupleTooMany
        simp only [decide_eq_true_eq]
        intro z
        have z' : ((sizeLine : Nat) : Int) < ((vs.length * k.toNat : Nat) : Int) := z
        omega
      · rw [hfold, List.size_toArray, len_rep, Nat.mul_comm]; exact hz
      · rw [hfold]; exact q2 c1
end
end PD
namespace PD
open PySem PySem.Spec PyProof.Rows L2
section
variable {prog : Program} {w : World} {A : Around} {E : Value → Shared → Prop} {s : Shared}
theorem cat_tup0 {t b : Addr} {ws : List Value} {Q : Value → Shared → Prop} (ht : IsTup s.heap t ([] : List Value).toArray) (hb : IsTup s.heap b ws.toArray) (h : Q (.ref b) s) : wpAny (model prog w) A (binaryOp .Add (.ref t) (.ref b)) Q E s := by
  obtain ⟨⟨cls, dd, data, sl⟩, ho, hc, n, hd⟩ := id ht
  obtain ⟨⟨cls2, dd2, data2, sl2⟩, ho2, hc2, n2, hd2⟩ := id hb
  simp only at hc hd hc2 hd2
  subst hc hd hc2 hd2
  exact concat_meets ⟨_, ho, rfl⟩ ⟨_, ho2, rfl⟩ noFill_tuple_add seq_tuple_add PySem.F.slot_tuple_add PySem.F.entry_tuple_add (PySem.F.args_tuple_add_2 _ _) (tuple_addW0 t b _ ws.toArray n n2 dd dd2 sl sl2 rfl) ⟨ho, ho2, h⟩
open HT in
theorem getItem_tuple_whole {t sl : Addr} {items : Array Value} {vl vu : Value} {lo hi : Option Int} {Q : Value → Shared → Prop} (ht : IsTup s.heap t items) (hs : s.heap.IsSliceOf sl vl vu .none) (pl : IsPart vl lo) (pu : IsPart vu hi)
    (hw : sIx items.size 0 lo = 0 ∧ sIx items.size items.size hi = items.size) (h : Q (.ref t) s) : wpAny (model prog w) A (getItem (.ref t) (.ref sl)) Q E s := by
  obtain ⟨os, hos, hcs, hds⟩ := id hs
  have hTs : s.TypeIs (.ref sl) "slice" := ⟨os, hos, hcs⟩
  unfold getItem
  try with_reducible refine wpAny_holding ?_
  first | refine wpAny_bind (wpAny_pure ?_) | skip
  refine wpAny_bind (wpAny_sequenceKey ht.typeIs (by decide) ?_)
  refine wpAny_bind (wpAny_callSpecial?_slot (name := Str.ofString "__getitem__") ht.typeIs PyProof.Rows.slot_tuple_getitem
    (wpAny_call_entry PyProof.Rows.slot_tuple_getitem ht.typeIs entry_tuple_getitem ?_ (args_tuple_getitem _ _)))
  show wpAny _ _ (Builtin.Tuple.tupleItemsOf (.ref t) >>= _) _ _ s
  refine wpAny_bind (tupleItemsOf_ ht ?_)
  refine wpAny_bind (wpAny_typeOf hTs ?_)
  rw [if_pos (by decide)]
  refine wpAny_bind (sliceApplied_gen hs pl pu ?_)
  have hyes : (((sIx items.size 0 lo : Nat) : Int) == 0 && (1 : Int) == 1 && (sIx items.size items.size hi - sIx items.size 0 lo) == items.size) = true := by
    rw [hw.1, hw.2]; simp
  show wpAny _ _ (if (((sIx items.size 0 lo : Nat) : Int) == 0 && (1 : Int) == 1 && (sIx items.size items.size hi - sIx items.size 0 lo) == items.size) = true then _ else _) _ _ s
  rw [if_pos hyes]
  obtain ⟨ob, hob, hcl, _⟩ := id ht
  have hex : ∀ {Q' : Bool → Shared → Prop}, Q' true s → wpAny (model prog w) A.in1 (Builtin.Tuple.tupleIsExact (.ref t)) Q' E s := fun q => by
    unfold Builtin.Tuple.tupleIsExact
    refine wpAny_bind (wpAny_typeOf ht.typeIs (wpAny_pure ?_))
    exact q
  refine wpAny_bind (hex ?_)
  rw [if_pos rfl]
  first
    | exact wpAny_bind (wpAny_rule (wpAny_pure ⟨_, rfl, wpAny_pure h⟩))
    | exact wpAny_bind (wpAny_rule (wpAny_bind (wpAny_pure ⟨_, rfl, wpAny_pure h⟩)))
    | exact wpAny_bind (wpAny_rule (wpAny_bind (wpAny_pure (wpAny_pure ⟨_, rfl, wpAny_pure h⟩))))
    | exact wpAny_bind (wpAny_bind (wpAny_rule (wpAny_pure (wpAny_pure ⟨_, rfl, wpAny_pure h⟩))))
end
end PD
namespace PD
open PySem PySem.Spec PyProof.Rows L2
section
variable {X : Cx} {E : XK}
theorem sameTup {K : PySem.W.Frag} {w : Wd} {H : Hp} {p : Addr} {vs : List V} {ds : List D} (z : At w H p (.tup vs) ∨ KTup K p vs) (r : RDs K w H ds vs) : RD K w H (.tup ds) (.ref p) := by
  unfold RD; exact ⟨p, vs, rfl, z, r⟩
theorem xo_add : OpR X (binaryOp .Add) (xO X.K E oAdd) := by
  rintro pins s σ H x y v u Q I rx ry ⟨w, S, d, e, hS, qd, qe, p⟩
  obtain ⟨z, hz, p'⟩ := p.of
  clear p
  unfold oAdd at hz
  split at hz
  · cases hz
    cases qd.int
    cases qe.int
    exact op_add pins s σ H _ _ v u Q I rx ry ⟨_, _, rfl, rfl, p'.ret RD.mkI hS⟩
  · split at hz
    · cases hz
      cases qd.str
      cases qe.str
      exact op_add_str pins s σ H _ _ v u Q I rx ry ⟨_, _, rfl, rfl, by assumption, p'.ret RD.mkS hS⟩
    · cases hz
  · split at hz
    · rename_i S' a b hl
      cases hz
      obtain ⟨pa, xs, rfl, za, ra⟩ := qd.tupI
      obtain ⟨pb, ys, rfl, zb, rb⟩ := qe.tupI
      by_cases ha : a = []
      · subst ha
        have hxs := ra.nil_inv
        subst hxs
        cases rx
        cases ry
        obtain ⟨its, r1, p1, _⟩ := I.tuple (SqT_of za)
        obtain ⟨its2, r2, p2, _⟩ := I.tuple (SqT_of zb)
        have : its = [] := r1.nil_iff.mpr rfl
        subst this
        exact cat_tup0 p1 p2 ⟨.ref pb, H, I, rfl, p'.ret (sameTup zb rb) hS⟩
      · refine op_catT pins s σ H _ _ v u Q I rx ry ⟨pa, pb, xs, ys, rfl, rfl, SqT_of za, SqT_of zb, fun z => ha ?_, by rw [ra.length, rb.length]; exact hl, fun z => ?_, fun z q hq => ?_⟩
        · have := ra.length
          rw [z] at this
          exact List.length_eq_zero_iff.mp this.symm
        · have hb : b = [] := by
            have := rb.length
            rw [z] at this
            exact List.length_eq_zero_iff.mp this.symm
          subst hb
          rw [List.append_nil] at p'
          exact p'.ret (sameTup za ra) hS
        · exact p'.at (Ext.new hq) (RD.newTup hS hq (ra.append rb)) (hS.new hq)
    · cases hz
  · split at hz
    · rename_i S' a b hl
      cases hz
      obtain ⟨pa, xs, rfl, za, ra⟩ := qd.lstI
      obtain ⟨pb, ys, rfl, zb, rb⟩ := qe.lstI
      exact op_cat pins s σ H _ _ v u Q I rx ry ⟨pa, pb, xs, ys, rfl, rfl, za.1, zb.1, by rw [ra.length, rb.length]; exact hl, fun q hq => p'.at (Ext.new hq) (RD.newLst hS hq (ra.append rb)) (hS.new hq)⟩
    · cases hz
  · cases hz
theorem RDs.rep {K : PySem.W.Frag} {w : Wd} {H : Hp} {ds : List D} {vs : List V} (r : RDs K w H ds vs) : ∀ k : Nat, RDs K w H (List.replicate k ds).flatten (List.replicate k vs).flatten
  | 0 => by simp; exact .nil
  | k + 1 => by
    rw [List.replicate_succ, List.replicate_succ, List.flatten_cons, List.flatten_cons]
    exact r.append (RDs.rep r k)
theorem xo_mul : OpR X (binaryOp .Mult) (xO X.K E oMul) := by
  rintro pins s σ H x y v u Q I rx ry ⟨w, S, d, e, hS, qd, qe, p⟩
  obtain ⟨z, hz, p'⟩ := p.of
  clear p
  unfold oMul at hz
  split at hz
  · split at hz
    · cases hz
      cases qd.int
      cases qe.int
      exact op_mul pins s σ H _ _ v u Q I rx ry ⟨_, _, rfl, rfl, by assumption, p'.ret RD.mkI hS⟩
    · cases hz
  · split at hz
    · rename_i S' a k hl
      cases hz
      obtain ⟨pa, xs, rfl, za, ra⟩ := qd.tupI
      cases qe.int
      cases rx
      obtain ⟨t, rfl⟩ := ry
      obtain ⟨its, r1, p1, _⟩ := I.tuple (SqT_of za)
      have e1 : its.length = a.length := by rw [← r1.length, ra.length]
      refine rep_tup p1 hl.1 hl.2.1 (by rw [e1]; exact hl.2.2) (fun c => ?_) fun c => ?_
      · refine ⟨.ref pa, H, I, rfl, ?_⟩
        have : (List.replicate k.toNat a).flatten = a := by
          rcases c with c | c
          · have : a = [] := by rw [c] at e1; exact List.length_eq_zero_iff.mp e1.symm
            subst this; simp
          · subst c; simp
        rw [this] at p'
        exact p'.ret (sameTup za ra) hS
      · have hn : H s.heap.objs.size = none := I.hok.fresh (Nat.le_refl _)
        refine ⟨.ref s.heap.objs.size, _, I.laid (t' := s.toks) (o := .tup (List.replicate k.toNat xs).flatten) (fun b ob q => Heap.get?_push_of_some _ q) (Nat.le_refl _) ?_, rfl, p'.at (Ext.new hn) (RD.newTup hS hn (ra.rep _)) (hS.new hn)⟩
        exact ⟨by rw [len_rep, Nat.mul_comm, ra.length]; exact hl.2.2, _, r1.rep _, IsTup.new _ _⟩
    · cases hz
  · split at hz
    · rename_i S' a k hl
      cases hz
      obtain ⟨pa, xs, rfl, za, ra⟩ := qd.lstI
      cases qe.int
      exact op_rep pins s σ H _ _ v u Q I rx ry ⟨pa, k, xs, rfl, rfl, za.1, hl.1, hl.2.1, by rw [ra.length]; exact hl.2.2, fun q hq => p'.at (Ext.new hq) (RD.newLst hS hq (ra.rep _)) (hS.new hq)⟩
    · cases hz
  · cases hz
theorem se_ix {a b : Expr} {ma mb : EM} {pos : Pos} {f : Sto → D → D → Option D} (hr : IxR X (xO X.K E f)) (ha : SE X E a ma) (hb : SE X E b mb) (hs : PlainIx b := by intro _ _; kernel_rfl) : SE X E (.Subscript a b pos) (eOp f ma mb) := ⟨
  pe_weak (pe_ix hr ha.out hb.out hs) fun s H Q ⟨w, r, S, hr, hS, hp⟩ => ⟨w, r, S, hr, hS, hp.bind hS fun d S1 w1 H1 v x1 q1 s1 p1 =>
    ⟨w1, r, S1, hr.ext x1, s1, p1.bind s1 fun e S2 w2 H2 u x2 q2 s2 p2 => ⟨w2, S2, d, e, s2, RD.ext x2 d v q1, q2, p2⟩⟩⟩⟩
abbrev OM := Rho → Sto → R (Option Int)
def ROp (w : Wd) (H : Hp) (a b : Option Int) : Prop := b = a
def uO (K : PySem.W.Frag) (E : XK) (m : OM) : TO := fun s H Q => ∃ w r S, RSt K w H r s ∧ RS K w H S ∧ Post K E ROp w H (m r S) Q
def oNo : OM := fun _ S => .ok none S
def oPart (a : EM) : OM := fun r S => (a r S).bind fun x S1 => match x with
  | .int i => .ok (some i) S1
  | _ => .bad
abbrev SO' (X : Cx) (E : XK) (e : Option Expr) (m : OM) : Prop := Bx (PO X e (uO X.K E m))
theorem so_none : SO' X E none oNo := ⟨fun pins s σ H Q I ⟨w, r, S, hr, hS, hp⟩ => po_none pins s σ H Q I (hp.ret rfl hS)⟩
theorem so_some {a : Expr} {ma : EM} (ha : SE X E a ma) : SO' X E (some a) (oPart ma) := ⟨fun pins s σ H Q I ⟨w, r, S, hr, hS, hp⟩ => po_some ha.out pins s σ H Q I
  ⟨w, r, S, hr, hS, hp.bind hS fun d S1 w1 H1 v x1 q1 s1 p1 => by
    cases d with
    | int i => cases q1.int; exact ⟨i, rfl, p1.ret rfl s1⟩
    | _ => exact p1.elim⟩⟩
def xL (K : PySem.W.Frag) (E : XK) (f : Sto → D → Option Int → Option Int → Option D) : V → Option Int → Option Int → Hp → VK → Prop := fun x lo hi H Q => ∃ w S d, RS K w H S ∧ RD K w H d x ∧ Post K E (RD K) w H (R.of S (f S d lo hi)) Q
def eSl (f : Sto → D → Option Int → Option Int → Option D) (a : EM) (lo hi : OM) : EM := fun r S => (a r S).bind fun x S1 => (lo r S1).bind fun l S2 => (hi r S2).bind fun u S3 => R.of S3 (f S3 x l u)
theorem se_sl {a : Expr} {ma : EM} {lo hi : Option Expr} {ml mh : OM} {p2 pos : Pos} {f : Sto → D → Option Int → Option Int → Option D} (hf : SlR X (xL X.K E f)) (ha : SE X E a ma) (hl : SO' X E lo ml) (hh : SO' X E hi mh) :
    SE X E (.Subscript a (.Slice lo hi none p2) pos) (eSl f ma ml mh) := ⟨
  pe_weak (pe_slice hf ha.out hl.out hh.out) fun s H Q ⟨w, r, S, hr, hS, hp⟩ => ⟨w, r, S, hr, hS, hp.bind hS fun d S1 w1 H1 v x1 q1 s1 p1 =>
    ⟨w1, r, S1, hr.ext x1, s1, p1.bind s1 fun l S2 w2 H2 l' x2 q2 s2 p2 => ⟨w2, r, S2, (hr.ext x1).ext x2, s2, p2.bind s2 fun u S3 w3 H3 u' x3 q3 s3 p3 => by
      have e1 : l' = l := q2
      have e2 : u' = u := q3
      subst e1 e2
      exact ⟨w3, S3, d, s3, RD.ext x3 _ _ (RD.ext x2 _ _ q1), p3⟩⟩⟩⟩⟩
def fSlT : Sto → D → Option Int → Option Int → Option D
  | _, .tup a, lo, hi => some (.tup (cutD a lo hi))
  | _, .lst a, lo, hi => some (.lst (cutD a lo hi))
  | _, _, _, _ => none
theorem RDs.cut {K : PySem.W.Frag} {w : Wd} {H : Hp} {ds : List D} {vs : List V} (r : RDs K w H ds vs) (lo hi : Option Int) : RDs K w H (cutD ds lo hi) (cutV vs lo hi) := by
  unfold cutD cutV
  rw [r.length]
  exact (r.drop _).take _
theorem xl_tup : SlR X (xL X.K E fSlT) := by
  rintro pins s σ H x v vl vu lo hi sl Q I rx hs pl pu ⟨w, S, d, hS, qd, p⟩
  obtain ⟨z, hz, p'⟩ := p.of
  clear p
  unfold fSlT at hz
  split at hz
  · rename_i a
    cases hz
    obtain ⟨pa, xs, rfl, za, ra⟩ := qd.tupI
    by_cases hw : HT.sIx xs.length 0 lo = 0 ∧ HT.sIx xs.length xs.length hi = xs.length
    · cases rx
      obtain ⟨its, r, ht, hz⟩ := I.tuple (SqT_of za)
      have hlen : its.toArray.size = xs.length := by rw [List.size_toArray]; exact r.length.symm
      refine ⟨"tuple", _, PyProof.Rows.slot_tuple_getitem.lookup, ht.typeIs, ?_⟩
      refine getItem_tuple_whole ht hs pl pu (by rw [hlen]; exact hw) ⟨.ref pa, H, I, rfl, ?_⟩
      have e : cutD a lo hi = a := by
        unfold cutD
        rw [← ra.length, hw.1, hw.2]
        rw [List.drop_zero, Nat.sub_zero, ra.length, List.take_length]
      rw [e] at p'
      exact p'.ret (sameTup za ra) hS
    · exact sl_tup pins s σ H _ v vl vu lo hi sl Q I rx hs pl pu ⟨pa, xs, rfl, SqT_of za, hw, fun q hq => p'.at (Ext.new hq) (RD.newTup hS hq (ra.cut lo hi)) (hS.new hq)⟩
  · rename_i a
    cases hz
    obtain ⟨pa, xs, rfl, za, ra⟩ := qd.lstI
    exact sl_list pins s σ H _ v vl vu lo hi sl Q I rx hs pl pu ⟨pa, xs, rfl, SqL.of za.1, fun q hq => p'.at (Ext.new hq) (RD.newLst hS hq (ra.cut lo hi)) (hS.new hq)⟩
  · cases hz
def fLen : Sto → List D → Option D
  | _, [.str x] => if x.length ≤ sizeLine then some (.int x.length) else none
  | _, [.dic x] => some (.int x.length)
  | S, [d] => match seqOf S d with
    | some a => some (.int a.length)
    | none => match d with
      | .ref n => match S[n]? with
        | some (.dic kvs) => some (.int kvs.length)
        | _ => none
      | _ => none
  | _, _ => none
theorem RDk.length {K : PySem.W.Frag} {w : Wd} {H : Hp} : ∀ {ds : List (Sum Int Str × D)} {vs : List (Key × V)}, RDk K w H ds vs → vs.length = ds.length
  | [], _, h => by unfold RDk at h; rw [h]; rfl
  | (k, d) :: ds, _, h => by
    unfold RDk at h
    obtain ⟨v, r, rfl, _, q⟩ := h
    simp [RDk.length q]
theorem xc_len : CallR X (.builtin "len") (xC X.K E fLen) := by
  rintro pins s σ H xs us Q I r ⟨w, S, ds, hS, qs, p⟩
  obtain ⟨z, hz, p'⟩ := p.of
  clear p
  unfold fLen at hz
  split at hz
  · split at hz
    · cases hz
      obtain ⟨v, rfl, q⟩ := qs.one_inv
      cases q.str
      exact call_len_str pins s σ H _ us Q I r ⟨_, rfl, by assumption, p'.ret RD.mkI hS⟩
    · cases hz
  · cases hz
    obtain ⟨v, rfl, q⟩ := qs.one_inv
    unfold RD at q
    obtain ⟨a, uu, rfl, z, rk⟩ := q
    exact call_lenD pins s σ H _ us Q I r ⟨_, _, rfl, z.1, by rw [rk.length]; exact p'.ret RD.mkI hS⟩
  · obtain ⟨v, rfl, q⟩ := qs.one_inv
    split at hz
    · rename_i a ha
      cases hz
      obtain ⟨pp, vs, rfl, sq, ra⟩ := seq_ok hS q ha
      exact call_len_seq pins s σ H _ us Q I r ⟨pp, vs, rfl, sq, by rw [ra.length]; exact p'.ret RD.mkI hS⟩
    · split at hz
      · split at hz
        · rename_i n kvs hn
          cases hz
          obtain ⟨pp, rfl, hp⟩ := q.refI
          obtain ⟨p2, hp2, vs, hv, rk⟩ := hS.obj _ _ hn
          rw [hp] at hp2; cases hp2
          exact call_lenD pins s σ H _ us Q I r ⟨_, _, rfl, hv, by rw [rk.length]; exact p'.ret RD.mkI hS⟩
        · cases hz
      · cases hz
  · cases hz
def fMax : Sto → List D → Option D
  | _, [.int i, .int j] => some (.int (if j > i then j else i))
  | _, _ => none
theorem xc_max (hc : X.calm = true) : CallR X (.builtin "max") (xC X.K E fMax) := by
  rintro pins s σ H xs us Q I r ⟨w, S, ds, hS, qs, p⟩
  obtain ⟨z, hz, p'⟩ := p.of
  clear p
  unfold fMax at hz
  split at hz
  · cases hz
    obtain ⟨v, u, rfl, q, q'⟩ := qs.two_inv
    cases q.int
    cases q'.int
    exact call_max2 hc pins s σ H _ us Q I r ⟨_, _, rfl, p'.ret RD.mkI hS⟩
  · cases hz
def fMin : Sto → List D → Option D
  | _, [.int i, .int j] => some (.int (if j < i then j else i))
  | _, _ => none
theorem xc_min (hc : X.calm = true) : CallR X (.builtin "min") (xC X.K E fMin) := by
  rintro pins s σ H xs us Q I r ⟨w, S, ds, hS, qs, p⟩
  obtain ⟨z, hz, p'⟩ := p.of
  clear p
  unfold fMin at hz
  split at hz
  · cases hz
    obtain ⟨v, u, rfl, q, q'⟩ := qs.two_inv
    cases q.int
    cases q'.int
    exact call_min2 hc pins s σ H _ us Q I r ⟨_, _, rfl, p'.ret RD.mkI hS⟩
  · cases hz
def fDivmod : Sto → List D → Option D
  | _, [.int i, .int j] => if 0 < j ∧ j < 1073741824 then some (.tup [.int (i / j), .int (i % j)]) else none
  | _, _ => none
theorem xc_divmod : CallR X (.builtin "divmod") (xC X.K E fDivmod) := by
  rintro pins s σ H xs us Q I r ⟨w, S, ds, hS, qs, p⟩
  obtain ⟨z, hz, p'⟩ := p.of
  clear p
  unfold fDivmod at hz
  split at hz
  · split at hz
    · cases hz
      obtain ⟨v, u, rfl, q, q'⟩ := qs.two_inv
      cases q.int
      cases q'.int
      exact call_divmod pins s σ H _ us Q I r ⟨_, _, rfl, by assumption, fun t ht => p'.at (Ext.new ht) (RD.newTup hS ht (.cons RD.mkI (.cons RD.mkI .nil))) (hS.new ht)⟩
    · cases hz
  · cases hz
def fTuple : Sto → List D → Option D
  | _, [.tup a] => some (.tup a)
  | S, [d] => (seqOf S d).map .tup
  | _, _ => none
theorem xc_tuple : CallR X (.type "tuple") (xC X.K E fTuple) := by
  rintro pins s σ H xs us Q I r ⟨w, S, ds, hS, qs, p⟩
  obtain ⟨z, hz, p'⟩ := p.of
  clear p
  unfold fTuple at hz
  split at hz
  · cases hz
    obtain ⟨v, rfl, q⟩ := qs.one_inv
    obtain ⟨pa, vs, rfl, za, ra⟩ := q.tupI
    exact call_tuple_of pins s σ H _ us Q I r ⟨pa, vs, rfl, .inr ⟨SqT_of za, p'.ret (sameTup za ra) hS⟩⟩
  · rename_i d hd
    obtain ⟨v, rfl, q⟩ := qs.one_inv
    cases ha : seqOf S d with
    | none => rw [ha] at hz; cases hz
    | some a =>
      rw [ha] at hz
      cases hz
      have hq : ∃ pa vs, v = .ref pa ∧ SqL X.K H pa vs ∧ RDs X.K w H a vs := by
        unfold seqOf at ha
        split at ha
        · exact (hd _ rfl).elim
        · cases ha; obtain ⟨p, vs, e, z, r⟩ := q.lstI; exact ⟨p, vs, e, SqL.of z.1, r⟩
        · cases ha; obtain ⟨p, vs, e, z, r⟩ := q.fzI; exact ⟨p, vs, e, z.sq, r⟩
        · split at ha
          · rename_i n b hn
            cases ha
            obtain ⟨p, e, hp⟩ := q.refI
            obtain ⟨p2, hp2, vs, hv, rk⟩ := hS.obj _ _ hn
            rw [hp] at hp2; cases hp2
            exact ⟨p, vs, e, SqL.of hv, rk⟩
          · rename_i n b hn
            cases ha
            obtain ⟨p, e, hp⟩ := q.refI
            obtain ⟨p2, hp2, o, vs, hv, rk⟩ := hS.obj _ _ hn
            rw [hp] at hp2; cases hp2
            exact ⟨p, vs, e, .inl (.inr ⟨o, hv⟩), rk⟩
          · cases ha
        · cases ha
      obtain ⟨pa, vs, rfl, sq, ra⟩ := hq
      exact call_tuple_of pins s σ H _ us Q I r ⟨pa, vs, rfl, .inl ⟨sq, fun t ht => p'.at (Ext.new ht) (RD.newTup hS ht ra) (hS.new ht)⟩⟩
  · cases hz
end
end PD
namespace PD
open PySem PySem.Spec PyProof.Rows L2
section
variable {X : Cx} {E : XK}
def boolsOf : List D → Option (List Bool)
  | [] => some []
  | .bl b :: r => (boolsOf r).map (b :: ·)
  | _ :: _ => none
def fAll : Sto → List D → Option D
  | _, [.lst a] => (boolsOf a).map fun bs => .bl (bs.all id)
  | _, _ => none
theorem bools_ok {K : PySem.W.Frag} {w : Wd} {H : Hp} : ∀ {ds : List D} {vs : List V} {us : List Value} {bs : List Bool}, RDs K w H ds vs → Vals vs us → boolsOf ds = some bs → LSm.BoolsAre us bs
  | [], _, _, _, q, r, h => by
    rw [q.nil_inv] at r
    cases r
    unfold boolsOf at h
    cases h
    exact .nil
  | d :: ds, _, _, bs, q, r, h => by
    obtain ⟨v, vs, rfl, p, t⟩ := q.cons_inv
    cases d with
    | bl b =>
      unfold boolsOf at h
      cases e : boolsOf ds with
      | none => rw [e] at h; cases h
      | some cs =>
        rw [e] at h; cases h
        cases p.bl
        cases r with
        | cons r1 r2 =>
          cases r1
          exact .cons b (bools_ok t r2 e)
    | _ => unfold boolsOf at h; cases h
theorem xc_all (hc : X.calm = true) : CallR X (.builtin "all") (xC X.K E fAll) := by
  rintro pins s σ H xs us Q I r ⟨w, S, ds, hS, qs, p⟩
  obtain ⟨z, hz, p'⟩ := p.of
  clear p
  unfold fAll at hz
  split at hz
  · rename_i a
    cases e : boolsOf a with
    | none => rw [e] at hz; cases hz
    | some bs =>
      rw [e] at hz; cases hz
      obtain ⟨v, rfl, q⟩ := qs.one_inv
      obtain ⟨pa, vs, rfl, za, ra⟩ := q.lstI
      obtain ⟨u, rfl, ru⟩ := vals1 r
      cases ru
      obtain ⟨its, r1, ⟨o, n, ho, hcl, hdn, hd⟩, _⟩ := I.list (SqL.of za.1)
      have hb := bools_ok ra r1 e
      have hlt : pa < s.heap.objs.size := Heap.lt_size ho
      have hl : s.heap.IsList pa its.toArray := ⟨o, ho, hcl, n, hd⟩
      refine call_all_walk (wpAny_pyIter_list hl ?_)
      refine ⟨s.heap.objs.size, [s.heap.objs.size, pa], [s.heap.objs.size], its.toArray.size, _, _, fun i => (bs[i]?).getD true, rfl, Walks.list (A := X.A.in1) (I.ok.hd hc) _ pa (Nat.ne_of_lt hlt) its.toArray,
        ⟨⟨_, Heap.get?_push_size _ rfl, rfl, rfl⟩, hl.push _⟩, fun i v s' Q' E' hP hQ => ?_, fun h' tk hk => ?_⟩
      · obtain ⟨b, e, rfl⟩ := hb.get i v (by simpa using hP)
        simp only [e, Option.getD_some] at hQ
        exact wpAny_truthy_bool hQ
      · have e : ((List.range its.toArray.size).all fun i => (bs[i]?).getD true) = bs.all id := by
          rw [List.size_toArray, hb.length]; exact LSm.range_all bs
        rw [e]
        exact ⟨.bl _, H, I.kept (LSm.kept_iter hk), rfl, p'.ret RD.mkB hS⟩
  · cases hz
def tyD (S : Sto) : D → Option String
  | .non => some "NoneType"
  | .bl _ => some "bool"
  | .int _ => some "int"
  | .str _ => some "str"
  | .tup _ => some "tuple"
  | .lst _ => some "list"
  | .fz _ => none
  | .dic _ => some "dict"
  | .ref n => match S[n]? with
    | some (.lst _) => some "list"
    | some (.dic _) => some "dict"
    | _ => none
  | .ty _ => none
  | .exc _ => none
  | .cls _ => none
def isiTys : List String := ["int", "bool", "tuple", "str", "list", "dict"]
def fIsi : Sto → List D → Option D
  | S, [d, .ty T] => match tyD S d with
    | some t => if T ∈ isiTys then some (.bl (t == T || (t == "bool" && T == "int"))) else none
    | none => none
  | _, _ => none
theorem kit_ok (K : PySem.W.Frag) {t T : String} (ht : t ∈ ["NoneType", "bool", "int", "str", "tuple", "list", "dict"]) (hT : T ∈ isiTys) : PySem.W.kitOne K (.type t) (.type T) = some (t == T || (t == "bool" && T == "int")) := by
  unfold isiTys at hT
  simp only [List.mem_cons, List.not_mem_nil, or_false] at ht hT
  rcases ht with rfl | rfl | rfl | rfl | rfl | rfl | rfl <;> rcases hT with rfl | rfl | rfl | rfl | rfl | rfl <;> first | rfl | (with_unfolding_all rfl) | (unfold PySem.W.kitOne PySem.W.kitCls; with_unfolding_all decide)
theorem tyOf_ok {K : PySem.W.Frag} {w : Wd} {H : Hp} {S : Sto} {d : D} {v : V} {t : String} (hS : RS K w H S) (q : RD K w H d v) (h : tyD S d = some t) (hk : ∀ a vs, ¬ KTup K a vs ∨ True) :
    (L2.TyOf K H v (.type t) ∨ ∃ a vs, v = .ref a ∧ t = "tuple" ∧ KTup K a vs) ∧ t ∈ ["NoneType", "bool", "int", "str", "tuple", "list", "dict"] := by
  cases d with
  | non => cases q.non; cases h; exact ⟨.inl .non, by simp⟩
  | bl b => cases q.bl; cases h; exact ⟨.inl (.bl b), by simp⟩
  | int i => cases q.int; cases h; exact ⟨.inl (.int i), by simp⟩
  | str x => cases q.str; cases h; exact ⟨.inl (.str x), by simp⟩
  | tup ds =>
    obtain ⟨p, vs, rfl, z, _⟩ := q.tupI
    cases h
    refine ⟨?_, by simp⟩
    rcases z with z | z
    · exact .inl (.tup z.1)
    · exact .inr ⟨p, vs, rfl, rfl, z⟩
  | lst ds => obtain ⟨p, vs, rfl, z, _⟩ := q.lstI; cases h; exact ⟨.inl (.lst z.1), by simp⟩
  | fz ds => cases h
  | dic kvs => unfold RD at q; obtain ⟨p, us, rfl, z, _⟩ := q; cases h; exact ⟨.inl (.dK z.1), by simp⟩
  | ref n =>
    obtain ⟨p, rfl, hp⟩ := q.refI
    unfold tyD at h
    simp only at h
    cases e : S[n]? with
    | none => rw [e] at h; cases h
    | some o =>
      rw [e] at h
      obtain ⟨p', hp', r⟩ := hS.obj n o e
      rw [hp] at hp'; cases hp'
      cases o with
      | lst a => cases h; obtain ⟨vs, hv, _⟩ := r; exact ⟨.inl (.lst hv), by simp⟩
      | dic a => cases h; obtain ⟨vs, hv, _⟩ := r; exact ⟨.inl (.dK hv), by simp⟩
      | fdic a => cases h
      | ins c fs => cases h
      | flst a => cases h
  | ty n => cases h
  | exc c => cases h
  | cls c => cases h
theorem xc_isi : CallR X (.builtin "isinstance") (xC X.K E fIsi) := by
  rintro pins s σ H xs us Q I r ⟨w, S, ds, hS, qs, p⟩
  obtain ⟨z, hz, p'⟩ := p.of
  clear p
  unfold fIsi at hz
  split at hz
  · rename_i d T
    split at hz
    · rename_i t ht
      split at hz
      · rename_i hT
        cases hz
        obtain ⟨v, u, rfl, q, q'⟩ := qs.two_inv
        unfold RD at q'
        subst q'
        obtain ⟨v1, v2, rfl, rv, rt⟩ := vals2 r
        cases (show v2 = Value.type T from rt)
        obtain ⟨ty, hm⟩ := tyOf_ok hS q ht fun _ _ => .inr trivial
        have kk := kit_ok X.K hm hT
        rcases ty with ty | ⟨a, vs, rfl, rfl, kt⟩
        · exact isinst_ok I rv ty kk fun tk => ⟨.bl _, H, I.tok tk, rfl, p'.ret RD.mkB hS⟩
        · cases (show v1 = Value.ref a from rv)
          obtain ⟨o, its, n, e, hcl, _⟩ := kt
          exact PySem.W.kia_one PySem.W.kitx_tuple I.kIn ⟨o, I.kIn _ _ e, hcl⟩ kk (fun z => nomatch z) fun tk => ⟨.bl _, H, I.tok tk, rfl, p'.ret RD.mkB hS⟩
      · cases hz
    · cases hz
  · cases hz
def fPut : Sto → D → D → D → Option Sto
  | S, .ref n, .int i, v => match S[n]? with
    | some (.lst a) => (ixN a.length i).map fun j => S.set n (.lst (a.set j v))
    | _ => none
  | _, _, _, _ => none
theorem xs_put : PSet X (xS X.K fPut) := by
  rintro pins s σ H o i v ov iv u Q I ro ri ru ⟨w, S, x, y, z, S', hS, qx, qy, qz, hf, k⟩
  unfold fPut at hf
  split at hf
  · rename_i n j
    split at hf
    · rename_i a hn
      cases e : ixN a.length j with
      | none => rw [e] at hf; cases hf
      | some m =>
        rw [e] at hf; cases hf
        obtain ⟨p, rfl, hp⟩ := qx.refI
        cases qy.int
        obtain ⟨p', hp', vs, hv, ra⟩ := hS.obj _ _ hn
        rw [hp] at hp'; cases hp'
        have hm : p ∈ w.st := List.mem_of_getElem? hp
        refine set_list pins s σ H _ _ _ ov iv u Q I ro ri ru ⟨p, vs, j, m, rfl, rfl, hv, by rw [ra.length]; exact e, k w _ (Ext.mut hm hv) ?_⟩
        exact hS.mut hp hv ⟨_, upd_same, RDs.ext (Ext.mut hm hv) _ _ (RDs.set qz m ra)⟩
    · cases hf
  · cases hf
def xM (K : PySem.W.Frag) (E : XK) (f : Sto → D → List D → R D) : V → List V → Hp → VK → Prop := fun x xs H Q => ∃ w S d ds, RS K w H S ∧ RD K w H d x ∧ RDs K w H ds xs ∧ Post K E (RD K) w H (f S d ds) Q
def isL (S : Sto) : D → Bool
  | .lst _ => true
  | .fz _ => true
  | .ref n => match S[n]? with
    | some (.lst _) => true
    | _ => false
  | _ => false
theorem isL_ok {K : PySem.W.Frag} {w : Wd} {H : Hp} {S : Sto} {d : D} {v : V} (hS : RS K w H S) (q : RD K w H d v) (h : isL S d = true) : tyV K "list" v H := by
  cases d with
  | lst ds => obtain ⟨p, vs, rfl, z, _⟩ := q.lstI; exact .inl ⟨rfl, vs, SqL.of z.1⟩
  | fz ds => obtain ⟨p, vs, rfl, z, _⟩ := q.fzI; exact .inl ⟨rfl, vs, z.sq⟩
  | ref n =>
    obtain ⟨p, rfl, hp⟩ := q.refI
    unfold isL at h
    simp only at h
    cases e : S[n]? with
    | none => rw [e] at h; cases h
    | some o =>
      rw [e] at h
      cases o with
      | lst a =>
        obtain ⟨p', hp', vs, hv, _⟩ := hS.obj n _ e
        rw [hp] at hp'; cases hp'
        exact .inl ⟨rfl, vs, SqL.of hv⟩
      | _ => cases h
  | _ => cases h
def eMtL (f : Sto → D → List D → R D) (o : EM) (t : AM) : EM := fun r S => (o r S).bind fun x S1 => if isL S1 x = true then (t r S1).bind fun ys S2 => f S2 x ys else .bad
theorem se_mtL {o e : Expr} {es : List Expr} {mo : EM} {ms : AM} {name : Str} {apos cpos : Pos} {id : String} {f : Sto → D → List D → R D} (pa : PlainAttrs "list") (slot : Slot "list" name id) (hty : typeOf (.builtin id) = pure (.type "method_descriptor")) (hm : MtR X id (xM X.K E f))
    (ho : SE X E o mo) (ha : SA X E (e :: es) ms) (hbase : attributeBase o name X.env (eval o X.env) = eval o X.env := by kernel_rfl)
    (hfew : ((backTo cpos (starEach (e :: es) X.env)).all (fun x => !x.1) && (backToKw cpos (keywordEach [] X.env)).all (fun x => x.1.isSome)
      && decide ((e :: es).length + ([] : List Keyword).length + (if ([] : List Keyword).isEmpty then 0 else 1) < 30)) = true := by kernel_rfl)
    (hline : (apos.endLine == cpos.line) = true := by kernel_rfl) (hs : starEach (e :: es) X.env = (false, eval e X.env) :: starEach es X.env := by kernel_rfl) (hplain : (backTo cpos (starEach es X.env)).any (·.1) = false := by kernel_rfl) :
    SE X E (.Call (.Attribute o name apos) (e :: es) [] cpos) (eMtL f mo ms) := ⟨
  pe_weak (pe_bm pa slot hty hm ho.out ha.out hbase hfew hline hs hplain) fun s H Q ⟨w, r, S, hr, hS, hp⟩ => ⟨w, r, S, hr, hS, hp.bind hS fun d S1 w1 H1 v x1 q1 s1 p1 => by
    by_cases hl : isL S1 d = true
    · rw [if_pos hl] at p1
      exact ⟨isL_ok s1 q1 hl, w1, r, S1, hr.ext x1, s1, p1.bind s1 fun ds S2 w2 H2 us x2 q2 s2 p2 => ⟨w2, S2, d, ds, s2, RD.ext x2 _ _ q1, q2, p2⟩⟩
    · rw [if_neg hl] at p1
      exact p1.elim⟩⟩
def mAppend : Sto → D → List D → R D
  | S, .ref n, [v] => match S[n]? with
    | some (.lst a) => if a.length < sizeLine then .ok .non (S.set n (.lst (a ++ [v]))) else .bad
    | _ => .bad
  | _, _, _ => .bad
theorem xm_append : MtR X "list.append" (xM X.K E mAppend) := by
  rintro pins s σ H x xs v us Q I rx rs ⟨w, S, d, ds, hS, qd, qs, p⟩
  unfold mAppend at p
  split at p
  · rename_i n y
    split at p
    · rename_i a hn
      split at p
      · rename_i hl
        obtain ⟨pp, rfl, hp⟩ := qd.refI
        obtain ⟨yv, rfl, qy⟩ := qs.one_inv
        obtain ⟨p', hp', vs, hv, ra⟩ := hS.obj _ _ hn
        rw [hp] at hp'; cases hp'
        have hm : pp ∈ w.st := List.mem_of_getElem? hp
        refine mt_append pins s σ H _ _ v us Q I rx rs ⟨pp, vs, yv, rfl, rfl, hv, by rw [ra.length]; exact hl, p.at (Ext.mut hm hv) (by unfold RD; rfl) ?_⟩
        exact hS.mut hp hv ⟨_, upd_same, RDs.ext (Ext.mut hm hv) _ _ (ra.append (.cons qy .nil))⟩
      · exact p.elim
    · exact p.elim
  · exact p.elim
end
end PD
namespace PD
open PySem PySem.Spec PyProof.Rows L2
def keyPy : Sum Int Str → PyData
  | .inl i => .int i
  | .inr x => .str x
mutual
def toPy : D → Option PyData
  | .non => some .none
  | .bl b => some (.bool b)
  | .int i => some (.int i)
  | .str x => some (.str x)
  | .tup ds => (toPys ds).map .tuple
  | .lst ds => (toPys ds).map .list
  | .dic kvs => (toPyk kvs).map .dict
  | .fz _ => none
  | .ref _ => none
  | .ty _ => none
  | .exc _ => none
  | .cls _ => none
def toPys : List D → Option (List PyData)
  | [] => some []
  | d :: ds => match toPy d, toPys ds with
    | some p, some q => some (p :: q)
    | _, _ => none
def toPyk : List (Sum Int Str × D) → Option (List (PyData × PyData))
  | [] => some []
  | (k, d) :: r => match toPy d, toPyk r with
    | some p, some q => some ((keyPy k, p) :: q)
    | _, _ => none
end
mutual
def noL : D → Bool
  | .tup ds => noLs ds
  | .lst _ => false
  | .dic kvs => noLk kvs
  | _ => true
def noLs : List D → Bool
  | [] => true
  | d :: ds => noL d && noLs ds
def noLk : List (Sum Int Str × D) → Bool
  | [] => true
  | (_, d) :: r => noL d && noLk r
end
section
variable {X : Cx} {E : XK}
mutual
theorem reads_ok {pins : List (Addr × Obj)} {σ : L2.St} {H : Hp} {s : Shared} {w : Wd} (I : Inv X pins σ H s) : ∀ (d : D) (v : V) (u : Value) (p : PyData), RD X.K w H d v → RelV v u → toPy d = some p → ∃ as, Reads s.heap u p as ∧ (noL d = true → sysModules ∉ as)
  | .non, v, u, p, q, r, h => by cases q.non; cases (show u = Value.none from r); unfold toPy at h; cases h; exact ⟨_, .none, fun _ z => nomatch z⟩
  | .bl b, v, u, p, q, r, h => by cases q.bl; cases (show u = Value.bool b from r); unfold toPy at h; cases h; exact ⟨_, .bool b, fun _ z => nomatch z⟩
  | .int i, v, u, p, q, r, h => by cases q.int; obtain ⟨t, rfl⟩ := (show ∃ t, u = Value.int i t from r); unfold toPy at h; cases h; exact ⟨_, .int i t, fun _ z => nomatch z⟩
  | .str x, v, u, p, q, r, h => by cases q.str; obtain ⟨t, rfl⟩ := (show ∃ t, u = Value.str x t from r); unfold toPy at h; cases h; exact ⟨_, .str x t, fun _ z => nomatch z⟩
  | .tup ds, v, u, p, q, r, h => by
    obtain ⟨a, vs, rfl, z, rs⟩ := q.tupI
    cases (show u = Value.ref a from r)
    unfold toPy at h
    cases e : toPys ds with
    | none => rw [e] at h; cases h
    | some ps =>
      rw [e] at h; cases h
      obtain ⟨its, r1, ⟨o, ho, hc, n, hd⟩, _⟩ := I.tuple (SqT_of z)
      obtain ⟨as, ra, hn⟩ := readss_ok I ds vs its ps rs r1 e
      exact ⟨as, .tuple ho hc hd ra, fun z => hn (by unfold noL at z; exact z)⟩
  | .lst ds, v, u, p, q, r, h => by
    obtain ⟨a, vs, rfl, z, rs⟩ := q.lstI
    cases (show u = Value.ref a from r)
    unfold toPy at h
    cases e : toPys ds with
    | none => rw [e] at h; cases h
    | some ps =>
      rw [e] at h; cases h
      obtain ⟨its, r1, ⟨o, n, ho, hc, _, hd⟩, _⟩ := I.list (SqL.of z.1)
      obtain ⟨as, ra, hn⟩ := readss_ok I ds vs its ps rs r1 e
      exact ⟨a :: as, .list ho hc hd ra, fun z => by unfold noL at z; cases z⟩
  | .dic kvs, v, u, p, q, r, h => by
    unfold RD at q
    obtain ⟨a, us, rfl, z, rk⟩ := q
    cases (show u = Value.ref a from r)
    unfold toPy at h
    cases e : toPyk kvs with
    | none => rw [e] at h; cases h
    | some ps =>
      rw [e] at h; cases h
      obtain ⟨_, hsys, vs, kv, o, es, ep, ho, hex, hd, _, hp, _⟩ := (show ObjOk X.prog X.w H s.heap a (.dK us) from I.hok a _ z.1)
      obtain ⟨as, bs, ra, rb, hn⟩ := readsk_ok I kvs us vs es.toList ps rk kv hp e
      refine ⟨a :: as ++ bs, .dict ho hex.1 hd ra rb, fun z => ?_⟩
      unfold noL at z
      intro hm
      rcases List.mem_append.mp hm with hm | hm
      · rcases List.mem_cons.mp hm with hm | hm
        · rw [← hm] at hsys; simp at hsys
        · exact (hn z).1 hm
      · exact (hn z).2 hm
  | .fz _, _, _, _, _, _, h => by unfold toPy at h; cases h
  | .ref _, _, _, _, _, _, h => by unfold toPy at h; cases h
  | .ty _, _, _, _, _, _, h => by unfold toPy at h; cases h
  | .exc _, _, _, _, _, _, h => by unfold toPy at h; cases h
  | .cls _, _, _, _, _, _, h => by unfold toPy at h; cases h
theorem readss_ok {pins : List (Addr × Obj)} {σ : L2.St} {H : Hp} {s : Shared} {w : Wd} (I : Inv X pins σ H s) : ∀ (ds : List D) (vs : List V) (us : List Value) (ps : List PyData), RDs X.K w H ds vs → Vals vs us → toPys ds = some ps → ∃ as, ReadsAll s.heap us ps as ∧ (noLs ds = true → sysModules ∉ as)
  | [], vs, us, ps, q, r, h => by
    rw [q.nil_inv] at r
    cases r
    unfold toPys at h
    cases h
    exact ⟨_, .nil, fun _ z => nomatch z⟩
  | d :: ds, _, us, ps, q, r, h => by
    obtain ⟨v, vs, rfl, p, t⟩ := q.cons_inv
    unfold toPys at h
    cases e1 : toPy d with
    | none => rw [e1] at h; cases h
    | some p1 =>
      cases e2 : toPys ds with
      | none => rw [e1, e2] at h; cases h
      | some p2 =>
        rw [e1, e2] at h; cases h
        cases r with
        | cons r1 r2 =>
          obtain ⟨as, ra, h1⟩ := reads_ok I d v _ p1 p r1 e1
          obtain ⟨bs, rb, h2⟩ := readss_ok I ds vs _ p2 t r2 e2
          refine ⟨as ++ bs, .cons ra rb, fun z => ?_⟩
          unfold noLs at z
          rw [Bool.and_eq_true] at z
          intro hm
          rcases List.mem_append.mp hm with hm | hm
          · exact h1 z.1 hm
          · exact h2 z.2 hm
theorem readsk_ok {pins : List (Addr × Obj)} {σ : L2.St} {H : Hp} {s : Shared} {w : Wd} (I : Inv X pins σ H s) : ∀ (ds : List (Sum Int Str × D)) (us : List (Key × V)) (vs : List (Key × Value)) (es : List DictEntry) (ps : List (PyData × PyData)), RDk X.K w H ds us → KV us vs → Pairs (mixKind X.prog X.w) es vs → toPyk ds = some ps →
    ∃ as bs, ReadsAll s.heap (es.map (·.key)) (ps.map (·.1)) as ∧ ReadsAll s.heap (es.map (·.val)) (ps.map (·.2)) bs ∧ (noLk ds = true → sysModules ∉ as ∧ sysModules ∉ bs)
  | [], us, vs, es, ps, q, r, hp, h => by
    unfold RDk at q
    subst q
    cases r
    unfold toPyk at h
    cases h
    cases hp
    exact ⟨_, _, .nil, .nil, fun _ => ⟨(fun z => nomatch z), (fun z => nomatch z)⟩⟩
  | (k, d) :: ds, us, vs, es, ps, q, r, hp, h => by
    unfold RDk at q
    obtain ⟨v, ur, rfl, p, t⟩ := q
    unfold toPyk at h
    cases e1 : toPy d with
    | none => rw [e1] at h; cases h
    | some p1 =>
      cases e2 : toPyk ds with
      | none => rw [e1, e2] at h; cases h
      | some p2 =>
        rw [e1, e2] at h; cases h
        cases r with
        | cons r1 r2 =>
          cases hp with
          | cons hk hv hr =>
            rename_i q0 vr e0 es0
            obtain ⟨k', v'⟩ := q0
            obtain ⟨ek, rv⟩ := r1
            have ek' : k = k' := ek
            subst ek'
            obtain ⟨as, ra, h1⟩ := reads_ok I d v _ p1 p rv e1
            obtain ⟨as2, bs2, ra2, rb2, h2⟩ := readsk_ok I ds ur vr es0 p2 t r2 hr e2
            have hkey : ∃ cs, Reads s.heap e0.key (keyPy k) cs ∧ cs = [] := by
              rcases keyIs_shape hk with ⟨i, tk, z1, z2⟩ | ⟨x, tk, z1, z2⟩
              · have z1' : k = Sum.inl i := z1
                subst z1'
                rw [z2]
                exact ⟨_, .int i tk, rfl⟩
              · have z1' : k = Sum.inr x := z1
                subst z1'
                rw [z2]
                exact ⟨_, .str x tk, rfl⟩
            obtain ⟨cs, rc, ec⟩ := hkey
            subst ec
            have hv' : e0.val = v' := hv
            refine ⟨[] ++ as2, as ++ bs2, .cons rc ra2, .cons (by show Reads s.heap e0.val p1 as; rw [hv']; exact ra) rb2, fun z => ?_⟩
            unfold noLk at z
            rw [Bool.and_eq_true] at z
            refine ⟨by rw [List.nil_append]; exact (h2 z.2).1, fun hm => ?_⟩
            rcases List.mem_append.mp hm with hm | hm
            · exact h1 z.1 hm
            · exact (h2 z.2).2 hm
end
end
end PD
namespace PD
open PySem PySem.Spec PyProof.Rows L2
section
variable {K : PySem.W.Frag} {w : Wd} {H : Hp}
structure Mv (w : Wd) (H : Hp) (w2 : Wd) (H2 : Hp) : Prop where
  st : ∀ (n : Nat) (a : Addr), w.st[n]? = some a → w2.st[n]? = some a
  at_ : ∀ a o, At w H a o → At w2 H2 a o
mutual
theorem RD.mv {w2 : Wd} {H2 : Hp} (x : Mv w H w2 H2) : ∀ (d : D) (v : V), RD K w H d v → RD K w2 H2 d v
  | .non, _, h => h
  | .bl _, _, h => h
  | .int _, _, h => h
  | .str _, _, h => h
  | .tup ds, v, h => by
    unfold RD at h ⊢
    obtain ⟨a, vs, e, p, r⟩ := h
    exact ⟨a, vs, e, p.imp (x.at_ _ _) id, RDs.mv x ds vs r⟩
  | .lst ds, v, h => by
    unfold RD at h ⊢
    obtain ⟨a, vs, e, p, r⟩ := h
    exact ⟨a, vs, e, x.at_ _ _ p, RDs.mv x ds vs r⟩
  | .fz ds, v, h => by
    unfold RD at h ⊢
    obtain ⟨a, vs, e, p, r⟩ := h
    exact ⟨a, vs, e, p.imp (fun ⟨o, z⟩ => ⟨o, x.at_ _ _ z⟩) id, RDs.mv x ds vs r⟩
  | .dic kvs, v, h => by
    unfold RD at h ⊢
    obtain ⟨a, us, e, p, r⟩ := h
    exact ⟨a, us, e, x.at_ _ _ p, RDk.mv x kvs us r⟩
  | .ref n, v, h => by
    unfold RD at h ⊢
    obtain ⟨a, e, p⟩ := h
    exact ⟨a, e, x.st n a p⟩
  | .ty _, _, h => h
  | .exc c, v, h => by
    unfold RD at h ⊢
    obtain ⟨a, C, o, e, q, p⟩ := h
    exact ⟨a, C, o, e, q, x.at_ _ _ p⟩
  | .cls _, _, h => h
theorem RDs.mv {w2 : Wd} {H2 : Hp} (x : Mv w H w2 H2) : ∀ (ds : List D) (vs : List V), RDs K w H ds vs → RDs K w2 H2 ds vs
  | [], _, h => h
  | d :: ds, vs, h => by
    unfold RDs at h ⊢
    obtain ⟨v, r, e, p, q⟩ := h
    exact ⟨v, r, e, RD.mv x d v p, RDs.mv x ds r q⟩
theorem RDk.mv {w2 : Wd} {H2 : Hp} (x : Mv w H w2 H2) : ∀ (ds : List (Sum Int Str × D)) (vs : List (Key × V)), RDk K w H ds vs → RDk K w2 H2 ds vs
  | [], _, h => h
  | (k, d) :: ds, vs, h => by
    unfold RDk at h ⊢
    obtain ⟨v, r, e, p, q⟩ := h
    exact ⟨v, r, e, RD.mv x d v p, RDk.mv x ds r q⟩
end
theorem RO.mv {w2 : Wd} {H2 : Hp} (x : Mv w H w2 H2) {a : Addr} {o : SO} (hk : ∀ u, H a = some u → H2 a = some u) (r : RO K w H a o) : RO K w2 H2 a o := by
  cases o with
  | lst ds => obtain ⟨vs, e, q⟩ := r; exact ⟨vs, hk _ e, RDs.mv x _ _ q⟩
  | dic kvs => obtain ⟨vs, e, q⟩ := r; exact ⟨vs, hk _ e, RDk.mv x _ _ q⟩
  | fdic kvs => obtain ⟨o, vs, e, q⟩ := r; exact ⟨o, vs, hk _ e, RDk.mv x _ _ q⟩
  | ins c fs => obtain ⟨C, dx, us, n, e, q1, q2⟩ := r; exact ⟨C, dx, us, n, hk _ e, q1, RDs.mv x _ _ q2⟩
  | flst ds => obtain ⟨o, vs, e, q⟩ := r; exact ⟨o, vs, hk _ e, RDs.mv x _ _ q⟩
theorem RSt.mv {w2 : Wd} {H2 : Hp} {r : Rho} {s : L2.St} (x : Mv w H w2 H2) (h : RSt K w H r s) : RSt K w2 H2 r s :=
  ⟨h.1, fun i d e => let ⟨v, e1, q⟩ := h.2 i d e; ⟨v, e1, RD.mv x d v q⟩⟩
theorem Ext.hide {p : Addr} {o : HO} (hp : H p = none) : Ext w H (w.hide p) (upd H p o) :=
  ⟨fun a u e _ => by rw [upd_ne (ne_of_none e hp)]; exact e, ⟨[], by simp [Wd.hide], fun _ z => nomatch z⟩, fun a h => List.mem_cons_of_mem _ h, fun a h => (List.mem_cons.mp h).elim (fun e => .inr (e ▸ hp)) .inl, fun a o u e => by rw [upd_ne (ne_of_none e hp)]; exact e⟩
def Wd.unhide (w : Wd) (p : Addr) : Wd := ⟨w.st, w.hid.filter fun a => decide (a ≠ p)⟩
theorem Wd.mem_unhide {p a : Addr} (h : a ∈ (w.unhide p).hid) : a ∈ w.hid ∧ a ≠ p := ⟨(List.mem_filter.mp h).1, of_decide_eq_true (List.mem_filter.mp h).2⟩
theorem Mv.write {p : Addr} {o : HO} (hp : p ∈ w.hid) : Mv w H w (upd H p o) :=
  ⟨fun _ _ z => z, fun a u h => ⟨by rw [upd_ne (fun z : a = p => h.2.2 (z ▸ hp))]; exact h.1, h.2⟩⟩
theorem Mv.unhide {p : Addr} : Mv w H (w.unhide p) H :=
  ⟨fun _ _ z => z, fun a u h => ⟨h.1, h.2.1, fun z => h.2.2 (Wd.mem_unhide z).1⟩⟩
theorem RS.hide {p : Addr} {o : HO} {S : Sto} (s : RS K w H S) (hp : H p = none) : RS K (w.hide p) (upd H p o) S := by
  refine ⟨s.nd, s.len, fun n so e => ?_, fun a ha => ?_⟩
  · obtain ⟨a, ha, r⟩ := s.obj n so e
    exact ⟨a, ha, r.ext (Ext.hide hp) fun u z => by rw [upd_ne (ne_of_none z hp)]; exact z⟩
  · rcases List.mem_cons.mp ha with z | z
    · subst z; exact ⟨s.freshS hp, o, upd_same⟩
    · obtain ⟨h1, u, e⟩ := s.hid a z
      exact ⟨h1, u, by rw [upd_ne (ne_of_none e hp)]; exact e⟩
theorem RS.write {p : Addr} {o : HO} {S : Sto} (s : RS K w H S) (hp : p ∈ w.hid) : RS K w (upd H p o) S := by
  have np := (s.hid p hp).1
  refine ⟨s.nd, s.len, fun n so e => ?_, fun a ha => ?_⟩
  · obtain ⟨a, ha, r⟩ := s.obj n so e
    have : a ≠ p := fun z => np (z ▸ List.mem_of_getElem? ha)
    exact ⟨a, ha, r.mv (Mv.write hp) fun u z => by rw [upd_ne this]; exact z⟩
  · obtain ⟨h1, u, e⟩ := s.hid a ha
    by_cases z : a = p
    · subst z; exact ⟨h1, o, upd_same⟩
    · exact ⟨h1, u, by rw [upd_ne z]; exact e⟩
theorem RS.unhide {p : Addr} {S : Sto} (s : RS K w H S) : RS K (w.unhide p) H S :=
  ⟨s.nd, s.len, fun n so e => by
    obtain ⟨a, ha, r⟩ := s.obj n so e
    exact ⟨a, ha, r.mv Mv.unhide fun u z => z⟩, fun a ha => s.hid a (Wd.mem_unhide ha).1⟩
theorem cap_rel {r : Rho} {s : L2.St} (k : Nat) (caps : List Nat) (h : RSt K w H r s) : RSt K w H (capOf k caps r) (capSt k caps s) := by
  unfold capOf capSt
  refine ⟨by simp, fun i d e => ?_⟩
  by_cases hi : i < k
  · rw [List.getElem?_append_left (by simpa using hi), List.getElem?_replicate] at e
    split at e <;> cases e
  · rw [List.getElem?_append_right (by simpa using hi), List.getElem?_map, List.length_replicate] at e
    rw [List.getElem?_append_right (by simpa using hi), List.getElem?_map, List.length_replicate]
    cases ec : caps[i - k]? with
    | none => rw [ec] at e; cases e
    | some j =>
      rw [ec] at e
      have e' : (r[j]?).join = some d := Option.some.inj e
      have hj : r[j]? = some (some d) := by
        cases q : r[j]? with
        | none => rw [q] at e'; cases e'
        | some o => rw [q] at e'; rw [show o = some d from e']
      obtain ⟨v, ev, rv⟩ := h.2 j d hj
      exact ⟨v, by show some ((s[j]?).join) = some (some v); rw [ev]; rfl, rv⟩
end
abbrev SIf (X : Cx) (E : XK) (ifs : List Expr) (m : TM) : Prop := Bx (PIfs X ifs (uT X.K E m))
theorem sif_nil {X : Cx} {E : XK} : SIf X E [] tTrue := ⟨fun pins s σ H Q I ⟨w, r, S, hr, hS, hp⟩ => pifs_nil pins s σ H Q I (hp.ret rfl hS)⟩
theorem sif_one {X : Cx} {E : XK} {c : Expr} {m : TM} (h : ST X E c m) : SIf X E [c] m := ⟨pifs_one h.out⟩
theorem se_compQ {qb : Bool} {X : Cx} {E : XK} {elt tg iter : Expr} {ifs : List Expr} {scope : Scope} {pos : Pos} {N : List Str} {k : Nat} {caps : List Nat} {it : AM} {g : G} {mt : TM} {me : EM} (hX : Cd qb X) (hxe : ∀ e s, ¬ X.xe e s) (C : CompScope X N k caps scope)
    (hi : SIb qb X E tg iter it) (hg : ∀ cl s0 H0 ex, Cd qb (cxC X N scope cl s0 H0 ex) → SG (cxC X N scope cl s0 H0 ex) tg g) (ht : ∀ cl s0 H0 ex, Cd qb (cxC X N scope cl s0 H0 ex) → SIf (cxC X N scope cl s0 H0 ex) E ifs mt) (he : ∀ cl s0 H0 ex, Cd qb (cxC X N scope cl s0 H0 ex) → SE (cxC X N scope cl s0 H0 ex) E elt me)
    (hs : ∀ x, foldedSetIterable iter X.env x = pure x := by intro _; kernel_rfl) : SE X E (.ListComp elt [⟨tg, iter, ifs, 0⟩] scope pos) (eComp it k caps g mt me) := ⟨
  pe_weak (pe_compQ hX hxe C hi.out (g := uG X.K g) (fun cl s0 H0 ex z => (hg cl s0 H0 ex z).out) (tt := uT X.K E mt) (fun cl s0 H0 ex z => (ht cl s0 H0 ex z).out) (te := uE X.K E me) (fun cl s0 H0 ex z => (he cl s0 H0 ex z).out) hs) fun s H Q ⟨w, r, S, hr, hS, hp⟩ => ⟨w, r, S, hr, hS, hp.bind hS fun ds S1 w1 H1 J x1 q1 s1 p1 => by
    intro p hp
    have hr1 := hr.ext x1
    have pno : p ∉ w1.hid := (s1.fresh hp).2
    have hz : ds.length ≤ sizeLine := by
      rcases Nat.lt_or_ge sizeLine ds.length with z | z
      · rw [if_neg (by omega)] at p1; exact p1.elim
      · exact z
    rw [if_pos hz] at p1
    -- the list is made at p, which is hidden
    refine ⟨fun i n s' H' => n = ds.length - i ∧ i ≤ ds.length ∧ ∃ w' r' S' ys vs, Ext w1 H1 w' H' ∧ p ∈ w'.hid ∧ RSt X.K w' H' r' s' ∧ RS X.K w' H' S' ∧ H' p = some (.lst vs) ∧ RDs X.K w' H' ys vs ∧ ys.length ≤ i ∧
        Post X.K E (RD X.K) w1 H1 ((compL g mt me (ds.drop i) r' S').bind fun zs S2 => R.ok (.lst (ys ++ zs)) S2) Q,
      ⟨ds.length, by simp, Nat.zero_le _, w1.hide p, capOf k caps r, S1, [], [], Ext.hide hp, List.mem_cons_self, (cap_rel k caps hr1).ext (Ext.hide hp), s1.hide hp, upd_same, .nil, Nat.le_refl _, p1⟩, ?_⟩
    rintro i n s2 H2 ⟨rfl, hi.out, w2, r2, S2, ys, vs, x2, hph, hr2, hS2, hpv, ry, hyl, hp2⟩
    have hpn : p ∉ w2.st := (hS2.hid p hph).1
    by_cases hlt : i < ds.length
    · obtain ⟨go, yld⟩ := (q1 i w2 H2 x2).1 hlt
      refine .inr ⟨go, fun s' H' => ∃ w' r' S' ys vs, Ext w1 H1 w' H' ∧ p ∈ w'.hid ∧ RSt X.K w' H' r' s' ∧ RS X.K w' H' S' ∧ H' p = some (.lst vs) ∧ RDs X.K w' H' ys vs ∧ ys.length ≤ i + 1 ∧
          Post X.K E (RD X.K) w1 H1 ((compL g mt me (ds.drop (i + 1)) r' S').bind fun zs S2 => R.ok (.lst (ys ++ zs)) S2) Q,
        fun s' H' hN => ⟨ds.length - (i + 1), by omega, rfl, hlt, hN⟩, fun x H3 hy => ?_⟩
      obtain ⟨gr, rd⟩ := yld x H3 hy
      obtain ⟨d, ed, qd⟩ := rd S2 hS2
      obtain ⟨x3, s3⟩ := grown_ok gr hS2
      have hdrop : ds.drop i = d :: ds.drop (i + 1) := by
        rw [List.drop_eq_getElem_cons hlt]
        rw [List.getElem?_eq_getElem hlt] at ed
        cases ed; rfl
      rw [hdrop] at hp2
      have hpv3 : H3 p = some (.lst vs) := x3.keep _ _ hpv hpn
      have ry3 := RDs.ext x3 _ _ ry
      have x13 : Ext w1 H1 w2 H3 := x2.trans' x3 s1 hS2
      unfold compL at hp2
      cases e : g.put d r2 with
      | none => rw [e] at hp2; exact hp2.elim
      | some r3 =>
        rw [e] at hp2
        refine ⟨w2, r2, d, r3, hr2.ext x3, qd, e, fun s4 hr4 => ⟨w2, r3, S2, hr4, s3, ?_⟩⟩
        -- hp2 : (mt r3 S2).bind .. |>.bind ..
        have hass : ∀ {A B C : Type} (r : R A) (f : A → Sto → R B) (h : B → Sto → R C), (r.bind f).bind h = r.bind fun a S => (f a S).bind h := fun r f h => by cases r <;> rfl
        simp only [hass] at hp2
        refine Post.bindAt (rel := RB) hp2 x13 s1 s3 fun c S5 w5 H5 c' x5 q5 s5 p5 => ?_
        have ec : c' = c := q5
        subst ec
        have x15 : Ext w1 H1 w5 H5 := x13.trans' x5 s1 s3
        have hph5 : p ∈ w5.hid := x5.hid p hph
        have hpv5 : H5 p = some (.lst vs) := x5.keep _ _ hpv3 hpn
        cases c' with
        | false =>
          refine iteF ⟨w5, r3, S5, ys, vs, x15, hph5, hr4.ext x5, s5, hpv5, RDs.ext x5 _ _ ry3, Nat.le_succ_of_le hyl, p5⟩
        | true =>
          refine iteT ⟨w5, r3, S5, hr4.ext x5, s5, ?_⟩
          have p5' : Post X.K E (RD X.K) w1 H1 (((me r3 S5).bind fun y S2 => (compL g mt me (ds.drop (i + 1)) r3 S2).bind fun ys S3 => R.ok (y :: ys) S3).bind fun zs S2 => R.ok (D.lst (ys ++ zs)) S2) Q := p5
          simp only [hass] at p5'
          refine Post.bindAt (rel := RD X.K) p5' x15 s1 s5 fun y S6 w6 H6 yv x6 q6 s6 p6 => ?_
          have x16 : Ext w1 H1 w6 H6 := x15.trans' x6 s1 s5
          have hph6 : p ∈ w6.hid := x6.hid p hph5
          have hpn5 : p ∉ w5.st := (s5.hid p hph5).1
          have hpn6 : p ∉ w6.st := (s6.hid p hph6).1
          have hpv6 : H6 p = some (.lst vs) := x6.keep _ _ hpv5 hpn5
          have ry6 := RDs.ext x6 _ _ (RDs.ext x5 _ _ ry3)
          refine ⟨vs, hpv6, by rw [ry6.length]; omega, w6, r3, S6, ys ++ [y], vs ++ [yv], ⟨fun a o h n => ?_, x16.sub, x16.hid, x16.hnew, fun a o u h => by have z := x16.frz a o u h; rw [upd_ne (fun e : a = p => by rw [e, hpv6] at z; cases z)]; exact z⟩, hph6, (hr4.ext x5).ext x6 |>.mv (Mv.write hph6), s6.write hph6, upd_same, (RDs.mv (Mv.write hph6) _ _ ry6).append (.cons (RD.mv (Mv.write hph6) _ _ q6) .nil), by simp; omega, ?_⟩
          · have : a ≠ p := ne_of_none h hp
            rw [upd_ne this]; exact x16.keep a o h n
          · have he2 : ∀ zs : List D, (ys ++ [y]) ++ zs = ys ++ y :: zs := fun zs => by simp
            simp only [he2]
            exact p6
    · have e : i = ds.length := by omega
      subst e
      rw [List.drop_length] at hp2
      refine .inl ⟨(q1 _ w2 H2 x2).2 (Nat.le_refl _), ?_⟩
      have hp3 : Post X.K E (RD X.K) w1 H1 (R.ok (D.lst (ys ++ [])) S2) Q := hp2
      rw [List.append_nil] at hp3
      refine Post.at hp3 (w1 := w2.unhide p) ⟨x2.keep, x2.sub, fun a h => List.mem_filter.mpr ⟨x2.hid a h, decide_eq_true fun z => pno (z ▸ h)⟩, fun a h => x2.hnew a (Wd.mem_unhide h).1, x2.frz⟩ ?_ hS2.unhide
      unfold RD
      exact ⟨p, vs, rfl, ⟨hpv, hpn, fun z => (Wd.mem_unhide z).2 rfl⟩, RDs.mv Mv.unhide _ _ ry⟩⟩⟩
theorem se_comp {X : Cx} {E : XK} {elt tg iter : Expr} {ifs : List Expr} {scope : Scope} {pos : Pos} {N : List Str} {k : Nat} {caps : List Nat} {it : AM} {g : G} {mt : TM} {me : EM} (hX : X.calm = true) (hxe : ∀ e s, ¬ X.xe e s) (C : CompScope X N k caps scope)
    (hi : SI X E tg iter it) (hg : ∀ cl s0 H0 ex, SG (cxC X N scope cl s0 H0 ex) tg g) (ht : ∀ cl s0 H0 ex, SIf (cxC X N scope cl s0 H0 ex) E ifs mt) (he : ∀ cl s0 H0 ex, SE (cxC X N scope cl s0 H0 ex) E elt me)
    (hs : ∀ x, foldedSetIterable iter X.env x = pure x := by intro _; kernel_rfl) : SE X E (.ListComp elt [⟨tg, iter, ifs, 0⟩] scope pos) (eComp it k caps g mt me) := se_compQ (qb := false) (.inl hX) hxe C hi (fun a b c d _ => hg a b c d) (fun a b c d _ => ht a b c d) (fun a b c d _ => he a b c d) hs
end PD
namespace PD
open PySem PySem.Spec PyProof.Rows L2
abbrev KD := Sum Int Str
def keyD : D → Option KD
  | .int i => some (.inl i)
  | .str x => some (.inr x)
  | _ => none
def putD (kvs : List (KD × D)) (k : KD) (d : D) : List (KD × D) :=
  if kvs.any (fun kv => decide (kv.1 = k)) then kvs.map (fun kv => if kv.1 = k then (kv.1, d) else kv) else kvs ++ [(k, d)]
def mergeD (kvs more : List (KD × D)) : List (KD × D) := more.foldl (fun acc kv => putD acc kv.1 kv.2) kvs
def keysD : List (D × D) → Option (List (KD × D))
  | [] => some []
  | (k, v) :: r => match keyD k, keysD r with
    | some k', some r' => some ((k', v) :: r')
    | _, _ => none
def pM : List (EM × EM) → Rho → Sto → R (List (D × D))
  | [], _, S => .ok [] S
  | (a, b) :: t, r, S => (a r S).bind fun x S1 => (b r S1).bind fun y S2 => (pM t r S2).bind fun ps S3 => .ok ((x, y) :: ps) S3
def eDic (ms : List (EM × EM)) : EM := fun r S => (pM ms r S).bind fun ps S1 => match keysD ps with
  | some kvs => if kvs.length ≤ 15 then .ok (.dic (mergeD [] kvs)) S1 else .bad
  | none => .bad
def eDicN (ms : List (EM × EM)) : EM := fun r S => (pM ms r S).bind fun ps S1 => match keysD ps with
  | some kvs => if kvs.length ≤ 15 then .ok (.ref S1.length) (S1 ++ [.dic (mergeD [] kvs)]) else .bad
  | none => .bad
section
variable {K : PySem.W.Frag} {w : Wd} {H : Hp}
theorem RDk.nil : RDk K w H [] [] := by unfold RDk; rfl
theorem RDk.cons {k : KD} {d : D} {v : V} {ds : List (KD × D)} {vs : List (Key × V)} (r : RD K w H d v) (q : RDk K w H ds vs) : RDk K w H ((k, d) :: ds) ((k, v) :: vs) := by unfold RDk; exact ⟨v, vs, rfl, r, q⟩
theorem RDk.nil_inv {vs : List (Key × V)} (h : RDk K w H [] vs) : vs = [] := by unfold RDk at h; exact h
theorem RDk.cons_inv {k : KD} {d : D} {ds : List (KD × D)} {vs : List (Key × V)} (h : RDk K w H ((k, d) :: ds) vs) : ∃ v r, vs = (k, v) :: r ∧ RD K w H d v ∧ RDk K w H ds r := by unfold RDk at h; exact h
theorem RDk.append : ∀ {ds es : List (KD × D)} {vs us : List (Key × V)}, RDk K w H ds vs → RDk K w H es us → RDk K w H (ds ++ es) (vs ++ us)
  | [], _, _, _, h, q => by rw [h.nil_inv]; exact q
  | (_, _) :: _, _, _, _, h, q => by
    obtain ⟨v, r, rfl, p, t⟩ := h.cons_inv
    exact .cons p (RDk.append t q)
theorem RDk.any : ∀ {ds : List (KD × D)} {vs : List (Key × V)} (k : KD), RDk K w H ds vs → (ds.any fun kv => decide (kv.1 = k)) = (vs.any fun kv => decide (kv.1 = k))
  | [], _, _, h => by rw [h.nil_inv]; rfl
  | (_, _) :: _, _, k, h => by
    obtain ⟨v, r, rfl, p, t⟩ := h.cons_inv
    rw [List.any_cons, List.any_cons, RDk.any k t]
theorem RDk.repl {d : D} {v : V} (r : RD K w H d v) : ∀ {ds : List (KD × D)} {vs : List (Key × V)} (k : KD), RDk K w H ds vs → RDk K w H (ds.map fun kv => if kv.1 = k then (kv.1, d) else kv) (vs.map fun kv => if kv.1 = k then (kv.1, v) else kv)
  | [], _, _, h => by rw [h.nil_inv]; exact .nil
  | (j, _) :: _, _, k, h => by
    obtain ⟨v', r', rfl, p, t⟩ := h.cons_inv
    simp only [List.map_cons]
    by_cases hj : j = k
    · rw [if_pos hj, if_pos hj]; exact .cons r (RDk.repl r k t)
    · rw [if_neg hj, if_neg hj]; exact .cons p (RDk.repl r k t)
theorem RDk.put {ds : List (KD × D)} {vs : List (Key × V)} {d : D} {v : V} (q : RDk K w H ds vs) (k : KD) (r : RD K w H d v) : RDk K w H (putD ds k d) (putK vs k v) := by
  unfold putD putK
  rw [q.any k]
  split
  · exact q.repl r k
  · exact q.append (.cons r .nil)
theorem RDk.merge : ∀ {more : List (KD × D)} {mvs : List (Key × V)} {ds : List (KD × D)} {vs : List (Key × V)}, RDk K w H more mvs → RDk K w H ds vs → RDk K w H (mergeD ds more) (mergeK vs mvs)
  | [], _, _, _, h, q => by rw [h.nil_inv]; exact q
  | (k, d) :: r, _, ds, vs, h, q => by
    obtain ⟨v', r', rfl, p, t⟩ := h.cons_inv
    show RDk K w H (mergeD (putD ds k d) r) (mergeK (putK vs k v') r')
    exact RDk.merge t (q.put k p)
theorem keyD_ok {d : D} {v : V} {k : KD} (q : RD K w H d v) (h : keyD d = some k) : v = kV k := by
  cases d with
  | int i => cases q.int; cases h; rfl
  | str x => cases q.str; cases h; rfl
  | _ => cases h
def RPs (K : PySem.W.Frag) (w : Wd) (H : Hp) : List (D × D) → List (V × V) → Prop
  | [], vs => vs = []
  | (a, b) :: r, vs => ∃ x y t, vs = (x, y) :: t ∧ RD K w H a x ∧ RD K w H b y ∧ RPs K w H r t
theorem keysD_ok : ∀ {ps : List (D × D)} {vs : List (V × V)} {kvs : List (KD × D)}, RPs K w H ps vs → keysD ps = some kvs → ∃ us : List (Key × V), vs = us.map (fun kv => (kV kv.1, kv.2)) ∧ RDk K w H kvs us
  | [], _, _, h, e => by
    have h' : _ = [] := h
    subst h'
    unfold keysD at e
    cases e
    exact ⟨[], rfl, .nil⟩
  | (a, b) :: r, _, kvs, h, e => by
    obtain ⟨u, v, t, rfl, h1, h2, h3⟩ := h
    unfold keysD at e
    cases e1 : keyD a with
    | none => rw [e1] at e; cases e
    | some k =>
      cases e2 : keysD r with
      | none => rw [e1, e2] at e; cases e
      | some r' =>
        rw [e1, e2] at e; cases e
        obtain ⟨us, rfl, q⟩ := keysD_ok h3 e2
        exact ⟨(k, v) :: us, by rw [keyD_ok h1 e1]; rfl, .cons h2 q⟩
end
section
variable {X : Cx} {E : XK} {pos : Pos}
def uPs (K : PySem.W.Frag) (E : XK) (ms : List (EM × EM)) : List (TE × TE) := ms.map fun p => (uE K E p.1, uE K E p.2)
theorem tp_ok {A2 B2 : Type} {K : PySem.W.Frag} {rel2 : Wd → Hp → A2 → B2 → Prop} {w0 : Wd} {H0 : Hp} {S0 : Sto} {Q : B2 → Hp → Prop} (s0 : RS K w0 H0 S0) : ∀ (ms : List (EM × EM)) {w : Wd} {H : Hp} {S : Sto} {r : Rho} {s : L2.St} {f : List (D × D) → Sto → R A2} {Q' : List (V × V) → Hp → Prop}, RSt K w H r s → RS K w H S → Ext w0 H0 w H →
    Post K E rel2 w0 H0 ((pM ms r S).bind f) Q → (∀ ps S1 w1 H1 vs, Ext w H w1 H1 → RPs K w1 H1 ps vs → RS K w1 H1 S1 → Post K E rel2 w0 H0 (f ps S1) Q → Q' vs H1) → tPairs (uPs K E ms) s H Q'
  | [], w, H, S, r, s, f, Q', hr, hS, x, hp, k => k [] S w H [] (Ext.refl _ _) rfl hS hp
  | (a, b) :: t, w, H, S, r, s, f, Q', hr, hS, x, hp, k => by
    have hass : ∀ {A B C : Type} (r : R A) (f : A → Sto → R B) (h : B → Sto → R C), (r.bind f).bind h = r.bind fun a S => (f a S).bind h := fun r f h => by cases r <;> rfl
    unfold pM at hp
    rw [hass] at hp
    refine ⟨w, r, S, hr, hS, Post.bindAt (rel := RD K) hp x s0 hS fun d S1 w1 H1 u x1 q1 s1 p1 => ?_⟩
    rw [hass] at p1
    have x01 := x.trans' x1 s0 hS
    refine ⟨w1, r, S1, hr.ext x1, s1, Post.bindAt (rel := RD K) p1 x01 s0 s1 fun e S2 w2 H2 v x2 q2 s2 p2 => ?_⟩
    rw [hass] at p2
    have x02 := x01.trans' x2 s0 s1
    exact tp_ok s0 t ((hr.ext x1).ext x2) s2 x02 p2 fun ps S3 w3 H3 vs x3 q3 s3 p3 =>
      k ((d, e) :: ps) S3 w3 H3 ((u, v) :: vs) ((x1.trans' x2 hS s1).trans' x3 hS s2) ⟨u, v, vs, rfl, RD.ext x3 _ _ (RD.ext x2 _ _ q1), RD.ext x3 _ _ q2, q3⟩ s3 p3
abbrev SPs (X : Cx) (E : XK) (pos : Pos) (keys : List (Option Expr)) (values : List Expr) (ms : List (EM × EM)) : Prop := Bx (PPs X pos keys values (uPs X.K E ms))
theorem sps_nil : SPs X E pos [] [] [] := ⟨pps_nil⟩
theorem sps_cons {k v : Expr} {ks : List (Option Expr)} {vs : List Expr} {mk mv : EM} {ms : List (EM × EM)} (hk : SE X E k mk) (hv : SE X E v mv) (hr : SPs X E pos ks vs ms) : SPs X E pos (some k :: ks) (v :: vs) ((mk, mv) :: ms) := ⟨pps_cons hk.out hv.out hr.out⟩
theorem disp_core {keys : List (Option Expr)} {values : List Expr} {ms : List (EM × EM)} {m : EM} {s : L2.St} {H : Hp} {Q : VK} {fin : List (KD × D) → Sto → R D}
    (hm : ∀ r S, m r S = (pM ms r S).bind fun ps S1 => match keysD ps with | some kvs => if kvs.length ≤ 15 then fin kvs S1 else .bad | none => .bad)
    (hfin : ∀ (kvs : List (KD × D)) (us : List (Key × V)) (w0 w : Wd) (H0 H : Hp) (S0 S : Sto) (p : Addr), H0 p = none → RS X.K w0 H0 S0 → RS X.K w H S → Ext w0 H0 w H → p ∈ w.hid → RDk X.K w H (mergeD [] kvs) (mergeK [] us) → Post X.K E (RD X.K) w0 H0 (fin kvs S) Q → Q (.ref p) (upd H p (.dK (mergeK [] us))))
    (h : uE X.K E m s H Q) : tDisp (uPs X.K E ms) s H Q := by
  obtain ⟨w, r, S, hr, hS, hp⟩ := h
  rw [hm] at hp
  intro p hpn
  refine tp_ok hS ms (hr.ext (Ext.hide hpn)) (hS.hide hpn) (Ext.hide hpn) hp fun ps S1 w1 H1 vs x1 q1 s1 p1 => ?_
  have hh : p ∈ w1.hid := x1.hid p List.mem_cons_self
  have hx : Ext w H w1 H1 := (Ext.hide hpn).trans' x1 hS (hS.hide hpn)
  refine ⟨x1.keep p _ upd_same ((hS.hide (o := HO.dK []) hpn).hid p List.mem_cons_self).1, ?_⟩
  cases e : keysD ps with
  | none => rw [e] at p1; exact p1.elim
  | some kvs =>
    rw [e] at p1
    obtain ⟨us, rfl, rk⟩ := keysD_ok q1 e
    have hl := rk.length
    by_cases hz : kvs.length ≤ 15
    · have p2 : Post X.K E (RD X.K) w H (if kvs.length ≤ 15 then fin kvs S1 else R.bad) Q := p1
      rw [if_pos hz] at p2
      exact ⟨us, rfl, by rw [hl]; exact hz, hfin kvs us w w1 H H1 S S1 p hpn hS s1 hx hh (rk.merge .nil) p2⟩
    · have p2 : Post X.K E (RD X.K) w H (if kvs.length ≤ 15 then fin kvs S1 else R.bad) Q := p1
      rw [if_neg hz] at p2
      exact p2.elim
end
end PD
namespace PD
open PySem PySem.Spec PyProof.Rows L2
def ALen (m : AM) (n : Nat) : Prop := ∀ r S ds S', m r S = .ok ds S' → ds.length = n
theorem alen_nil : ALen aNil 0 := fun r S ds S' h => by unfold aNil at h; cases h; rfl
theorem alen_cons {a : EM} {t : AM} {n : Nat} (h : ALen t n) : ALen (aCons a t) (n + 1) := fun r S ds S' e => by
  unfold aCons at e
  cases e1 : a r S with
  | bad => rw [e1] at e; cases e
  | err x S1 => rw [e1] at e; cases e
  | ok d S1 =>
    rw [e1] at e
    cases e2 : t r S1 with
    | bad => simp only [R.bind_ok, e2, R.bind_bad] at e; cases e
    | err x S2 => simp only [R.bind_ok, e2, R.bind_err] at e; cases e
    | ok es S2 =>
      simp only [R.bind_ok, e2] at e
      cases e
      simp [h r S1 es _ e2]
section
variable {X : Cx} {E : XK}
theorem se_gi {x : Str} {i : Int} {pos : Pos} (hm : ∃ t, X.mg x = some (.int i t)) (hg : Gl X x) (hd : (x == ("__debug__" : Str)) = false := by decide +kernel) : SE X E (.Name x pos) (eC (.int i)) := by
  obtain ⟨t, e⟩ := hm
  exact se_gint hg e hd
end
section
variable {P : Program} {w : World} {K : PySem.W.Frag} {mg : Str → Option Value} {base : Heap}
end
def capsOk (N0 N : List Str) (k : Nat) (scope : Scope) : List Nat → Nat → Bool
  | [], _ => true
  | i :: r, t => (match N0[i]?, N[k + t]? with
    | some x, some y => x == y && scope.names.lookup x == some .free
    | _, _ => false) && capsOk N0 N k scope r (t + 1)
theorem capsOk_get {N0 N : List Str} {k : Nat} {scope : Scope} : ∀ {caps : List Nat} {t0 : Nat}, capsOk N0 N k scope caps t0 = true → ∀ (t i : Nat), caps[t]? = some i → ∃ x, N0[i]? = some x ∧ N[k + (t0 + t)]? = some x ∧ scope.names.lookup x = some .free
  | [], _, _, _, _, h => by simp at h
  | j :: r, t0, h, t, i, e => by
    unfold capsOk at h
    rw [Bool.and_eq_true] at h
    cases t with
    | zero =>
      simp at e
      subst e
      have h1 := h.1
      cases e1 : N0[j]? with
      | none => rw [e1] at h1; cases h1
      | some x =>
        cases e2 : N[k + t0]? with
        | none => rw [e1, e2] at h1; cases h1
        | some y =>
          rw [e1, e2] at h1
          simp only [Bool.and_eq_true] at h1
          have hxy : x = y := eq_of_beq h1.1
          subst hxy
          exact ⟨x, rfl, by simpa using e2, eq_of_beq h1.2⟩
    | succ t =>
      obtain ⟨x, a, b, c⟩ := capsOk_get h.2 t i (by simpa using e)
      exact ⟨x, a, by rw [show t0 + (t + 1) = t0 + 1 + t by omega]; exact b, c⟩
theorem cs_mk {X : Cx} {N : List Str} {k : Nat} {caps : List Nat} {scope : Scope} (h1 : scope.kind = .function) (h2 : scope.names.all (fun x => x.2 != .cell) = true) (h3 : scope.names.all (fun x => x.2 != .local || scope.names.lookup x.1 == some .local) = true)
    (h4 : scope.names.all (fun x => x.2 != .free || X.env.kindOf x.1 == some .cell || X.env.kindOf x.1 == some .free) = true) (h5 : N.length = k + caps.length) (h6 : capsOk X.N N k scope caps 0 = true) : CompScope X N k caps scope := by
  refine ⟨h1, fun x hx z => ?_, fun x hx z => ?_, fun x hx z => ?_, h5, fun t i e => ?_⟩
  · have := List.all_eq_true.mp h2 x hx
    rw [z] at this; simp at this
  · have := List.all_eq_true.mp h3 x hx
    rw [z] at this
    simpa using this
  · have := List.all_eq_true.mp h4 x hx
    rw [z] at this
    simpa using this
  · obtain ⟨x, a, b, c⟩ := capsOk_get h6 t i e
    exact ⟨x, a, by simpa using b, c⟩
theorem law_sp {f : FM} (h : ∀ ns : List Int, ns.length ≤ 63 → ∃ S, f [.fz (ns.map .int)] [] = .ok (.bl true) S) (K : PySem.W.Frag) (H : Hp) (a : Addr) (ns : List Int) (hn : ns.length ≤ 63) (ho : Only H) (hs : SqL K H a (ns.map V.int)) :
    spM K 1 f [.ref a] H (fun v _ => v = .bl true) fun _ _ _ => False := by
  obtain ⟨S, e⟩ := h ns hn
  have hfz : FzAt K ⟨[], []⟩ H a (ns.map V.int) := by
    rcases hs with (hs | ⟨o, hs⟩) | hs
    · rcases ho a with z | ⟨o, xs, z⟩
      · rw [z] at hs; cases hs
      · rw [z] at hs; cases hs
    · exact .inl ⟨o, hs, (fun z => nomatch z), (fun z => nomatch z)⟩
    · exact .inr hs
  have hints : ∀ l : List Int, RDs K ⟨[], []⟩ H (l.map D.int) (l.map V.int) := fun l => by
    induction l with
    | nil => exact .nil
    | cons i l ih => exact .cons RD.mkI ih
  refine ⟨rfl, ⟨[], []⟩, [], [.fz (ns.map .int)], ⟨List.nodup_nil, rfl, fun n o z => ?_, (fun a z => nomatch z)⟩, .cons (by unfold RD; exact ⟨a, _, rfl, hfz, hints ns⟩) .nil, ?_⟩
  · simp at z
  · rw [e]
    intro w' H' b x q s
    unfold RD at q
    exact q
end PD
namespace PD
open PySem L2
theorem oMul_i {S : Sto} {i j : Int} (h : smallI i ∨ smallI j) : oMul S (.int i) (.int j) = some (.int (i * j)) := if_pos h
theorem oShl_i {S : Sto} {i : Nat} (h : i < 1000) : oShl S (.int 1) (.int i) = some (.int (2 ^ i)) := by
  have : oShl S (.int 1) (.int i) = some (.int (1 * 2 ^ ((i : Int)).toNat)) := if_pos ⟨by omega, by omega, by decide⟩
  rw [this, Int.toNat_natCast, Int.one_mul]
theorem oPow_i {S : Sto} {i j : Int} (h : 0 ≤ j ∧ j ≤ 1000000 ∧ i.natAbs < 2 ^ 64) : oPow S (.int i) (.int j) = some (.int (i ^ j.toNat)) := if_pos h
theorem oPow_10_12 {S : Sto} : oPow S (.int 10) (.int 12) = some (.int 1000000000000) := by
  rw [oPow_i ⟨by decide, by decide, by decide⟩]
  have e : (10 : Int) ^ (12 : Int).toNat = 1000000000000 := by decide
  rw [e]
theorem atI_nat' {A : Type} {xs : List A} {i : Nat} (h : i < xs.length) : atI xs (i : Int) = some xs[i] := atI_nat (List.getElem?_eq_getElem h)
end PD
namespace PD
open PySem PyProof.Rows L2
end PD
namespace L2
open PySem PySem.Spec PyProof.Rows
def Fly (l : List Env) (H' : Hp) (h hs : Heap) (ea : Addr) (cls : Value) : Prop :=
  ∃ (B : Heap) (a0 : Value), Heap.FlyingW B l ea cls a0 hs ∧ (∀ b o, h.get? b = some o → b ∉ frs l → ∃ o', B.get? b = some o') ∧ (∀ b u, H' b = some u → ∃ o', B.get? b = some o') ∧ hs.Zat ea
def CX1 (P : Program) (w : World) : CXT := fun outer H s E e s' =>
  ∃ ea cls H', e = .ref ea ∧ s'.os = s.os ∧ AllBare s'.gens ∧ Un (frs outer) [] H H' s.heap s'.heap ∧ HOk P w H' s'.heap ∧ Fly outer H' s.heap s'.heap ea cls ∧ E cls none H'
section
variable {P : Program} {w : World} {fs : List Addr} {H H' : Hp} {h h1 h2 B : Heap} {l : List Env}
end
section
variable {X : Cx} {pins : List (Addr × Obj)} {σ : St} {H : Hp} {s s' : Shared} {E : XK} {e : Value}
end
end L2
namespace PD
open PySem PySem.Spec PyProof.Rows L2
section
variable {X : Cx} {E : XK}
end
section
variable {X : Cx} {E : XK} {x : Str} {a : Expr} {es : List Expr} {ms : AM} {np cpos pos : Pos}
end
section
variable {P : Program} {w : World} {K : PySem.W.Frag} {mg : Str → Option Value} {base : Heap} {N : List Str} {qual : Str} {scope : Scope} {f : Addr} {cdv : Value} {A : Around} {outer : List Env} {s : Shared} {H : Hp} {E : XK}
theorem passes_no {X : Cx} : Passes (CX1 X.prog X.w) X E0 := fun _ _ _ _ _ _ _ ⟨_, _, _, _, _, _, _, _, _, z⟩ => z.elim
end
def spN (K : PySem.W.Frag) (n : Nat) (f : FM) : Sp := fun vs H Q _ => vs.length = n ∧ ∃ w S ds, RS K w H S ∧ RDs K w H ds vs ∧ Post K E0 (RD K) w H (f ds S) Q
structure DefN (P : Program) (w : World) (K : PySem.W.Frag) (mg : Str → Option Value) (base : Heap) (x : Str) (k n : Nat) (f : FM) : Prop where
  ex : ∃ (fa : Addr) (fd : FuncData) (ps : List Str), mg x = some (.ref fa) ∧ PySem.W.keepIn K (.ref fa) = true ∧ Binds K fd ps [] ∧ FnOk P w K mg base (CX1 P w) k fa fd ps (spN K n f)
section
variable {X : Cx} {E : XK} {x : Str} {k n : Nat} {f : FM} {a : Expr} {es : List Expr} {ms : AM} {p pos : Pos}
theorem se_fnN (D : DefN X.prog X.w X.K X.mg X.base x k n f) (hr : Room k X.A) (hg : Gl X x) (ha : SA X E0 (a :: es) ms) (hn : ALen ms n) (hdb : (x == ("__debug__" : Str)) = false := by decide +kernel)
    (he : starEach (a :: es) X.env = (false, eval a X.env) :: starEach es X.env := by kernel_rfl) (hpl : (backTo pos (starEach es X.env)).any (·.1) = false := by kernel_rfl) :
    SE X E0 (.Call (.Name x p) (a :: es) [] pos) (eCall f ms) := by
  obtain ⟨fa, fd, ps, hm, hk, hb, F⟩ := D.ex
  refine ⟨pe_weak (pe_call F hr hg hm hk hb (dvs := []) .nil passes_no ha.out hdb he hpl) fun s H Q ⟨w, r, S, hr, hS, hp⟩ => ?_⟩
  refine ⟨w, r, S, hr, hS, ?_⟩
  have hp' : Post X.K E0 (RD X.K) w H ((ms r S).bind fun xs S1 => f xs S1) Q := hp
  cases e : ms r S with
  | bad => rw [e] at hp'; exact hp'.elim
  | err y S' => rw [e] at hp'; exact hp'
  | ok ds S' =>
    rw [e] at hp'
    intro w1 H1 vs x1 q1 s1
    rw [List.append_nil]
    exact ⟨by rw [q1.length]; exact hn r S ds S' e, w1, S', ds, s1, q1, Post.ext (r := f ds S') hp' x1 hS s1⟩
end
section
variable {P : Program} {w : World} {K : PySem.W.Frag} {mg : Str → Option Value} {base : Heap}
theorem fn_okN {x qual : Str} {st : Stmt} {f : Addr} {fd : FuncData} {N ps : List Str} {k : Nat} {m : SM} (F : Fun K x qual st f fd) (S : FnScope N ps (defScope st))
    (hbody : ∀ (cdv : Value) (A : Around) (outer : List Env) (s : Shared) (H : Hp) (E : XK), Room k (A.deeper (envOfC qual (defScope st) s.heap.objs.size f cdv)) →
      SSs (cxOf (CX1 P w) P w K mg base N qual (defScope st) f cdv A outer s H E).nox E0 (defBody st) m) : FnOk P w K mg base (CX1 P w) (k + 1) f fd ps (spN K ps.length (fnM N.length m)) := by
  obtain ⟨oc, od, kV, doc, pm, an, cdv, ct, osl, rfl, lk, hcd⟩ := F.ex
  refine fn_of lk hcd S (fun vs H Q E h => h.1) fun A outer s H vs Q E hr h => ?_
  obtain ⟨hl, u, T, ds, hT, q, p⟩ := h
  refine ⟨_, (hbody cdv A outer s H E hr).out.nox, u, _, T, start_rel q, hT, ?_⟩
  refine Post.bind (rel := RF K) p hT fun g S1 w1 H1 fv x1 q1 s1 p1 => ?_
  cases g with
  | nx r => obtain ⟨s', rfl, _⟩ := q1; have z := Post.ret (Q := Q) (rel := RD K) (a := D.non) (b := V.non) p1 (by unfold RD; rfl) s1; exact z
  | rt d => obtain ⟨v, rfl, q2⟩ := q1; have z := Post.ret (Q := Q) (rel := RD K) (a := d) (b := v) p1 q2 s1; exact z
  | bk r => exact p1.elim
  | ct r => exact p1.elim
theorem def_ofN {x : Str} {st : Stmt} {f : Addr} {fd : FuncData} {m : SM} (N ps : List Str) (k k1 n0 n1 : Nat) (hk : k1 = k + 1) (h0 : n0 = ps.length) (h1 : n1 = N.length) (F : Fun K x x st f fd) (hm : mg x = some (.ref f)) (hb : Binds K fd ps []) (S : FnScope N ps (defScope st))
    (hbody : ∀ (cdv : Value) (A : Around) (outer : List Env) (s : Shared) (H : Hp) (E : XK), Room k (A.deeper (envOfC x (defScope st) s.heap.objs.size f cdv)) →
      SSs (cxOf (CX1 P w) P w K mg base N x (defScope st) f cdv A outer s H E).nox E0 (defBody st) m) : DefN P w K mg base x k1 n0 (fnM n1 m) := by
  subst hk h0 h1
  exact ⟨f, fd, ps, hm, F.kp, hb, fn_okN F S hbody⟩
theorem law_ofN {x : Str} {st : Stmt} {f : Addr} {fd : FuncData} {m : SM} (N ps : List Str) (k k1 n0 n1 : Nat) (hk : k1 = k + 1) (h0 : n0 = ps.length) (h1 : n1 = N.length) (F : Fun K x x st f fd) (S : FnScope N ps (defScope st))
    (hbody : ∀ (cdv : Value) (A : Around) (outer : List Env) (s : Shared) (H : Hp) (E : XK), Room k (A.deeper (envOfC x (defScope st) s.heap.objs.size f cdv)) →
      SSs (cxOf (CX1 P w) P w K mg base N x (defScope st) f cdv A outer s H E).nox E0 (defBody st) m) : FnOk P w K mg base (CX1 P w) k1 f fd ps (spN K n0 (fnM n1 m)) := by
  subst hk h0 h1
  exact fn_okN F S hbody
end
end PD
namespace L2
open PySem PySem.Spec PyProof.Rows
section
variable {X : Cx} {pins : List (Addr × Obj)} {σ : St} {H : Hp} {s : Shared}
abbrev Cx.with (X : Cx) (p : List (Addr × Obj)) (W : Value → Shared → Prop) : Cx := { X with pn := p, xe := W }
end
section
variable {X : Cx} {pins : List (Addr × Obj)} {σ : St} {H H' : Hp} {s s' : Shared} {B : Heap} {ea : Addr} {cls a0 : Value} {h2 : Heap}
end
end L2
namespace PD
open PySem PySem.Spec PyProof.Rows L2
section
variable {X : Cx} {E : XK}
end
end PD
namespace L2
open PySem PySem.Spec PyProof.Rows
section
variable {P : Program} {w : World} {K : PySem.W.Frag} {mg : Str → Option Value} {base : Heap}
end
section
variable {X : Cx} {k : Nat} {f : Addr} {fd : FuncData} {ps : List Str} {sp : Sp} {x : Str} {p pos : Pos} {e : Expr} {es : List Expr} {t : TA}
end
end L2
namespace PD
open PySem PySem.Spec PyProof.Rows L2
section
variable {X : Cx} {x : Str} {k n : Nat} {f : FM} {a : Expr} {es : List Expr} {ms : AM} {p pos : Pos}
end
section
variable {P : Program} {w : World} {K : PySem.W.Frag} {mg : Str → Option Value} {base : Heap}
end
end PD
namespace L2
open PySem PySem.Spec PyProof.Rows
section
variable {prog : Program} {w : World} {A : Around} {E : Value → Shared → Prop} {s : Shared} {K : PySem.W.Frag} {ea C : Addr} {ox : Obj} {od : Option Obj}
structure ExK (K : PySem.W.Frag) (C : Addr) : Prop where
  ga : PySem.W.findIn K (.ref C) "__getattribute__" = some (some (.builtin "BaseException.__getattribute__"))
  gh : PySem.W.findIn K (.ref C) "__getattr__" = some none
  cl : PySem.W.findIn K (.ref C) "__class__" = some (some (.builtin "object.__class__"))
  bs : PySem.W.mroIn K C (.type "BaseException") = some true
  ob : PySem.W.mroIn K C (.type "object") = some true
  is : (PySem.W.clsIn K C).isSome = true
end
end L2
namespace PD
open PySem PySem.Spec PyProof.Rows L2
structure Cls (K : PySem.W.Frag) (cs ks : List Str) (isa : Str → Str → Bool) : Prop where
  gt : PySem.W.specialIn K (.builtin "object.__class__") "__get__" = some (some (.builtin "getset_descriptor.__get__"))
  tk : PySem.W.takesIn K (.builtin "object.__class__") = some true
  ex : ∀ c ∈ cs, ∃ C, PySem.W.nsIn K mainGlobals c = some (some (.ref C)) ∧ ExK K C ∧ PySem.W.kitOne K (.ref C) (.type "ValueError") = some true
  isa : ∀ c ∈ cs, ∀ k ∈ ks, ∃ C D, PySem.W.nsIn K mainGlobals c = some (some C) ∧ PySem.W.nsIn K mainGlobals k = some (some D) ∧ PySem.W.kitOne K C D = some (isa c k)
section
variable {X : Cx} {E : XK} {cs ks : List Str} {isa : Str → Str → Bool}
end
end PD
namespace PD
open PySem PySem.Spec PyProof.Rows L2
section
variable {X : Cx} {E : XK}
def intsOf : List D → Option (List Int)
  | [] => some []
  | .int b :: r => (intsOf r).map (b :: ·)
  | _ :: _ => none
end
end PD
namespace PD
open PySem PySem.Spec PyProof.Rows L2
section
variable {X : Cx} {E : XK}
end
end PD
namespace PD
open PySem PySem.Spec PyProof.Rows L2
theorem whileL_more (t : TM) (b : SM) : ∀ (n k : Nat) (r : Rho) (S : Sto), whileL t b n r S ≠ .bad → whileL t b (n + k) r S = whileL t b n r S
  | 0, k, r, S, h => absurd rfl h
  | n + 1, k, r, S, h => by
    rw [show n + 1 + k = (n + k) + 1 by omega]
    unfold whileL at h ⊢
    cases e : t r S with
    | bad => rfl
    | err x S1 => rfl
    | ok c S1 =>
      rw [e] at h
      simp only [R.bind_ok] at h ⊢
      cases c with
      | false => rfl
      | true =>
        simp only [if_true] at h ⊢
        cases e2 : b r S1 with
        | bad => rfl
        | err x S2 => rfl
        | ok f S2 =>
          rw [e2] at h
          simp only [R.bind_ok] at h ⊢
          cases f with
          | nx r2 => exact whileL_more t b n k r2 S2 h
          | ct r2 => exact whileL_more t b n k r2 S2 h
          | bk r2 => rfl
          | rt d => rfl
open Classical in
noncomputable def sWh (t : TM) (b : SM) : SM := fun r S => if h : ∃ n, whileL t b n r S ≠ .bad then whileL t b h.choose r S else .bad
theorem sWh_eq {t : TM} {b : SM} {r : Rho} {S : Sto} (n : Nat) (h : whileL t b n r S ≠ .bad) : sWh t b r S = whileL t b n r S := by
  have hx : ∃ n, whileL t b n r S ≠ .bad := ⟨n, h⟩
  unfold sWh
  rw [dif_pos hx]
  have hc := hx.choose_spec
  rcases Nat.le_total n hx.choose with z | z
  · obtain ⟨k, e⟩ := Nat.exists_eq_add_of_le z
    rw [e]
    exact whileL_more t b n k r S h
  · obtain ⟨k, e⟩ := Nat.exists_eq_add_of_le z
    have := whileL_more t b hx.choose k r S hc
    rw [← e] at this
    exact this.symm
section
variable {X : Cx} {E : XK} {c : Expr} {body : List Stmt} {mt : TM} {m : SM} {pos : Pos}
theorem ss_while (hp : PassesOwn (model X.prog X.w) X.A X.env X.xe) (hc : ST X E c mt) (hb : SSs X E body m) : SS X E (.While c body [] pos) (sWh mt m) := ⟨
  ps_weak (ps_while hp hc.out hb.out) fun D s H ⟨w, r, S, hr, hS, hp⟩ => by
    have h0 : ∃ n, Post X.K E (RF X.K) w H (whileL mt m n r S) (FV.to D) := by
      have hp' : Post X.K E (RF X.K) w H (sWh mt m r S) (FV.to D) := hp
      unfold sWh at hp'
      split at hp'
      · exact ⟨_, hp'⟩
      · exact hp'.elim
    obtain ⟨n0, hp0⟩ := h0
    refine ⟨fun n s' H' => ∃ w' r' S', RSt X.K w' H' r' s' ∧ RS X.K w' H' S' ∧ Post X.K E (RF X.K) w' H' (whileL mt m n r' S') (FV.to D), ⟨n0, w, r, S, hr, hS, hp0⟩, ?_⟩
    rintro n s1 H1 ⟨w1, r1, S1, hr1, hS1, hp1⟩
    cases n with
    | zero => exact hp1.elim
    | succ n =>
      unfold whileL at hp1
      refine ⟨w1, r1, S1, hr1, hS1, hp1.bind hS1 fun k S2 w2 H2 v x2 q2 s2 p2 => ?_⟩
      have e : v = k := q2
      subst e
      cases v with
      | false => exact iteF (Post.ret (b := FV.nx s1) p2 ⟨s1, rfl, hr1.ext x2⟩ s2)
      | true =>
        refine iteT ⟨fun s' H' => ∃ w' r' S', RSt X.K w' H' r' s' ∧ RS X.K w' H' S' ∧ Post X.K E (RF X.K) w' H' (whileL mt m n r' S') (FV.to D), fun s' H' hN => ⟨n, Nat.lt_succ_self n, hN⟩, ?_⟩
        simp only [if_true] at p2
        refine ⟨w2, r1, S2, hr1.ext x2, s2, Post.bind (rel := RF X.K) p2 s2 fun f S5 w5 H5 fv x5 q5 s5 p5 => ?_⟩
        cases f with
        | nx r6 => obtain ⟨s6, rfl, q6⟩ := q5; exact ⟨w5, r6, S5, q6, s5, p5⟩
        | ct r6 => obtain ⟨s6, rfl, q6⟩ := q5; exact ⟨w5, r6, S5, q6, s5, p5⟩
        | bk r6 => obtain ⟨s6, rfl, q6⟩ := q5; have z := Post.ret (Q := FV.to D) (rel := RF X.K) (a := F.nx r6) (b := FV.nx s6) p5 ⟨s6, rfl, q6⟩ s5; exact z
        | rt d6 => obtain ⟨v6, rfl, q6⟩ := q5; have z := Post.ret (Q := FV.to D) (rel := RF X.K) (a := F.rt d6) (b := FV.rt v6) p5 ⟨v6, rfl, q6⟩ s5; exact z⟩
end
end PD
namespace PD
open PySem PySem.Spec PyProof.Rows L2
section
variable {X : Cx} {E : XK}
def eqP (a b : D) : Option Bool := match eqS a b with
  | some c => some c
  | none => match toPy a, toPy b with
    | some p, some q => if SeqAt.shaped p = true ∧ SeqAt.shaped q = true then some (PyData.eqv p q) else none
    | _, _ => none
def oEqP : Sto → D → D → Option D := fun _ a b => (eqP a b).map .bl
def oNeP : Sto → D → D → Option D := fun _ a b => (eqP a b).map fun c => .bl (!c)
theorem eqP_cases {a b : D} {c : Bool} (h : eqP a b = some c) : eqS a b = some c ∨ ∃ p q, toPy a = some p ∧ toPy b = some q ∧ SeqAt.shaped p = true ∧ SeqAt.shaped q = true ∧ c = PyData.eqv p q := by
  unfold eqP at h
  split at h
  · rename_i c' e; cases h; exact .inl e
  · split at h
    · rename_i p q e1 e2
      split at h
      · rename_i hs; cases h; exact .inr ⟨p, q, e1, e2, hs.1, hs.2, rfl⟩
      · cases h
    · cases h
theorem xo_eqP {k : Nat} (hr : Room k X.A) : OpR X (compareOp .Eq) (xO X.K E oEqP) := by
  rintro pins s σ H x y v u Q I rx ry ⟨w, S, d, e, hS, qd, qe, p⟩
  obtain ⟨z, hz, p⟩ := p.of
  unfold oEqP at hz
  cases h : eqP d e with
  | none => rw [h] at hz; cases hz
  | some c =>
    rw [h] at hz; cases hz
    rcases eqP_cases h with h | ⟨a, b, e1, e2, s1, s2, rfl⟩
    · exact xo_eq pins s σ H x y v u Q I rx ry ⟨w, S, d, e, hS, qd, qe, by unfold oEq; rw [h]; exact p⟩
    · obtain ⟨as, r1, _⟩ := reads_ok I d x v a qd rx e1
      obtain ⟨bs, r2, _⟩ := reads_ok I e y u b qe ry e2
      exact eq_dataH r1 r2 s1 s2 hr.units ⟨.bl _, H, I, rfl, p.ret RD.mkB hS⟩
theorem xo_neP {k : Nat} (hr : Room k X.A) : OpR X (compareOp .NotEq) (xO X.K E oNeP) := by
  rintro pins s σ H x y v u Q I rx ry ⟨w, S, d, e, hS, qd, qe, p⟩
  obtain ⟨z, hz, p⟩ := p.of
  unfold oNeP at hz
  cases h : eqP d e with
  | none => rw [h] at hz; cases hz
  | some c =>
    rw [h] at hz; cases hz
    rcases eqP_cases h with h | ⟨a, b, e1, e2, s1, s2, rfl⟩
    · exact xo_ne pins s σ H x y v u Q I rx ry ⟨w, S, d, e, hS, qd, qe, by unfold oNe; rw [h]; exact p⟩
    · obtain ⟨as, r1, _⟩ := reads_ok I d x v a qd rx e1
      obtain ⟨bs, r2, _⟩ := reads_ok I e y u b qe ry e2
      exact ne_dataH r1 r2 s1 s2 hr.units ⟨.bl _, H, I, rfl, p.ret RD.mkB hS⟩
end
end PD
namespace PD
open PySem PySem.Spec PyProof.Rows L2
theorem law_spN {f : FM} (h : ∀ ns : List Int, ns.length ≤ 63 → ∃ S, f [.fz (ns.map .int)] [] = .ok (.bl true) S) (K : PySem.W.Frag) (H : Hp) (a : Addr) (ns : List Int) (hn : ns.length ≤ 63) (ho : Only H) (hs : SqL K H a (ns.map V.int)) :
    spN K 1 f [.ref a] H (fun v _ => v = .bl true) fun _ _ _ => False := law_sp h K H a ns hn ho hs
theorem cx1_no {P : Program} {w : World} {l : List Env} {H : Hp} {s s' : Shared} {e : Value} (h : CX1 P w l H s (fun _ _ _ => False) e s') : False := by
  obtain ⟨_, _, _, _, _, _, _, _, _, z⟩ := h
  exact z
end PD
namespace SQ
open PySem PySem.Spec PyProof.Rows
open Sem (wp)
def nm : Bool → String
  | true => "tuple_iterator"
  | false => "list_iterator"
def Is : Bool → Heap → Addr → Array Value → Prop
  | true, h, a, xs => h.IsTuple a xs
  | false, h, a, xs => h.IsList a xs
def It (k : Bool) (h : Heap) (it a : Addr) (i : Nat) : Prop := ∃ o, h.get? it = some o ∧ o.cls = .type (nm k) ∧ o.data = .fields #[.ref a, .int i 0]
section
variable {prog : Program} {w : World} {A : Around} {E : Value → Shared → Prop} {s : Shared}
theorem sb {t b : Addr} {h h' : Heap} {o : Obj} (hs : Heap.SameBut t h h') (n : b ≠ t) (e : h.get? b = some o) : h'.get? b = some o := (hs.2 b n).trans e
end
abbrev z1 (k : Bool) (h : Heap) (l1 : Addr) : Heap := h.push { cls := .type (nm k), data := .fields #[.ref l1, .int 0 0] }
abbrev z2 (k m : Bool) (h : Heap) (l1 l2 : Addr) : Heap := (z1 k h l1).push { cls := .type (nm m), data := .fields #[.ref l2, .int 0 0] }
abbrev z3 (k m : Bool) (h : Heap) (l1 l2 : Addr) : Heap := (z2 k m h l1 l2).push { cls := .type "tuple", data := .seq #[.ref h.objs.size, .ref (z1 k h l1).objs.size] }
section
variable {prog : Program} {w : World} {A : Around} {E : Value → Shared → Prop} {s : Shared}
end
section
variable {prog : Program} {w : World} {A : Around} {E : Value → Shared → Prop} {s : Shared}
end
end SQ
namespace L2
open PySem PySem.Spec PyProof.Rows
section
variable {X : Cx} {pins : List (Addr × Obj)} {σ : St} {H : Hp} {s : Shared} {h' : Heap}
theorem Inv.turnedS {t' : Nat} {fp : List Addr} (I : Inv X pins σ H s) (k : ∀ b o, b ∉ fp → s.heap.get? b = some o → h'.get? b = some o) (hf : ∀ b ∈ fp, FpOk X pins H b) : Inv X pins σ H { s with heap := h', toks := t' } := by
  refine I.step (g' := s.gens) (d' := s.drawn) (ch := fp) (fun b hb => ?_) (fun b o _ _ hc e _ => k b o hc e) (fun b o _ _ hc e _ => ⟨o.slots, k b o hc e⟩) (fun _ _ _ _ n => n)
    (fun b o hc e => ⟨o, k b o hc e⟩) (fun _ _ e => e) (fun _ _ _ e => e) (fun b ps e => ⟨#[], by rw [e]; simp⟩) (fun m hm => ?_) (fun b u e => ?_) I.bare
  · obtain ⟨f0, f1, f2, f3, f4, f5⟩ := hf b hb; exact ⟨f3, f1, f4, f5⟩
  · obtain ⟨o, es, ep, ho, r⟩ := hm
    exact ⟨o, es, ep, k _ o (fun z => (hf _ z).2.1 rfl) ho, r⟩
  · refine (I.hok b u e).stay (fun c v hc q => k c v (fun z => ?_) q) (fun _ q => q) fun _ _ q => q
    have hn := (hf c z).1
    rcases hc with y | y
    · rw [y, e] at hn; cases hn
    · rw [y] at hn; cases hn
theorem Inv.turnedP {t' : Nat} {fp : List Addr} {x y : V} {u v : Value} (I : Inv X pins σ H s) (hf : ∀ b ∈ fp, FpOk X pins H b) (hlt : ∀ b ∈ fp, b < s.heap.objs.size) (rx : RelV x u) (ry : RelV y v)
    (k : ∀ b o, b ∉ fp → s.heap.get? b = some o → h'.get? b = some o) (hp : IsPair h' s.heap.objs.size u v) : Inv X pins σ (upd H s.heap.objs.size (.tup [x, y])) { s with heap := h', toks := t' } := by
  have I1 : Inv X pins σ (upd H s.heap.objs.size (.tup [x, y])) { s with heap := s.heap.push { cls := .type "tuple", data := .seq #[u, v] }, toks := t' } :=
    I.laid (t' := t') (fun b u e => Heap.get?_push_of_some _ e) (Nat.le_refl _) ⟨by show 2 ≤ sizeLine; decide, [u, v], .cons rx (.cons ry .nil), ⟨_, Heap.get?_push_size _ rfl, rfl, _, rfl⟩⟩
  refine Inv.turnedS (s := { s with heap := s.heap.push { cls := .type "tuple", data := .seq #[u, v] }, toks := t' }) (fp := fp) (t' := t') (h' := h') I1 (fun b o hb e => ?_) fun b hb => ?_
  · rcases Heap.get?_push_cases e with ⟨rfl, rfl⟩ | e
    · exact hp
    · exact k b o hb e
  · obtain ⟨f0, f1⟩ := hf b hb
    exact ⟨by rw [upd_ne (Nat.ne_of_lt (hlt b hb))]; exact f0, f1⟩
theorem fp_none {fp : List Addr} (hf : ∀ b ∈ fp, FpOk X pins H b) (hlt : ∀ b ∈ fp, b < s.heap.objs.size) {o : HO} : ∀ b ∈ fp, upd H s.heap.objs.size o b = none := fun b hb => by
  rw [upd_ne (Nat.ne_of_lt (hlt b hb))]; exact (hf b hb).1
end
end L2
namespace L2
open PySem PySem.Spec PyProof.Rows
section
variable {X : Cx} {es : List Expr} {n : Nat} {tp : Pos}
end
end L2
namespace PD
open PySem PySem.Spec PyProof.Rows L2
section
variable {X : Cx} {E : XK} {a b : Expr} {pos : Pos}
end
end PD
namespace PD
open PySem PySem.Spec PyProof.Rows L2
def insZ (x : Int) : List Int → List Int
  | [] => [x]
  | y :: r => if x ≤ y then x :: y :: r else y :: insZ x r
def sortZ : List Int → List Int
  | [] => []
  | x :: r => insZ x (sortZ r)
theorem insZ_perm (x : Int) : ∀ l : List Int, (insZ x l).Perm (x :: l)
  | [] => .refl _
  | y :: r => by
    unfold insZ
    split
    · exact .refl _
    · exact ((insZ_perm x r).cons y).trans (.swap x y r)
theorem sortZ_perm : ∀ l : List Int, (sortZ l).Perm l
  | [] => .refl _
  | x :: r => (insZ_perm x _).trans ((sortZ_perm r).cons x)
theorem insZ_sorted (x : Int) : ∀ l : List Int, l.Pairwise (· ≤ ·) → (insZ x l).Pairwise (· ≤ ·)
  | [], _ => List.pairwise_singleton _ _
  | y :: r, h => by
    obtain ⟨h1, h2⟩ := List.pairwise_cons.mp h
    unfold insZ
    split
    · rename_i hxy
      exact List.pairwise_cons.mpr ⟨fun z hz => by
        rcases List.mem_cons.mp hz with rfl | hz
        · exact hxy
        · exact Int.le_trans hxy (h1 z hz), h⟩
    · rename_i hxy
      exact List.pairwise_cons.mpr ⟨fun z hz => by
        rcases List.mem_cons.mp ((insZ_perm x r).mem_iff.mp hz) with rfl | hz
        · omega
        · exact h1 z hz, insZ_sorted x r h2⟩
theorem sortZ_sorted : ∀ l : List Int, (sortZ l).Pairwise (· ≤ ·)
  | [] => .nil
  | x :: r => insZ_sorted x _ (sortZ_sorted r)
theorem sorted_uniq : ∀ {a b : List Int}, a.Perm b → a.Pairwise (· ≤ ·) → b.Pairwise (· ≤ ·) → a = b
  | [], b, p, _, _ => p.nil_eq
  | x :: r, [], p, _, _ => absurd p.length_eq (by simp)
  | x :: r, y :: t, p, h1, h2 => by
    obtain ⟨a1, a2⟩ := List.pairwise_cons.mp h1
    obtain ⟨b1, b2⟩ := List.pairwise_cons.mp h2
    have e : x = y := by
      have hx : x ∈ y :: t := p.mem_iff.mp (.head _)
      have hy : y ∈ x :: r := p.mem_iff.mpr (.head _)
      rcases List.mem_cons.mp hx with h | h
      · exact h
      · rcases List.mem_cons.mp hy with h' | h'
        · exact h'.symm
        · exact Int.le_antisymm (a1 y h') (b1 x h)
    subst e
    rw [sorted_uniq (List.Perm.cons_inv p) a2 b2]
end PD
namespace SQ
open PySem PySem.Spec PyProof.Rows
section
variable {prog : Program} {w : World} {A : Around} {E : Value → Shared → Prop} {s : Shared}
theorem collect_tup {l : Addr} {vs : List Value} {Q : List Value → Shared → Prop} (hl : s.heap.IsTuple l vs.toArray)
    (h : Q vs { s with heap := (s.heap.push (seqObj "list" #[] 0)).update s.heap.objs.size (Obj.mapSeq (· ++ vs.toArray)) }) (hsz : vs.length ≤ sizeLine) : wpAny (model prog w) A (collect (.ref l)) Q E s := by
  obtain ⟨o, ho, hc, n, hd⟩ := id hl; unfold collect; refine wpAny_bind (wpAny_runValue (codeAny_builtin entry_proto_collect' ?_))
  show wpAny _ _ (do again (.builtin "list.__iadd__" ⟨[← newList [], .ref l], []⟩)) _ _ s; refine wpAny_bind (wpAny_newList (wpAny_pure ⟨Code.quiet_builtin _ (by decide +kernel), codeAny_builtin entry_list_iadd' ?_⟩))
  show wpAny _ _ (Builtin.List.listExtendWith (.ref s.heap.objs.size) (.ref l) (.ref s.heap.objs.size)) _ _ { s with heap := s.heap.push (seqObj "list" #[] 0) }; unfold Builtin.List.listExtendWith
  have ho' : (s.heap.push (seqObj "list" #[] 0)).get? l = some o := Heap.get?_push_of_some _ ho
  refine wpAny_bind (wpAny_typeOf (T := "tuple") ⟨o, ho', hc⟩ ?_)
  have ht : (Value.type "tuple" == Value.type "tuple") = true := by rfl
  rw [if_pos (by rw [ht]; simp)]; refine wpAny_bind (listItems_at ho' hd ?_); refine wpAny_bind (listItems_at (xs := #[]) (n := 0) (Heap.get?_push_size _ rfl) rfl ?_); rw [if_neg (by simp)]
  refine wpAny_bind (listUpdate_at (xs := #[]) (n := 0) (Heap.get?_push_size _ rfl) rfl ?_ (Nat.zero_le _) (by show (#[] ++ vs.toArray).size ≤ sizeLine + 1; simp only [Array.size_append, List.size_toArray, List.length_nil]; omega)); refine wpAny_pure ?_
  show wpAny (model prog w) A (do
      let o ← load s.heap.objs.size
      match o.data with
      | .seq xs _ => pure xs.toList
      | _ => unsupported "internal:collect") Q E { s with heap := (s.heap.push (seqObj "list" #[] 0)).update s.heap.objs.size (Obj.mapSeq (· ++ vs.toArray)) }
  refine wpAny_bind (wpAny_load (get?_update_seq (Heap.get?_push_size _ rfl) _) ?_); show wpAny _ _ (pure ((#[] : Array Value) ++ vs.toArray).toList) Q E _
  rw [show ((#[] : Array Value) ++ vs.toArray).toList = vs by simp]; exact wpAny_pure h
theorem collects {k : Bool} {l : Addr} {vs : List Value} {Q : List Value → Shared → Prop} (hl : Is k s.heap l vs.toArray)
    (h : Q vs { s with heap := (s.heap.push (seqObj "list" #[] 0)).update s.heap.objs.size (Obj.mapSeq (· ++ vs.toArray)) }) (hsz : vs.length ≤ sizeLine) : wpAny (model prog w) A (collect (.ref l)) Q E s := by
  cases k with
  | true => exact collect_tup hl h hsz
  | false => exact collect_list hl h hsz
end
end SQ
namespace PD
open PySem PySem.Spec PyProof.Rows L2
section
variable {X : Cx} {E : XK}
theorem ints_are {K : PySem.W.Frag} {w : Wd} {H : Hp} : ∀ {ds : List D} {vs : List V} {us : List Value} {ns : List Int}, RDs K w H ds vs → Vals vs us → intsOf ds = some ns → IntsAre us ns
  | [], _, _, _, q, r, h => by
    rw [q.nil_inv] at r
    cases r
    unfold intsOf at h
    cases h
    exact .nil
  | d :: ds, _, _, ns, q, r, h => by
    obtain ⟨y, vs, rfl, p, t⟩ := q.cons_inv
    cases d with
    | int b =>
      unfold intsOf at h
      cases e' : intsOf ds with
      | none => rw [e'] at h; cases h
      | some cs =>
        rw [e'] at h; cases h
        cases p.int
        cases r with
        | cons r1 r2 =>
          obtain ⟨t', rfl⟩ := r1
          exact .cons _ _ (ints_are t r2 e')
    | _ => unfold intsOf at h; cases h
theorem vals_of : ∀ {us : List Value} {ns : List Int}, IntsAre us ns → Vals (ns.map .int) us
  | _, _, .nil => .nil
  | _, _, .cons _ _ h => .cons ⟨_, rfl⟩ (vals_of h)
theorem rds_ints {K : PySem.W.Frag} {w : Wd} {H : Hp} : ∀ ns : List Int, RDs K w H (ns.map .int) (ns.map .int)
  | [] => .nil
  | n :: ns => .cons (by unfold RD; rfl) (rds_ints ns)
end
end PD
namespace PD
open PySem PySem.Spec PyProof.Rows L2
def eBR (f : Sto → List D → R D) (t : AM) : EM := fun r S => (t r S).bind fun xs S1 => f S1 xs
def xCR (K : PySem.W.Frag) (E : XK) (f : Sto → List D → R D) : List V → Hp → VK → Prop := fun xs H Q => ∃ w S ds, RS K w H S ∧ RDs K w H ds xs ∧ Post K E (RD K) w H (f S ds) Q
section
variable {X : Cx} {E : XK} {a b : Expr} {es : List Expr} {ms : AM} {x : Str} {p pos : Pos}
theorem se_callTyR {T : String} {f : Sto → List D → R D} (hc : CallR X (.type T) (xCR X.K E f)) (hg : Gl X x) (hm : X.mg x = none) (hv : bootBuiltins x = some (.type T)) (ha : SA X E (a :: es) ms) (hn : x ≠ "__name__" := by decide +kernel) (hdb : (x == ("__debug__" : Str)) = false := by decide +kernel)
    (he : starEach (a :: es) X.env = (false, eval a X.env) :: starEach es X.env := by kernel_rfl) (hpl : (backTo pos (starEach es X.env)).any (·.1) = false := by kernel_rfl) : SE X E (.Call (.Name x p) (a :: es) [] pos) (eBR f ms) := ⟨
  pe_weak (pe_callTy hc hg hm hv ha.out hn hdb he hpl) fun s H Q ⟨w, r, S, hr, hS, hp⟩ => ⟨w, r, S, hr, hS, hp.bind hS fun ds S1 w1 H1 vs x1 q1 s1 p1 => ⟨w1, S1, ds, s1, q1, p1⟩⟩⟩
def mPopAt : Sto → D → List D → R D
  | S, .ref n, [.int i] => match S[n]? with
    | some (.lst a) => if 0 ≤ i ∧ i < a.length then (match a[i.toNat]? with
      | some y => .ok y (S.set n (.lst (a.eraseIdx i.toNat)))
      | none => .bad) else .bad
    | _ => .bad
  | _, _, _ => .bad
theorem erase_rds {K : PySem.W.Frag} {w : Wd} {H : Hp} : ∀ {ds : List D} {vs : List V} (i : Nat), RDs K w H ds vs → RDs K w H (ds.eraseIdx i) (vs.eraseIdx i)
  | [], _, i, q => by rw [q.nil_inv]; exact .nil
  | d :: ds, _, 0, q => by
    obtain ⟨y, vs, rfl, p, t⟩ := q.cons_inv
    exact t
  | d :: ds, _, i + 1, q => by
    obtain ⟨y, vs, rfl, p, t⟩ := q.cons_inv
    exact .cons p (erase_rds i t)
theorem xm_popAt : MtR X "list.pop" (xM X.K E mPopAt) := by
  rintro pins s σ H x xs v us Q I rx rs ⟨w, S, d, ds, hS, qd, qs, p⟩
  unfold mPopAt at p
  split at p
  · rename_i n i
    split at p
    · rename_i a hn
      split at p
      · rename_i hi
        split at p
        · rename_i y hy
          obtain ⟨pp, rfl, hp⟩ := qd.refI
          obtain ⟨iv, rfl, qi⟩ := qs.one_inv
          cases qi.int
          obtain ⟨p', hp', vs, hv, ra⟩ := hS.obj _ _ hn
          rw [hp] at hp'; cases hp'
          have hm : pp ∈ w.st := List.mem_of_getElem? hp
          have hl : vs.length = a.length := ra.length
          obtain ⟨yv, hyv, ry⟩ := ra.get hy
          have hz : vs.length ≤ sizeLine := (I.lstM hv).1
          have hb : (a.length : Int) < 2 ^ 63 := by
            have : sizeLine < 2 ^ 62 := by decide
            have e : (2 : Int) ^ 63 = ((2 ^ 63 : Nat) : Int) := by norm_cast
            rw [e]
            have : a.length < 2 ^ 63 := by omega
            exact_mod_cast this
          refine mt_popAt pins s σ H _ _ v us Q I rx rs ⟨pp, vs, i, i.toNat, yv, rfl, rfl, hv, by omega, by omega, seqIndex_of hi.1 (by rw [hl]; exact hi.2), hyv, p.at (Ext.mut hm hv) (RD.ext (Ext.mut hm hv) _ _ ry) ?_⟩
          exact hS.mut hp hv ⟨_, upd_same, RDs.ext (Ext.mut hm hv) _ _ (erase_rds _ ra)⟩
        · exact p.elim
      · exact p.elim
    · exact p.elim
  · exact p.elim
end
end PD
namespace PD
open PySem PySem.Spec PyProof.Rows L2
section
variable {M : Model} {A : Around} {E : Value → Shared → Prop} {s : Shared}
end
section
variable {X : Cx} {pins : List (Addr × Obj)} {σ : L2.St} {H : Hp} {s : Shared}
end
end PD
namespace PD
open PySem PySem.Spec PyProof.Rows L2
end PD
namespace PD
open PySem PySem.Spec PyProof.Rows L2
def dicOf (S : Sto) : D → Option (List (KD × D))
  | .dic kvs => some kvs
  | .ref n => match S[n]? with
    | some (.dic kvs) => some kvs
    | some (.fdic kvs) => some kvs
    | _ => none
  | _ => none
def getK (kvs : List (KD × D)) (k : KD) : Option D := (kvs.find? fun kv => decide (kv.1 = k)).map (·.2)
section
variable {K : PySem.W.Frag} {w : Wd} {H : Hp} {S : Sto}
theorem dic_at {d : D} {v : V} {kvs : List (KD × D)} (hS : RS K w H S) (q : RD K w H d v) (h : dicOf S d = some kvs) : ∃ p us, v = .ref p ∧ Rd H p (.dK us) ∧ RDk K w H kvs us := by
  unfold dicOf at h
  split at h
  · cases h
    unfold RD at q
    obtain ⟨p, us, rfl, z, r⟩ := q
    exact ⟨p, us, rfl, .inl z.1, r⟩
  · rename_i n
    obtain ⟨p, rfl, hp⟩ := q.refI
    split at h
    · rename_i e; cases h
      obtain ⟨p', hp', us, hv, r⟩ := hS.obj _ _ e
      rw [hp] at hp'; cases hp'
      exact ⟨p, us, rfl, .inl hv, r⟩
    · rename_i e; cases h
      obtain ⟨p', hp', o, us, hv, r⟩ := hS.obj _ _ e
      rw [hp] at hp'; cases hp'
      exact ⟨p, us, rfl, .inr ⟨o, hv⟩, r⟩
    · cases h
  · cases h
theorem RDk.get (k : KD) : ∀ {ds : List (KD × D)} {us : List (Key × V)}, RDk K w H ds us → (∀ d, getK ds k = some d → ∃ v, valV us k = some v ∧ RD K w H d v) ∧ (getK ds k = none → valV us k = none)
  | [], us, q => by
    rw [q.nil_inv]
    exact ⟨fun d h => (by cases h), fun _ => rfl⟩
  | (j, d) :: ds, _, q => by
    obtain ⟨v, r, rfl, p, t⟩ := q.cons_inv
    by_cases hj : j = k
    · have e1 : getK ((j, d) :: ds) k = some d := by unfold getK; rw [List.find?_cons]; simp [hj]
      have e2 : valV ((j, v) :: r) k = some v := by unfold valV; rw [List.find?_cons]; simp [hj]
      rw [e1, e2]
      exact ⟨fun d' h => by cases h; exact ⟨v, rfl, p⟩, fun h => by cases h⟩
    · have e1 : getK ((j, d) :: ds) k = getK ds k := by unfold getK; rw [List.find?_cons]; simp [hj]
      have e2 : valV ((j, v) :: r) k = valV r k := by unfold valV; rw [List.find?_cons]; simp [hj]
      rw [e1, e2]
      exact RDk.get k t
end
section
variable {X : Cx} {E : XK}
theorem xi_or {o o1 o2 : Sto → D → D → Option D} (h1 : IxR X (xO X.K E o1)) (h2 : IxR X (xO X.K E o2)) (h : ∀ S x y, o S x y = o1 S x y ∨ o S x y = o2 S x y) : IxR X (xO X.K E o) := by
  rintro va sl pins s σ H x y v u Q I rx ry ⟨w, S, d, e, hS, qd, qe, p⟩ hsub
  rcases h S d e with z | z
  · exact h1 va sl pins s σ H x y v u Q I rx ry ⟨w, S, d, e, hS, qd, qe, z ▸ p⟩ hsub
  · exact h2 va sl pins s σ H x y v u Q I rx ry ⟨w, S, d, e, hS, qd, qe, z ▸ p⟩ hsub
theorem Room.hu {k : Nat} {A : Around} (r : Room k A) : A.units + 1 < cLine := by have := r.un; omega
def oGet : Sto → D → D → Option D := fun S x y => match dicOf S x, keyD y with
  | some kvs, some k => getK kvs k
  | _, _ => none
def oIxD : Sto → D → D → Option D := fun S x y => if (seqOf S x).isSome then oIx S x y else oGet S x y
theorem xi_get {k : Nat} (hr : Room k X.A) : IxR X (xO X.K E oGet) := by
  rintro va sl pins s σ H x y v u Q I rx ry ⟨w, S, d, e, hS, qd, qe, p⟩ hsub
  obtain ⟨z, hz, p⟩ := p.of
  unfold oGet at hz
  split at hz
  · rename_i kvs k e1 e2
    obtain ⟨pp, us, rfl, rd, rk⟩ := dic_at hS qd e1
    cases rx
    have ey := keyD_ok qe e2
    subst ey
    obtain ⟨vv, hv, rv⟩ := (rk.get k).1 z hz
    have g : DGet H pp (kV k) (some vv) := .inl ⟨us, k, rd, rfl, hv.symm⟩
    have hT := dict_typeIs I g
    have h2 : wpAny (model X.prog X.w) X.A (getItem (.ref pp) u) (EP X pins σ Q) X.xe s := d_getItem (Room.hu hr) I g ry fun w' s' I' r' => ⟨vv, H, I', r', p.ret rv hS⟩
    unfold subscriptTail; refine wpAny_bind ?_; rw [getitemInPython_of_ne hT.not_modules]; refine wpAny_bind (wpAny_specialOf hT PySem.F.slot_dict_getitem.lookup ?_)
    have fin : wpAny (model X.prog X.w) X.A (subscripted sl false (.ref pp) u) (fun r s₃ => wpAny (model X.prog X.w) X.A (letTemporaryGo va (.ref pp) r >>= fun _ => pure r) (EP X pins σ Q) X.xe s₃) X.xe s := by
      rw [hsub]; exact wpAny_operating (wpAny_mono h2 (fun r s₃ h₃ => wpAny_bind (wpAny_letTemporaryGo (wpAny_pure h₃))) fun _ _ x => x)
    first | exact wpAny_pure (wpAny_bind fin) | exact wpAny_bind (wpAny_pure (wpAny_bind fin)) | exact wpAny_bind fin
  · cases hz
theorem xi_ixD {k : Nat} (hr : Room k X.A) : IxR X (xO X.K E oIxD) := xi_or xi_ix (xi_get hr) fun S x y => by
  unfold oIxD
  cases (seqOf S x).isSome with
  | true => exact .inl rfl
  | false => exact .inr rfl
def fPutK : Sto → D → D → D → Option Sto
  | S, .ref n, y, v => match S[n]? with
    | some (.dic kvs) => match keyD y with
      | some k => if kvs.length < sizeLine then some (S.set n (.dic (putD kvs k v))) else none
      | none => none
    | _ => none
  | _, _, _, _ => none
def isDic (S : Sto) : D → Bool
  | .ref n => match S[n]? with
    | some (.dic _) => true
    | _ => false
  | _ => false
def fPutD : Sto → D → D → D → Option Sto := fun S x y v => if isDic S x then fPutK S x y v else fPut S x y v
theorem xs_putK {k : Nat} (hr : Room k X.A) : PSet X (xS X.K fPutK) := by
  rintro pins s σ H o i v ov iv u Q I ro ri ru ⟨w, S, x, y, z, S', hS, qx, qy, qz, hf, kk⟩
  unfold fPutK at hf
  split at hf
  · rename_i n
    split at hf
    · rename_i kvs hn
      split at hf
      · rename_i ky hk
        split at hf
        · rename_i hl
          cases hf
          obtain ⟨pp, rfl, hp⟩ := qx.refI
          cases ro
          obtain ⟨p', hp', us, hv, rk⟩ := hS.obj _ _ hn
          rw [hp] at hp'; cases hp'
          have ey := keyD_ok qy hk
          subst ey
          have hm : pp ∈ w.st := List.mem_of_getElem? hp
          have hul : us.length < sizeLine := by rw [rk.length]; exact hl
          refine d_setItem (Room.hu hr) I (DPut.k hv hul) ri ru fun s' I' => ⟨_, I', kk w _ (Ext.mut hm hv) (hS.mut hp hv ⟨_, upd_same, ?_⟩)⟩
          exact RDk.ext (Ext.mut hm hv) _ _ (rk.put ky qz)
        · cases hf
      · cases hf
    · cases hf
  · cases hf
theorem xs_or {f f1 f2 : Sto → D → D → D → Option Sto} (h1 : PSet X (xS X.K f1)) (h2 : PSet X (xS X.K f2)) (h : ∀ S x y v, f S x y v = f1 S x y v ∨ f S x y v = f2 S x y v) : PSet X (xS X.K f) := by
  rintro pins s σ H o i v ov iv u Q I ro ri ru ⟨w, S, x, y, z, S', hS, qx, qy, qz, hf, kk⟩
  rcases h S x y z with e | e
  · exact h1 pins s σ H o i v ov iv u Q I ro ri ru ⟨w, S, x, y, z, S', hS, qx, qy, qz, e ▸ hf, kk⟩
  · exact h2 pins s σ H o i v ov iv u Q I ro ri ru ⟨w, S, x, y, z, S', hS, qx, qy, qz, e ▸ hf, kk⟩
theorem xs_putD {k : Nat} (hr : Room k X.A) : PSet X (xS X.K fPutD) := xs_or (xs_putK hr) xs_put fun S x y v => by
  unfold fPutD
  cases isDic S x with
  | true => exact .inl rfl
  | false => exact .inr rfl
def eGet2 (o a b : EM) : EM := fun r S => (o r S).bind fun d S1 => if (dicOf S1 d).isSome = true then (a r S1).bind fun y S2 => (b r S2).bind fun z S3 => (match dicOf S3 d, keyD y with
    | some kvs, some k => R.ok ((getK kvs k).getD z) S3
    | _, _ => R.bad) else R.bad
theorem m2_mk {o e f : Expr} {m : Str} {apos cpos : Pos} (h1 : attributeBase o m X.env (eval o X.env) = eval o X.env) (h2 : ((backTo cpos (starEach [e, f] X.env)).all (fun x => !x.1) && (backToKw cpos (keywordEach [] X.env)).all (fun x => x.1.isSome)
    && decide (([e, f] : List Expr).length + ([] : List Keyword).length + (if ([] : List Keyword).isEmpty then 0 else 1) < 30)) = true) (h3 : (apos.endLine == cpos.line) = true) (h4 : backTo cpos (starEach [e, f] X.env) = [(false, eval e X.env), (false, eval f X.env)]) : M2 X o m apos e f cpos := ⟨h1, h2, h3, h4⟩
theorem se_get2 {o e f : Expr} {mo ma mb : EM} {apos cpos : Pos} {k : Nat} (hr : Room k X.A) (ho : SE X E o mo) (ha : SE X E e ma) (hb : SE X E f mb) (m : M2 X o "get" apos e f cpos) : SE X E (.Call (.Attribute o "get" apos) [e, f] [] cpos) (eGet2 mo ma mb) := ⟨
  pe_weak (pe_dget2 (Room.hu hr) ho.out ha.out hb.out m) fun s H Q ⟨w, r, S, hrr, hS, hp⟩ => ⟨w, r, S, hrr, hS, hp.bind hS fun d S1 w1 H1 v x1 q1 s1 p1 => by
    cases hd : dicOf S1 d with
    | none => rw [hd] at p1; exact p1.elim
    | some kvs =>
      rw [hd] at p1
      obtain ⟨pp, us, rfl, rd, rk⟩ := dic_at s1 q1 hd
      refine ⟨pp, rfl, .inl ⟨us, rd⟩, w1, r, S1, hrr.ext x1, s1, Post.bind (rel := RD X.K) p1 s1 fun y S2 w2 H2 vy x2 q2 s2 p2 => ⟨w2, r, S2, (hrr.ext x1).ext x2, s2, Post.bind (rel := RD X.K) p2 s2 fun z S3 w3 H3 vz x3 q3 s3 p3 => ?_⟩⟩
      have q1' := RD.ext x3 _ _ (RD.ext x2 _ _ q1)
      have q2' := RD.ext x3 _ _ q2
      cases hd3 : dicOf S3 d with
      | none => rw [hd3] at p3; exact p3.elim
      | some kvs3 =>
        cases hk : keyD y with
        | none => rw [hd3, hk] at p3; exact p3.elim
        | some ky =>
          rw [hd3, hk] at p3
          obtain ⟨pp3, us3, e3, rd3, rk3⟩ := dic_at s3 q1' hd3
          cases e3
          have ey := keyD_ok q2' hk
          subst ey
          refine ⟨valV us3 ky, .inl ⟨us3, ky, rd3, rfl, rfl⟩, ?_⟩
          obtain ⟨g1, g2⟩ := rk3.get ky
          have p4 : Post X.K E (RD X.K) w3 H3 (R.ok ((getK kvs3 ky).getD z) S3) Q := p3
          cases hg : getK kvs3 ky with
          | none => rw [hg] at p4; rw [g2 hg]; exact Post.ret p4 q3 s3
          | some dd => rw [hg] at p4; obtain ⟨vd, hv, rv⟩ := g1 dd hg; rw [hv]; exact Post.ret p4 rv s3⟩⟩
end
end PD
namespace L2
open PySem PySem.Spec PyProof.Rows
theorem kV_of_is {P : Program} {w : World} {k : Key} {u : Value} (h : (mixKind P w).is k u = true) : RelV (kV k) u := by
  rw [mixKind_is] at h
  cases k with
  | inl i => obtain ⟨t, e⟩ := Value.isInt_shape (k := i) (v := u) h; exact ⟨t, e⟩
  | inr x => obtain ⟨t, e⟩ := Value.isStrOf_shape (x := x) (v := u) h; exact ⟨t, e⟩
theorem KV.getI {kvs : List (Key × V)} {vs : List (Key × Value)} (r : KV kvs vs) {i : Nat} {k : Key} {x : V} (h : kvs[i]? = some (k, x)) : ∃ v, vs[i]? = some (k, v) ∧ RelV x v := by
  unfold KV at r
  induction r generalizing i with
  | nil => simp at h
  | cons hd tl ih =>
    cases i with
    | zero =>
      simp at h
      rename_i p q _ _
      obtain ⟨e, rv⟩ := hd
      subst h
      exact ⟨q.2, by simp; exact Prod.ext e.symm rfl, rv⟩
    | succ i => simpa using ih (by simpa using h)
def Iti (a : Addr) (o : Obj) (us : List (Key × V)) : It :=
  ⟨fun i H => H a = some (.frz o (.dK us)) ∧ ∃ kv, us[i]? = some kv,
   fun i H v H' => ∃ p k x, v = .ref p ∧ H p = none ∧ H' = upd H p (.tup [kV k, x]) ∧ us[i]? = some (k, x),
   fun i H => H a = some (.frz o (.dK us)) ∧ us.length ≤ i⟩
theorem frz_at {X : Cx} {pins : List (Addr × Obj)} {σ : St} {H : Hp} {s : Shared} {a : Addr} {o : Obj} {us : List (Key × V)} {es : Array DictEntry} {ep : Nat} (I : Inv X pins σ H s) (h : H a = some (.frz o (.dK us))) (ed : o.data = .dict es ep) :
    ∃ vs, KV us vs ∧ s.heap.DictAt (mixKind X.prog X.w) a vs ep ∧ (a == sysModules) = false := by
  obtain ⟨e, z, hd, vs, rel, ⟨o', es', ep', ho, hx, hdat, k1, k2, k3⟩⟩ : s.heap.get? a = some o ∧ ObjOk X.prog X.w H s.heap a (.dK us) := I.hok a _ h
  rw [e] at ho; cases ho
  rw [ed] at hdat; cases hdat
  exact ⟨vs, rel, ⟨o, es, e, hx, ed, k1, k2, k3⟩, hd⟩
theorem entry_itemit : entryFor table "dict_itemiterator.__iter__" = some Builtin.«dict_keyiterator.__iter__» :=
  entryFor_alias (id' := "dict_keyiterator.__iter__") (by kernel_rfl) (by first | rfl | decide +kernel | (unfold String.splitOn; simp +decide [String.splitOnAux])) (by decide +kernel) (by kernel_rfl)
theorem iter_itemit {prog : Program} {w : World} {A : Around} {E : Value → Shared → Prop} {s : Shared} {it d : Addr} {i n ep : Nat} {ok ov : Value} {Q : Value → Shared → Prop} (hz : IsItemIter s.heap it d i n ep ok ov) (h : Q (.ref it) s) : wpAny (model prog w) A (pyIter (.ref it)) Q E s := by
  have hT : s.TypeIs (.ref it) "dict_itemiterator" := ⟨_, hz, rfl⟩
  refine wpAny_pyIter_slot hT F.slot_dict_itemiterator_iter (wpAny_call_entry F.slot_dict_itemiterator_iter hT entry_itemit ?_ (F.args_dict_itemiterator_iter_1 _))
  show wpAny _ _ (ret (.ref it)) _ _ s
  exact wpAny_pure ⟨_, rfl, "dict_itemiterator", _, hT, F.slot_dict_itemiterator_next.lookup, h⟩
theorem turn_items {P : Program} {w : World} {K : PySem.W.Frag} {es : List Expr} {n : Nat} {pos : Pos} (it a : Addr) (o : Obj) (us : List (Key × V)) (ee : Array DictEntry) (ep : Nat) (ed : o.data = .dict ee ep) (na : a ≠ it) :
    Turn false P w K (.Tuple es n pos) (Iti a o us) [it] it (fun i h => ∃ ok ov, IsItemIter h it a i us.length ep ok ov) where
  mem := by simp
  obj := fun i h ⟨ok, ov, st⟩ c hc => by
    simp only [List.mem_cons, List.not_mem_nil, or_false] at hc
    subst hc
    exact ⟨_, st, fun v z => by cases z⟩
  keep := fun i h h' ⟨ok, ov, st⟩ q => ⟨ok, ov, q it (by simp) _ st⟩
  item := by
    intro X hP hw hK hc i pins s σ H E I hf ⟨ok, ov, st⟩ hg
    subst hP hw hK
    obtain ⟨ha, ⟨k, x⟩, hx⟩ := hg
    obtain ⟨vs, rel, dd, _⟩ := frz_at I ha ed
    obtain ⟨v, hv, rv⟩ := rel.getI hx
    have hl := rel.length
    rw [hl] at st
    have hlt : ∀ c ∈ [it], c < s.heap.objs.size := fun c hc => by
      simp only [List.mem_cons, List.not_mem_nil, or_false] at hc
      subst hc
      exact Heap.lt_size st
    refine wpAny_pyNext_items_item st dd hv fun key h' hk a1 a2 a3 a4 => ⟨_, rfl, ?_⟩
    refine wpAny_letOwnedTupleGo_items (s := { s with heap := h' }) a1 fun h2' hz' hs' => ?_
    have up : ∀ c ob, c ≠ it → h'.get? c = some ob → h2'.get? c = some ob := fun c ob n q => SQ.sb hs' n q
    refine ⟨.ref s.heap.objs.size, _, I.turnedP (t' := s.toks) (h' := h2') hf hlt (kV_of_is hk) rv (fun c ob hc q => up c ob (fun r => hc (by simp [r])) (a4 c ob (fun r => hc (by simp [r])) q)) (up _ _ (Nat.ne_of_gt (Heap.lt_size st)) a2), rfl,
      ⟨_, k, x, rfl, I.fresh, rfl, hx⟩, ⟨_, _, by rw [hl]; exact hz'⟩, fp_none hf hlt⟩
  done := by
    intro X hP hw hK hc i pins s σ H E I hf ⟨ok, ov, st⟩ hg
    subst hP hw hK
    obtain ⟨ha, hx⟩ := hg
    obtain ⟨vs, rel, dd, _⟩ := frz_at I ha ed
    have hl := rel.length
    rw [hl] at st
    exact wpAny_pyNext_items_end (I.ok.hd hc.cm) st dd (by simp; omega) fun h' eb => ⟨rfl, I.turnedS (t' := s.toks) (fun b ob hb q => eb b ob (fun r => hb (by simp [r])) q) hf⟩
  self := fun _ _ _ _ _ ⟨_, _, st⟩ h => iter_itemit st h
theorem Inv.freeze {X : Cx} {pins : List (Addr × Obj)} {σ : St} {H : Hp} {s : Shared} {a : Addr} {us : List (Key × V)} (I : Inv X pins σ H s) (h : H a = some (.dK us)) : ∃ o, Inv X pins σ (upd H a (.frz o (.dK us))) s := by
  obtain ⟨z, hd, vs, rel, ⟨o, es, ep, ho, r⟩⟩ : ObjOk X.prog X.w H s.heap a (.dK us) := I.hok a _ h
  have I2 : Inv X pins σ (upd H a (.frz o (.dK us))) { s with heap := s.heap, toks := s.toks } := I.write (x := a) (e := a) (by rw [h]; exact True.intro) (.inl rfl) (fun b u _ q => q) ⟨o, ho⟩ ⟨ho, z, hd, vs, rel, ⟨o, es, ep, ho, r⟩⟩
  exact ⟨o, I2⟩
def iItems (td : TE) : TI := fun σ H R => td σ H fun x H1 => ∃ a us, x = .ref a ∧ ((H1 a = some (.dK us) ∧ ∀ o, R (Iti a o us) (upd H1 a (.frz o (.dK us)))) ∨ ∃ o, H1 a = some (.frz o (.dK us)) ∧ R (Iti a o us) H1)
theorem pi_items {X : Cx} {es : List Expr} {n : Nat} {tp : Pos} {d : Expr} {td : TE} {apos pos : Pos} (hd : PE X d td) (hbase : attributeBase d "items" X.env (eval d X.env) = eval d X.env := by kernel_rfl) (hline : (apos.endLine == pos.line) = true := by kernel_rfl)
    (hfew : ((backTo pos (starEach [] X.env)).all (fun x => !x.1) && (backToKw pos (keywordEach [] X.env)).all (fun x => x.1.isSome) && decide (([] : List Expr).length + ([] : List Keyword).length + (if ([] : List Keyword).isEmpty then 0 else 1) < 30)) = true := by kernel_rfl) :
    PI X (.Tuple es n tp) (.Call (.Attribute d "items" apos) [] [] pos) (iItems td) := by
  intro pins s σ H R I h
  refine wpAny_Call_method (T := "dict") (id := "dict.items") hbase hfew hline F.plainAttrs_dict F.slot_dict_items F.type_dict_items (thn (hd pins s σ H _ I h) fun u s1 ⟨x, H1, I1, rx, a, us, ex, q1⟩ => ?_)
  subst ex
  obtain rfl : u = Value.ref a := rx
  have main : ∀ (H2 : Hp) (o : Obj), Inv X pins σ H2 s1 → H2 a = some (.frz o (.dK us)) → R (Iti a o us) H2 → s1.TypeIs (.ref a) "dict" ∧ (∀ b, Value.ref a = .ref b → ∃ ob, s1.heap.get? b = some ob ∧ ob.dict = none) ∧
      wpAny (model X.prog X.w) X.A (callWith pos (.builtin "dict.items") [.ref a] (backTo pos (starEach [] X.env)) []) (fun v s2 => wpAny (model X.prog X.w) X.A (pyIter v) (PIE X pins σ (.Tuple es n tp) R) X.xe s2) X.xe s1 := fun H2 o I2 hH2 q => by
    obtain ⟨t1, t2, t3⟩ := isD_at I2 (a := a) (.inl ⟨us, .inr ⟨o, hH2⟩⟩)
    refine ⟨t1, t2, ?_⟩
    obtain ⟨eo, z, hdd, vs, rel, ⟨o', ee, ep, ho, hx, hdat, k1, k2, k3⟩⟩ : s1.heap.get? a = some o ∧ ObjOk X.prog X.w H2 s1.heap a (.dK us) := I2.hok a _ hH2
    rw [eo] at ho; cases ho
    have dat : s1.heap.DictAt (mixKind X.prog X.w) a vs ep := ⟨o, ee, eo, hx, hdat, k1, k2, k3⟩
    show wpAny _ _ (callWith pos (.builtin "dict.items") [.ref a] [] []) _ _ s1
    refine method_meetsIn F.slot_dict_items F.entry_dict_items rfl (PySem.evalArgs_none ⟨rfl, t1, F.args_dict_items_1 _, _, meets_dict_items (mixKind X.prog X.w) a t3, ⟨vs, dat.dictOf⟩, ?_⟩)
    have I3 : Inv X pins σ H2 { s1 with heap := s1.heap.push { cls := .type "dict_items", data := .fields #[.ref a] } } := I2.kept (t' := s1.toks) fun b u e => Heap.get?_push_of_some _ e
    refine wpAny_pyIter_items (s := { s1 with heap := s1.heap.push { cls := .type "dict_items", data := .fields #[.ref a] } }) ⟨_, Heap.get?_push_size _ rfl, rfl, rfl⟩ (dat.push _) ?_
    have hl := rel.length
    have la : a < s1.heap.objs.size := Heap.lt_size eo
    have sz : ({ s1 with heap := s1.heap.push { cls := .type "dict_items", data := .fields #[.ref a] } } : Shared).heap.objs.size = s1.heap.objs.size + 1 := Heap.size_push ..
    refine ⟨_, [_], _, _, H2, rfl, I3.kept (t' := s1.toks) fun b u e => Heap.get?_push_of_some _ e, turn_items _ a o us ee ep hdat (by rw [sz]; exact Nat.ne_of_lt (Nat.lt_succ_of_lt la)), ⟨.none, .none, by rw [hl]; exact Heap.get?_push_size _ rfl⟩, fun c hc => ?_, q⟩
    have ec : c = ({ s1 with heap := s1.heap.push { cls := .type "dict_items", data := .fields #[.ref a] } } : Shared).heap.objs.size := by simpa using hc
    subst ec
    exact I3.fpOk (Nat.le_refl _) (I3.hok.fresh (Nat.le_refl _))
  rcases q1 with ⟨hH, q⟩ | ⟨o, hH, q⟩
  · obtain ⟨o, I2⟩ := I1.freeze hH
    exact main _ o I2 upd_same (q o)
  · exact main _ o I1 hH q
end L2
namespace PD
open PySem PySem.Spec PyProof.Rows L2
def kD : KD → D
  | .inl i => .int i
  | .inr x => .str x
def pairD (kv : KD × D) : D := .tup [kD kv.1, kv.2]
def aItems (m : EM) : AM := fun r S => (m r S).bind fun d S1 => match d with
  | .ref n => match S1[n]? with
    | some (.dic kvs) => .ok (kvs.map pairD) (S1.set n (.fdic kvs))
    | some (.fdic kvs) => .ok (kvs.map pairD) S1
    | _ => .bad
  | _ => .bad
theorem RDk.getI {K : PySem.W.Frag} {w : Wd} {H : Hp} : ∀ {ds : List (KD × D)} {us : List (Key × V)} {i : Nat} {k : KD} {d : D}, RDk K w H ds us → ds[i]? = some (k, d) → ∃ v, us[i]? = some (k, v) ∧ RD K w H d v
  | [], _, _, _, _, _, h => by simp at h
  | (j, e) :: ds, _, i, k, d, q, h => by
    obtain ⟨v, r, rfl, p, t⟩ := q.cons_inv
    cases i with
    | zero => simp at h; obtain ⟨rfl, rfl⟩ := h; exact ⟨v, by simp, p⟩
    | succ i => simpa using RDk.getI t (by simpa using h)
theorem kD_rel {K : PySem.W.Frag} {w : Wd} {H : Hp} (k : KD) : RD K w H (kD k) (kV k) := by
  cases k with
  | inl i => unfold kD RD; rfl
  | inr x => unfold kD RD; rfl
theorem ri_items {K : PySem.W.Frag} {w : Wd} {H : Hp} {a : Addr} {o : Obj} {kvs : List (KD × D)} {us : List (Key × V)} (hst : ∀ w' H', Ext w H w' H' → H' a = some (.frz o (.dK us))) (rk : RDk K w H kvs us) : RI K w H (kvs.map pairD) (Iti a o us) := by
  intro i w' H' x'
  have rk' := RDk.ext x' _ _ rk
  have hl := rk.length
  have ha := hst w' H' x'
  refine ⟨fun hi => ?_, fun hi => ⟨ha, by rw [List.length_map] at hi; omega⟩⟩
  rw [List.length_map] at hi
  refine ⟨⟨ha, us[i]'(by omega), List.getElem?_eq_getElem _⟩, fun v H'' y => ?_⟩
  obtain ⟨p, k, x, rfl, hp, rfl, hx⟩ := y
  obtain ⟨v2, e2, r2⟩ := rk'.getI (i := i) (k := kvs[i].1) (d := kvs[i].2) (by rw [List.getElem?_eq_getElem hi])
  rw [hx] at e2
  cases e2
  refine ⟨.inr ⟨p, _, hp, rfl⟩, fun S hS => ⟨pairD kvs[i], by simp [hi], ?_⟩⟩
  unfold pairD RD
  refine ⟨p, [kV kvs[i].1, x], rfl, .inl ⟨upd_same, hS.fresh hp⟩, ?_⟩
  unfold RDs RDs RDs
  exact ⟨_, _, rfl, kD_rel _, _, _, rfl, RD.ext (Ext.new hp) _ _ r2, rfl⟩
section
variable {X : Cx} {E : XK}
theorem si_items {es : List Expr} {n : Nat} {tp : Pos} {d : Expr} {md : EM} {apos pos : Pos} (ha : SE X E d md) (hbase : attributeBase d "items" X.env (eval d X.env) = eval d X.env := by kernel_rfl) (hline : (apos.endLine == pos.line) = true := by kernel_rfl)
    (hfew : ((backTo pos (starEach [] X.env)).all (fun x => !x.1) && (backToKw pos (keywordEach [] X.env)).all (fun x => x.1.isSome) && decide (([] : List Expr).length + ([] : List Keyword).length + (if ([] : List Keyword).isEmpty then 0 else 1) < 30)) = true := by kernel_rfl) :
    SI X E (.Tuple es n tp) (.Call (.Attribute d "items" apos) [] [] pos) (aItems md) := ⟨
  pi_weak (pi_items ha.out hbase hline hfew) fun s H Q ⟨w, r, S, hr, hS, hp⟩ => ⟨w, r, S, hr, hS, hp.bind hS fun d S1 w1 H1 v x1 q1 s1 p1 => by
    cases d with
    | ref m =>
      obtain ⟨pp, rfl, hp⟩ := q1.refI
      have hm : pp ∈ w1.st := List.mem_of_getElem? hp
      cases e : S1[m]? with
      | none => simp only [e] at p1; exact p1.elim
      | some ob =>
        obtain ⟨p', hp', ro⟩ := s1.obj _ _ e
        rw [hp] at hp'; cases hp'
        cases ob with
        | dic kvs =>
          simp only [e] at p1
          obtain ⟨us, hv, rk⟩ := ro
          refine ⟨pp, us, rfl, .inl ⟨hv, fun o => ?_⟩⟩
          have rk' := RDk.ext (Ext.mut hm hv (o := .frz o (.dK us))) _ _ rk
          exact Post.at p1 (Ext.mut hm hv) (ri_items (fun w' H' x' => x'.frz _ _ _ upd_same) rk') (s1.mut hp hv ⟨o, us, upd_same, rk'⟩)
        | fdic kvs =>
          simp only [e] at p1
          obtain ⟨o, us, hv, rk⟩ := ro
          exact ⟨pp, us, rfl, .inr ⟨o, hv, Post.ret p1 (ri_items (fun w' H' x' => x'.frz _ _ _ hv) rk) s1⟩⟩
        | lst xs => simp only [e] at p1; exact p1.elim
        | ins c fs => simp only [e] at p1; exact p1.elim
        | flst xs => simp only [e] at p1; exact p1.elim
    | _ => exact p1.elim⟩⟩
end
end PD
namespace PD
open PySem PySem.Spec PyProof.Rows L2
def TupAt (K : PySem.W.Frag) (mg : Str → Option Value) (x : Str) (is : List Int) : Prop := ∃ a, mg x = some (.ref a) ∧ KTup K a (is.map .int)
section
variable {X : Cx} {E : XK}
theorem rdi {K : PySem.W.Frag} {w : Wd} {H : Hp} : ∀ is : List Int, RDs K w H (is.map .int) (is.map .int)
  | [] => .nil
  | i :: is => .cons (by unfold RD; rfl) (rdi is)
theorem se_gt {x : Str} {is : List Int} {pos : Pos} (h : TupAt X.K X.mg x is) (hg : Gl X x) (hd : (x == ("__debug__" : Str)) = false := by decide +kernel) : SE X E (.Name x pos) (eC (.tup (is.map .int))) := by
  obtain ⟨a, hm, k⟩ := h
  exact se_c (pe_glob hg hm (v := .ref a) rfl hd) fun _ _ => by unfold RD; exact ⟨a, _, rfl, .inr k, rdi is⟩
end
theorem tup2_mk {K : PySem.W.Frag} {h : Heap} {mg : Str → Option Value} (X : K.In h) (G : h.Ns mainGlobals mg) {x : Str} {a : Addr} {od : Option Addr} {n : Nat} {sl : Array (Option Value)} {i j : Int} {t1 t2 : Tok} (hn : PySem.W.nsIn K mainGlobals x = some (some (.ref a))) (hl : K.lookup a = some ⟨.type "tuple", od, .seq #[.int i t1, .int j t2] n, sl⟩) : TupAt K mg x [i, j] :=
  ⟨a, PySem.W.mg_of X G hn, _, _, n, hl, rfl, rfl, by show 2 ≤ sizeLine; decide, .cons ⟨t1, rfl⟩ (.cons ⟨t2, rfl⟩ .nil)⟩
theorem tup3_mk {K : PySem.W.Frag} {h : Heap} {mg : Str → Option Value} (X : K.In h) (G : h.Ns mainGlobals mg) {x : Str} {a : Addr} {od : Option Addr} {n : Nat} {sl : Array (Option Value)} {i j k : Int} {t1 t2 t3 : Tok} (hn : PySem.W.nsIn K mainGlobals x = some (some (.ref a))) (hl : K.lookup a = some ⟨.type "tuple", od, .seq #[.int i t1, .int j t2, .int k t3] n, sl⟩) : TupAt K mg x [i, j, k] :=
  ⟨a, PySem.W.mg_of X G hn, _, _, n, hl, rfl, rfl, by show 3 ≤ sizeLine; decide, .cons ⟨t1, rfl⟩ (.cons ⟨t2, rfl⟩ (.cons ⟨t3, rfl⟩ .nil))⟩
section
variable {K : PySem.W.Frag} {w : Wd} {H : Hp}
theorem Mv.adopt {p : Addr} {o : HO} (hh : p ∈ w.hid) : Mv w H ((w.unhide p).add p) (upd H p o) :=
  ⟨fun n a h => by
      show (w.st ++ [p])[n]? = some a
      rw [List.getElem?_append_left (List.getElem?_eq_some_iff.mp h).1]; exact h,
   fun a u h => ⟨by rw [upd_ne (fun z : a = p => h.2.2 (z ▸ hh))]; exact h.1, fun z => by
      rcases List.mem_append.mp z with z | z
      · exact h.2.1 z
      · exact h.2.2 (by rw [List.mem_singleton.mp z]; exact hh), fun z => h.2.2 (Wd.mem_unhide z).1⟩⟩
theorem RS.adopt {p : Addr} {o : HO} {so : SO} {S : Sto} (s : RS K w H S) (hh : p ∈ w.hid) (r : RO K ((w.unhide p).add p) (upd H p o) p so) : RS K ((w.unhide p).add p) (upd H p o) (S ++ [so]) := by
  have np := (s.hid p hh).1
  refine ⟨?_, by simp [Wd.add, Wd.unhide, s.len], fun n so' e => ?_, fun a ha => ?_⟩
  · show (w.st ++ [p]).Nodup
    rw [List.nodup_append]
    exact ⟨s.nd, by simp, fun a ha b hb => by
      have : b = p := by simpa using hb
      subst this
      rintro rfl
      exact np ha⟩
  · by_cases hn : n < S.length
    · rw [List.getElem?_append_left hn] at e
      obtain ⟨a, ha, q⟩ := s.obj n so' e
      have ne : a ≠ p := fun z => np (z ▸ List.mem_of_getElem? ha)
      exact ⟨a, (Mv.adopt (H := H) (o := o) hh).st n a ha, q.mv (Mv.adopt hh) fun u z => by rw [upd_ne ne]; exact z⟩
    · have hn' : n = S.length := by
        have := (List.getElem?_eq_some_iff.mp e).1
        simp at this; omega
      subst hn'
      simp at e; subst e
      exact ⟨p, by show (w.st ++ [p])[S.length]? = some p; rw [← s.len]; simp, r⟩
  · obtain ⟨h1, h2⟩ := Wd.mem_unhide ha
    obtain ⟨h3, u, e⟩ := s.hid a h1
    refine ⟨?_, u, by rw [upd_ne h2]; exact e⟩
    show a ∉ w.st ++ [p]
    intro z
    rcases List.mem_append.mp z with z | z
    · exact h3 z
    · exact h2 (by simpa using z)
end
section
variable {X : Cx} {E : XK} {pos : Pos}
theorem se_dicN {keys : List (Option Expr)} {values : List Expr} {ms : List (EM × EM)} (h : SPs X E pos keys values ms) (hall : keys.all (·.isSome) = true := by kernel_rfl) (hl : keys.length = values.length := by kernel_rfl) (h0 : keys ≠ [] := by intro z; cases z) (h15 : keys.length ≤ 15 := by decide +kernel) :
    SE X E (.Dict keys values pos) (eDicN ms) := ⟨
  pe_weak (pe_disp h.out hall hl h0 h15) fun s H Q q => disp_core (keys := keys) (values := values) (m := eDicN ms) (fin := fun kvs S1 => R.ok (D.ref S1.length) (S1 ++ [SO.dic (mergeD [] kvs)])) (fun r S => rfl) (fun kvs us w0 w H0 H S0 S p hp s0 s x hh rk p1 => by
    have hpn := (s.hid p hh).1
    refine Post.at p1 (w1 := (w.unhide p).add p) ⟨fun a o h n => by rw [upd_ne (ne_of_none h hp)]; exact x.keep a o h n, ?_, fun a h => List.mem_filter.mpr ⟨x.hid a h, decide_eq_true fun z => (s0.fresh hp).2 (z ▸ h)⟩, fun a h => x.hnew a (Wd.mem_unhide h).1, fun a o u h => by rw [upd_ne (ne_of_none h hp)]; exact x.frz a o u h⟩ ?_ (s.adopt hh ⟨_, upd_same, RDk.mv (Mv.adopt hh) _ _ rk⟩)
    · obtain ⟨l, e, f⟩ := x.sub
      exact ⟨l ++ [p], by show w.st ++ [p] = _; rw [e, List.append_assoc], fun a ha => (List.mem_append.mp ha).elim (f a) fun z => by rw [List.mem_singleton.mp z]; exact hp⟩
    · unfold RD
      exact ⟨p, rfl, by show (w.st ++ [p])[S.length]? = some p; rw [← s.len]; simp⟩) q⟩
def eDicE : EM := fun _ S => .ok (.ref S.length) (S ++ [.dic []])
theorem se_dicE : SE X E (.Dict [] [] pos) eDicE := ⟨
  pe_weak pe_dnewK fun s H Q ⟨w, r, S, hr, hS, hp⟩ => fun p hpn => Post.at hp (Ext.alloc hpn) hS.lastRef (hS.alloc hpn ⟨[], upd_same, RDk.nil⟩)⟩
end
end PD
namespace PD
open PySem PySem.Spec PyProof.Rows L2
def minZ : Int → List Int → Int
  | m, [] => m
  | m, x :: r => minZ (if x < m then x else m) r
theorem minZ_le : ∀ (l : List Int) (m : Int), (minZ m l ≤ m ∧ ∀ x ∈ l, minZ m l ≤ x) ∧ (minZ m l = m ∨ minZ m l ∈ l)
  | [], m => ⟨⟨Int.le_refl _, fun x h => nomatch h⟩, .inl rfl⟩
  | x :: r, m => by
    obtain ⟨⟨h1, h2⟩, h3⟩ := minZ_le r (if x < m then x else m)
    show (minZ (if x < m then x else m) r ≤ m ∧ ∀ y ∈ x :: r, minZ (if x < m then x else m) r ≤ y) ∧ (minZ (if x < m then x else m) r = m ∨ minZ (if x < m then x else m) r ∈ x :: r)
    generalize minZ (if x < m then x else m) r = z at *
    by_cases hx : x < m
    · rw [if_pos hx] at h1 h3
      refine ⟨⟨by omega, fun y hy => ?_⟩, .inr ?_⟩
      · rcases List.mem_cons.mp hy with e | hy
        · rw [e]; exact h1
        · exact h2 y hy
      · rcases h3 with e | h3
        · rw [e]; exact .head _
        · exact .tail _ h3
    · rw [if_neg hx] at h1 h3
      refine ⟨⟨h1, fun y hy => ?_⟩, ?_⟩
      · rcases List.mem_cons.mp hy with e | hy
        · rw [e]; omega
        · exact h2 y hy
      · rcases h3 with e | h3
        · exact .inl e
        · exact .inr (.tail _ h3)
def isLst (S : Sto) : D → Option (List D)
  | .lst a => some a
  | .ref n => match S[n]? with
    | some (.lst a) => some a
    | _ => none
  | _ => none
section
variable {X : Cx} {E : XK}
theorem lst_at {K : PySem.W.Frag} {w : Wd} {H : Hp} {S : Sto} {d : D} {v : V} {a : List D} (s : RS K w H S) (q : RD K w H d v) (h : isLst S d = some a) : ∃ p vs, v = .ref p ∧ SqL K H p vs ∧ RDs K w H a vs := by
  unfold isLst at h
  split at h
  · cases h; obtain ⟨p, vs, e, z, r⟩ := q.lstI; exact ⟨p, vs, e, SqL.of z.1, r⟩
  · rename_i n
    split at h
    · rename_i e; cases h
      obtain ⟨p, rfl, hp⟩ := q.refI
      obtain ⟨p', hp', vs, hv, r⟩ := s.obj _ _ e
      rw [hp] at hp'; cases hp'
      exact ⟨p, vs, rfl, SqL.of hv, r⟩
    · cases h
  · cases h
end
end PD
namespace L2
open PySem PySem.Spec PyProof.Rows
section
variable {X : Cx} {tg : Expr}
end
end L2
namespace PD
open PySem PySem.Spec PyProof.Rows L2
section
variable {X : Cx} {E : XK} {a b c : Expr} {pos : Pos}
end
end PD
namespace PySem
open PyProof.Rows
namespace F
end F
section
variable {prog : Program} {w : World} {A : Around} {E : Value → Shared → Prop} {s : Shared}
end
end PySem
namespace L2
open PySem PySem.Spec PyProof.Rows
section
variable {X : Cx} {tg : Expr}
end
end L2
namespace PD
open PySem PySem.Spec PyProof.Rows L2
section
variable {X : Cx} {E : XK} {a : Expr} {pos : Pos}
end
end PD
namespace PD
open PySem PySem.Spec PyProof.Rows L2
section
variable {X : Cx} {E : XK} {pos : Pos}
theorem se_dic0 : SE X E (.Dict [] [] pos) (eDic []) := ⟨
  pe_weak pe_dnewK fun s H Q ⟨w, r, S, hr, hS, hp⟩ => fun p hpn => Post.at (show Post X.K E (RD X.K) w H (R.ok (D.dic []) S) Q from hp) (Ext.new hpn) (by unfold RD; exact ⟨p, [], rfl, ⟨upd_same, hS.fresh hpn⟩, RDk.nil⟩) (hS.new hpn)⟩
end
end PD
namespace L2
open PySem PySem.Spec PyProof.Rows
def Itk (a : Addr) (o : Obj) (us : List (Key × V)) : It :=
  ⟨fun i H => H a = some (.frz o (.dK us)) ∧ ∃ kv, us[i]? = some kv,
   fun i H v H' => H' = H ∧ ∃ k x, v = kV k ∧ us[i]? = some (k, x),
   fun i H => H a = some (.frz o (.dK us)) ∧ us.length ≤ i⟩
theorem turn_keys {P : Program} {w : World} {K : PySem.W.Frag} {tg : Expr} (it a : Addr) (o : Obj) (us : List (Key × V)) (ee : Array DictEntry) (ep : Nat) (ed : o.data = .dict ee ep) :
    Turn false P w K tg (Itk a o us) [it] it (fun i h => h.IsKeyIter it a i us.length ep) where
  mem := by simp
  obj := fun i h st b hb => by
    have e : b = it := by simpa using hb
    subst e
    obtain ⟨ob, e, c, d⟩ := st
    exact ⟨ob, e, fun v z => by rw [d] at z; cases z⟩
  keep := fun i h h' st k => st.at fun ob e => k it (by simp) ob e
  item := by
    intro X hP hw hK hc i pins s σ H E I hf st hg
    subst hP hw hK
    obtain ⟨ha, ⟨k, x⟩, hx⟩ := hg
    obtain ⟨vs, rel, dd, _⟩ := frz_at I ha ed
    obtain ⟨v, hv, rv⟩ := rel.getI hx
    have hl := rel.length
    rw [hl] at st
    obtain ⟨f0, f1, f2, f3, f4, f5⟩ := hf it (by simp)
    refine wpAny_pyNext_dict_item st dd hv fun key h' hk st' sb => ?_
    have I1 : Inv X pins σ H { s with heap := h' } := I.turned (t' := s.toks) (fun b ob hb e => (sb.2 b hb).trans e) f0 f1 f3 f4 f5
    rw [← hl] at st'
    obtain ⟨ob, e, c, d⟩ := id st'
    exact ⟨key, rfl, go_of (s := { s with heap := h' }) e c d (by decide) ⟨kV k, H, I1, kV_of_is hk, ⟨rfl, k, x, rfl, hx⟩, st', fun b hb => (hf b hb).1⟩⟩
  done := by
    intro X hP hw hK hc i pins s σ H E I hf st hg
    subst hP hw hK
    obtain ⟨ha, hx⟩ := hg
    obtain ⟨vs, rel, dd, _⟩ := frz_at I ha ed
    have hl := rel.length
    rw [hl] at st
    obtain ⟨f0, f1, f2, f3, f4, f5⟩ := hf it (by simp)
    exact wpAny_pyNext_dict_end (I.ok.hd hc.cm) st dd (by simp; omega) fun h' eb => ⟨rfl, I.turned (t' := s.toks) (fun b ob hb e => eb b ob hb e) f0 f1 f3 f4 f5⟩
  self := fun _ _ _ _ _ st h => wpAny_pyIter_keyiter st h
section
variable {X : Cx} {tg : Expr}
def iKeys (td : TE) : TI := fun σ H R => td σ H fun x H1 => ∃ a us, x = .ref a ∧ ((H1 a = some (.dK us) ∧ ∀ o, R (Itk a o us) (upd H1 a (.frz o (.dK us)))) ∨ ∃ o, H1 a = some (.frz o (.dK us)) ∧ R (Itk a o us) H1)
theorem pi_keys {d : Expr} {td : TE} (hd : PE X d td) : PI X tg d (iKeys td) := by
  intro pins s σ H R I h
  refine thn (hd pins s σ H _ I h) fun u s1 ⟨x, H1, I1, rx, a, us, ex, q1⟩ => ?_
  subst ex
  obtain rfl : u = Value.ref a := rx
  have main : ∀ (H2 : Hp) (o : Obj), Inv X pins σ H2 s1 → H2 a = some (.frz o (.dK us)) → R (Itk a o us) H2 → wpAny (model X.prog X.w) X.A (pyIter (.ref a)) (PIE X pins σ tg R) X.xe s1 := fun H2 o I2 hH2 q => by
    obtain ⟨eo, z, hdd, vs, rel, ⟨o', ee, ep, ho, hx, hdat, k1, k2, k3⟩⟩ : s1.heap.get? a = some o ∧ ObjOk X.prog X.w H2 s1.heap a (.dK us) := I2.hok a _ hH2
    rw [eo] at ho; cases ho
    have dat : s1.heap.DictAt (mixKind X.prog X.w) a vs ep := ⟨o, ee, eo, hx, hdat, k1, k2, k3⟩
    have hl := rel.length
    refine wpAny_pyIter_dict hdd dat ?_
    refine ⟨s1.heap.objs.size, [s1.heap.objs.size], _, _, H2, rfl, I2.kept (t' := s1.toks) fun b u e => Heap.get?_push_of_some _ e, turn_keys _ a o us ee ep hdat, ⟨_, Heap.get?_push_size _ rfl, rfl, by rw [hl]; rfl⟩, fun b hb => ?_, q⟩
    have e : b = s1.heap.objs.size := by simpa using hb
    subst e
    exact I2.fpOk (Nat.le_refl _) (I2.hok.fresh (Nat.le_refl _))
  rcases q1 with ⟨hH, q⟩ | ⟨o, hH, q⟩
  · obtain ⟨o, I2⟩ := I1.freeze hH
    exact main _ o I2 upd_same (q o)
  · exact main _ o I1 hH q
end
end L2
namespace PD
open PySem PySem.Spec PyProof.Rows L2
def aKeys (m : EM) : AM := fun r S => (m r S).bind fun d S1 => match d with
  | .ref n => match S1[n]? with
    | some (.dic kvs) => .ok (kvs.map fun kv => kD kv.1) (S1.set n (.fdic kvs))
    | some (.fdic kvs) => .ok (kvs.map fun kv => kD kv.1) S1
    | _ => .bad
  | _ => .bad
theorem ri_keys {K : PySem.W.Frag} {w : Wd} {H : Hp} {a : Addr} {o : Obj} {kvs : List (KD × D)} {us : List (Key × V)} (hst : ∀ w' H', Ext w H w' H' → H' a = some (.frz o (.dK us))) (rk : RDk K w H kvs us) : RI K w H (kvs.map fun kv => kD kv.1) (Itk a o us) := by
  intro i w' H' x'
  have rk' := RDk.ext x' _ _ rk
  have hl := rk.length
  have ha := hst w' H' x'
  refine ⟨fun hi => ?_, fun hi => ⟨ha, by rw [List.length_map] at hi; omega⟩⟩
  rw [List.length_map] at hi
  refine ⟨⟨ha, us[i]'(by omega), List.getElem?_eq_getElem _⟩, fun v H'' y => ?_⟩
  obtain ⟨rfl, k, x, rfl, hx⟩ := y
  obtain ⟨v2, e2, r2⟩ := rk'.getI (i := i) (k := kvs[i].1) (d := kvs[i].2) (by rw [List.getElem?_eq_getElem hi])
  rw [hx] at e2
  cases e2
  exact ⟨.inl rfl, fun S hS => ⟨kD kvs[i].1, by simp [hi], kD_rel _⟩⟩
section
variable {X : Cx} {E : XK}
theorem si_keys {tg : Expr} {d : Expr} {md : EM} (ha : SE X E d md) : SI X E tg d (aKeys md) := ⟨
  pi_weak (pi_keys ha.out) fun s H Q ⟨w, r, S, hr, hS, hp⟩ => ⟨w, r, S, hr, hS, hp.bind hS fun d S1 w1 H1 v x1 q1 s1 p1 => by
    cases d with
    | ref m =>
      obtain ⟨pp, rfl, hp⟩ := q1.refI
      have hm : pp ∈ w1.st := List.mem_of_getElem? hp
      cases e : S1[m]? with
      | none => simp only [e] at p1; exact p1.elim
      | some ob =>
        obtain ⟨p', hp', ro⟩ := s1.obj _ _ e
        rw [hp] at hp'; cases hp'
        cases ob with
        | dic kvs =>
          simp only [e] at p1
          obtain ⟨us, hv, rk⟩ := ro
          refine ⟨pp, us, rfl, .inl ⟨hv, fun o => ?_⟩⟩
          have rk' := RDk.ext (Ext.mut hm hv (o := .frz o (.dK us))) _ _ rk
          exact Post.at p1 (Ext.mut hm hv) (ri_keys (fun w' H' x' => x'.frz _ _ _ upd_same) rk') (s1.mut hp hv ⟨o, us, upd_same, rk'⟩)
        | fdic kvs =>
          simp only [e] at p1
          obtain ⟨o, us, hv, rk⟩ := ro
          exact ⟨pp, us, rfl, .inr ⟨o, hv, Post.ret p1 (ri_keys (fun w' H' x' => x'.frz _ _ _ hv) rk) s1⟩⟩
        | lst xs => simp only [e] at p1; exact p1.elim
        | ins c fs => simp only [e] at p1; exact p1.elim
        | flst xs => simp only [e] at p1; exact p1.elim
    | _ => exact p1.elim⟩⟩
end
end PD
namespace L2
open PySem PySem.Spec PyProof.Rows
theorem Inv.thaw {X : Cx} {pins : List (Addr × Obj)} {σ : St} {H : Hp} {s : Shared} {a : Addr} {o : Obj} {us : List (Key × V)} (I : Inv X pins σ H s) (h : H a = some (.frz o (.dK us))) (n0 : ∀ o u, X.H₀ a ≠ some (.frz o u)) : Inv X pins σ (upd H a (.dK us)) s := by
  have ne : ∀ b u, H b = u → u ≠ some (.frz o (.dK us)) → b ≠ a := fun b u e n z => n (by rw [← e, z]; exact h)
  have st : ∀ {b : Addr} {u : HO}, ObjOk X.prog X.w H s.heap b u → ObjOk X.prog X.w (upd H a (.dK us)) s.heap b u := fun x => x.stay (fun _ _ _ q => q) (fun c q => by rw [upd_ne (ne c _ q (by intro z; cases z))]; exact q) fun c xs q => by rw [upd_ne (ne c _ q (by intro z; cases z))]; exact q
  refine ⟨I.ok, I.os, I.bare, ⟨I.base.keep, I.base.slot, fun b ob e n x => ?_, I.base.there, fun b xs e => ?_, fun b o' u e => ?_, fun b ps e => ?_⟩, I.loc, I.cell, ?_, fun x c e => ?_, fun p hp => ?_, fun b u e => ?_, I.len⟩
  · have q := I.base.free b ob e n x
    rw [upd_ne (ne b _ q (by intro z; cases z))]; exact q
  · have q := I.base.tups b xs e
    rw [upd_ne (ne b _ q (by intro z; cases z))]; exact q
  · have q := I.base.frzs b o' u e
    rw [upd_ne (fun z : b = a => n0 o' u (z ▸ e))]; exact q
  · obtain ⟨m, q⟩ := I.base.tbls b ps e
    exact ⟨m, by rw [upd_ne (ne b _ q (by intro z; cases z))]; exact q⟩
  · rw [upd_ne (ne _ _ I.free (by intro z; cases z))]; exact I.free
  · have q := I.freeC x c e
    rw [upd_ne (ne c _ q (by intro z; cases z))]; exact q
  · obtain ⟨e, n, r⟩ := I.pin p hp
    exact ⟨e, by rw [upd_ne (ne _ _ n (by intro z; cases z))]; exact n, r⟩
  · by_cases hb : b = a
    · subst hb
      rw [upd_same] at e
      cases e
      have q : s.heap.get? b = some o ∧ ObjOk X.prog X.w H s.heap b (.dK us) := I.hok b _ h
      exact st q.2
    · rw [upd_ne hb] at e
      exact st (I.hok b u e)
end L2
namespace PD
open PySem PySem.Spec PyProof.Rows L2
def thawS (n : Nat) (S : Sto) : Sto := match S[n]? with
  | some (.fdic kvs) => S.set n (.dic kvs)
  | _ => S
def eThaw (i : Nat) (m : EM) : EM := fun r S => match r[i]? with
  | some (some (.ref n)) => match S[n]? with
    | some (.dic _) => (m r S).bind fun d S1 => .ok d (thawS n S1)
    | _ => m r S
  | _ => m r S
section
variable {X : Cx} {E : XK}
theorem se_thaw {i : Nat} {e : Expr} {m : EM} (h : SE X E e m) : SE X E e (eThaw i m) := ⟨by
  intro pins s σ H Q I ⟨w, r, S, hr, hS, hp⟩
  unfold eThaw at hp
  split at hp
  · rename_i n hri
    split at hp
    · rename_i kvs0 hn
      obtain ⟨pp, hpp, us0, hv, rk0⟩ := hS.obj n _ hn
      have hmem : pp ∈ w.st := List.mem_of_getElem? hpp
      have n0 : ∀ o u, X.H₀ pp ≠ some (.frz o u) := fun o u z => by
        have q := I.base.frzs pp o u z
        rw [hv] at q; cases q
      let Q' : VK := fun x H1 => ∃ H2, Q x H2 ∧ (H2 = H1 ∨ ∃ o us, H1 pp = some (.frz o (.dK us)) ∧ H2 = upd H1 pp (.dK us))
      refine wpAny_mono (h.out pins s σ H Q' I ⟨w, r, S, hr, hS, ?_⟩) (fun v s1 q => ?_) fun _ _ z => z
      · cases hm : m r S with
        | err y S1 => rw [hm] at hp; exact hp
        | bad => rw [hm] at hp; exact hp.elim
        | ok d S1 =>
          rw [hm] at hp
          intro w1 H1 b x1 rb s1
          have hp' : Post X.K E (RD X.K) w H (R.ok d (thawS n S1)) Q := hp
          obtain ⟨l, el, fl⟩ := x1.sub
          have hpp1 : w1.st[n]? = some pp := by
            rw [el, List.getElem?_append_left (List.getElem?_eq_some_iff.mp hpp).1]; exact hpp
          have hmem1 : pp ∈ w1.st := List.mem_of_getElem? hpp1
          cases hS1 : S1[n]? with
          | none =>
            have e1 : thawS n S1 = S1 := by unfold thawS; rw [hS1]
            rw [e1] at hp'
            exact ⟨H1, hp' w1 H1 b x1 rb s1, .inl rfl⟩
          | some ob =>
            cases ob with
            | fdic kvs =>
              have e1 : thawS n S1 = S1.set n (.dic kvs) := by unfold thawS; rw [hS1]
              rw [e1] at hp'
              obtain ⟨p', hp1, o, us, hv1, rk⟩ := s1.obj n _ hS1
              rw [hpp1] at hp1; cases hp1
              refine ⟨upd H1 pp (.dK us), ?_, .inr ⟨o, us, hv1, rfl⟩⟩
              have mv : Mv w1 H1 w1 (upd H1 pp (.dK us)) := ⟨fun _ _ z => z, fun a o z => ⟨by rw [upd_ne (fun y : a = pp => z.2.1 (y ▸ hmem1))]; exact z.1, z.2.1, z.2.2⟩⟩
              refine hp' w1 (upd H1 pp (.dK us)) b ⟨fun a o h1 n1 => ?_, x1.sub, x1.hid, x1.hnew, fun a o u h1 => ?_⟩ (RD.mv mv _ _ rb) ⟨s1.nd, by rw [List.length_set]; exact s1.len, fun m' so e => ?_, fun a ha => ?_⟩
              · rw [upd_ne (fun y : a = pp => n1 (y ▸ hmem))]; exact x1.keep a o h1 n1
              · rw [upd_ne (fun y : a = pp => by rw [y, hv] at h1; cases h1)]; exact x1.frz a o u h1
              · by_cases hmn : m' = n
                · subst hmn
                  have hl : m' < S1.length := (List.getElem?_eq_some_iff.mp hS1).1
                  rw [List.getElem?_set_self hl] at e
                  cases e
                  exact ⟨pp, hpp1, us, upd_same, RDk.mv mv _ _ rk⟩
                · rw [List.getElem?_set_ne (Ne.symm hmn)] at e
                  obtain ⟨a, ha, ro⟩ := s1.obj m' so e
                  have hne : a ≠ pp := fun z => by
                    subst z
                    obtain ⟨i1, e1⟩ := List.getElem?_eq_some_iff.mp ha
                    obtain ⟨i2, e2⟩ := List.getElem?_eq_some_iff.mp hpp1
                    exact hmn ((List.getElem_inj s1.nd).mp (e1.trans e2.symm))
                  exact ⟨a, ha, ro.mv mv fun u z => by rw [upd_ne hne]; exact z⟩
              · obtain ⟨h1, o1, h2⟩ := s1.hid a ha
                exact ⟨h1, o1, by rw [upd_ne (fun y : a = pp => h1 (y ▸ hmem1))]; exact h2⟩
            | dic kvs =>
              have e1 : thawS n S1 = S1 := by unfold thawS; rw [hS1]
              rw [e1] at hp'
              exact ⟨H1, hp' w1 H1 b x1 rb s1, .inl rfl⟩
            | lst kvs =>
              have e1 : thawS n S1 = S1 := by unfold thawS; rw [hS1]
              rw [e1] at hp'
              exact ⟨H1, hp' w1 H1 b x1 rb s1, .inl rfl⟩
            | flst kvs =>
              have e1 : thawS n S1 = S1 := by unfold thawS; rw [hS1]
              rw [e1] at hp'
              exact ⟨H1, hp' w1 H1 b x1 rb s1, .inl rfl⟩
            | ins c f =>
              have e1 : thawS n S1 = S1 := by unfold thawS; rw [hS1]
              rw [e1] at hp'
              exact ⟨H1, hp' w1 H1 b x1 rb s1, .inl rfl⟩
      · obtain ⟨x, H1, I1, rx, H2, q, hh⟩ := q
        rcases hh with rfl | ⟨o, us, hf, rfl⟩
        · exact ⟨x, _, I1, rx, q⟩
        · exact ⟨x, _, I1.thaw hf n0, rx, q⟩
    · exact h.out pins s σ H Q I ⟨w, r, S, hr, hS, hp⟩
  · exact h.out pins s σ H Q I ⟨w, r, S, hr, hS, hp⟩⟩
end
end PD
namespace PySem
open PyProof.Rows
section
variable {prog : Program} {w : World} {A : Around} {E : Value → Shared → Prop} {s : Shared} {K : Type} [DecidableEq K] {knd : KeyKind prog w K}
def intV : Value → Option Int
  | .int i _ => some i
  | _ => none
def samePs (vs vs' : List (K × Value)) : Bool := decide (vs.length = vs'.length) && vs.all fun kv => decide ((valueAt vs' kv.1).bind intV = intV kv.2)
theorem same_pairs {a b : Addr} {vs vs' : List (K × Value)} {ep ep' : Nat} {id : String} {Q : Bool → Shared → Prop} (ha : (a == sysModules) = false) (hb : (b == sysModules) = false) (dA : s.heap.DictAt knd a vs ep) (dB : s.heap.DictAt knd b vs' ep')
    (iA : ∀ kv ∈ vs, ∃ n t, kv.2 = .int n t) (iB : ∀ kv ∈ vs', ∃ n t, kv.2 = .int n t) (h : Q (samePs vs vs') s) : wpAny (model prog w) A (Builtin.Dict.samePairs id a b) Q E s := by
  obtain ⟨oa, ea, hoa, xa, hda, ka, pa, na⟩ := dA
  obtain ⟨ob, eb, hob, xb, hdb, kb, pb, nb⟩ := dB
  unfold Builtin.Dict.samePairs
  unfold Builtin.Dict.showsAll
  rw [ha, hb]
  refine wpAny_bind (wpAny_pure ?_)
  refine wpAny_bind (wpAny_pure ?_)
  refine wpAny_bind (wpAny_dictEntries hoa hda ?_)
  refine wpAny_bind (wpAny_dictEntries hob hdb ?_)
  have la : ea.size = vs.length := by have := pa.length; simpa using this
  have lb : eb.size = vs'.length := by have := pb.length; simpa using this
  by_cases hsz : ea.size = eb.size
  · rw [if_neg (by simp [hsz])]
    refine wpAny_bind (wpAny_dictEpoch hoa hda ?_)
    refine wpAny_bind ?_
    rw [Std.Legacy.Range.forIn_eq_forIn_range']
    simp only [Std.Legacy.Range.size, Nat.sub_zero, Nat.add_sub_cancel, Nat.div_one]
    have key : ∀ i (hi : i < ea.size), ∃ kv, vs[i]? = some kv ∧ knd.is kv.1 ea[i].key = true ∧ ea[i].hash = knd.hash kv.1 ∧ ea[i].val = kv.2 := fun i hi => by
      obtain ⟨kv, hkv⟩ : ∃ kv, vs[i]? = some kv := ⟨vs[i]'(by rw [← la]; exact hi), List.getElem?_eq_getElem _⟩
      obtain ⟨h1, h2⟩ := pa.get? (e := ea[i]) (by simp [hi]) hkv
      obtain ⟨k', hk', hh⟩ := ka ea[i] (Array.getElem_mem hi)
      obtain rfl : k' = kv.1 := knd.inj _ _ _ hk' h1
      exact ⟨kv, hkv, h1, hh, h2⟩
    refine wpAny_forIn_list _ (fun rest b s' => s' = s ∧ b = (none, ()) ∧ ∃ i, rest = List.range' i (ea.size - i) ∧ i ≤ ea.size ∧ ∀ j, j < i → ∀ kv, vs[j]? = some kv → (valueAt vs' kv.1).bind intV = intV kv.2) _ ?_ ?_ _ _ ⟨rfl, rfl, 0, by simp, Nat.zero_le _, fun j hj => absurd hj (Nat.not_lt_zero _)⟩
    · rintro x rest b s' ⟨rfl, rfl, i, hr, hi, hall⟩
      have hlt : i < ea.size := by
        rcases Nat.lt_or_ge i ea.size with h | h
        · exact h
        · rw [Nat.sub_eq_zero_of_le h] at hr; simp at hr
      obtain ⟨rfl, hrest⟩ : x = i ∧ rest = List.range' (i + 1) (ea.size - (i + 1)) := by
        have e : ea.size - i = (ea.size - (i + 1)) + 1 := by omega
        rw [e, List.range'_succ] at hr
        injection hr with h1 h2
        exact ⟨h1, h2⟩
      obtain ⟨kv, hkv, hk1, hh, hval⟩ := key x hlt
      refine wpAny_bind (wpAny_dictEntries hoa hda ?_)
      rw [Array.getElem?_eq_getElem hlt]
      dsimp only
      have hmem : kv ∈ vs := List.mem_of_getElem? hkv
      obtain ⟨n, tn, hn⟩ := iA kv hmem
      have stop : (valueAt vs' kv.1).bind intV ≠ intV kv.2 → wpAny (model prog w) A (match ((some false, ()) : Option Bool × Unit).fst with | some r => pure r | none => pure true) Q E s' := fun hne => by
        have e : samePs vs vs' = false := by
          unfold samePs
          rw [Bool.and_eq_false_iff]
          refine .inr (List.all_eq_false.mpr ⟨kv, hmem, ?_⟩)
          rw [decide_eq_false hne]; decide
        rw [e] at h
        exact wpAny_pure h
      have go : (valueAt vs' kv.1).bind intV = intV kv.2 → ∃ i, rest = List.range' i (ea.size - i) ∧ i ≤ ea.size ∧ ∀ j, j < i → ∀ kv, vs[j]? = some kv → (valueAt vs' kv.1).bind intV = intV kv.2 := fun he =>
        ⟨x + 1, hrest, hlt, fun j hj kv2 hkv2 => by
          rcases Nat.lt_or_ge j x with hjx | hjx
          · exact hall j hjx kv2 hkv2
          · have : j = x := by omega
            subst this
            rw [hkv] at hkv2; cases hkv2
            exact he⟩
      have hfi : (eb.findIdx? fun e => knd.is kv.1 e.key) = vs'.findIdx? fun kv' => decide (kv'.1 = kv.1) := by
        rw [← pb.findIdx kv.1, ← List.findIdx?_toArray, Array.toArray_toList]
      refine wpAny_bind (wpAny_holding (wpAny_bind ?_))
      rw [hh]
      refine wpAny_dictFind_of hk1 hob hdb kb ?_
      rw [hfi]
      cases hj : vs'.findIdx? fun kv' => decide (kv'.1 = kv.1) with
      | none =>
        dsimp only
        refine wpAny_pure ?_
        rw [if_pos (by decide)]
        refine wpAny_pure (stop ?_)
        have : valueAt vs' kv.1 = none := by
          unfold valueAt
          rw [List.findIdx?_eq_none_iff] at hj
          have : (vs'.find? fun kv' => decide (kv'.1 = kv.1)) = none := List.find?_eq_none.mpr fun y hy hd => by
            have := hj y hy
            rw [hd] at this; cases this
          rw [this]; rfl
        rw [this, hn]
        intro z; cases z
      | some j =>
        dsimp only
        obtain ⟨hjl, hjt, hjf⟩ := List.findIdx?_eq_some_iff_getElem.mp hj
        have hjb : j < eb.size := by omega
        obtain ⟨q1, q2⟩ := pb.get? (e := eb[j]) (by simp [hjb]) (List.getElem?_eq_getElem hjl)
        have hva : valueAt vs' kv.1 = some vs'[j].2 := by
          unfold valueAt
          have : (vs'.find? fun kv' => decide (kv'.1 = kv.1)) = some vs'[j] := by
            rw [List.find?_eq_some_iff_getElem]
            exact ⟨hjt, j, hjl, rfl, fun k hk => by
              have := hjf k hk
              simpa using this⟩
          rw [this]; rfl
        obtain ⟨n', tn', hn'⟩ := iB vs'[j] (List.getElem_mem hjl)
        refine wpAny_bind (wpAny_dictEntries hob hdb ?_)
        rw [Array.getElem?_eq_getElem hjb]
        dsimp only
        refine wpAny_holding ?_
        rw [hval, show eb[j].val = vs'[j].2 from q2, hn, hn']
        refine wpAny_eqBool_int ?_
        by_cases hnn : n = n'
        · subst hnn
          rw [if_neg (by simp)]
          refine wpAny_bind (wpAny_dictEpoch hoa hda ?_)
          rw [if_neg (by simp)]
          refine wpAny_pure ⟨rfl, rfl, go ?_⟩
          rw [hva, hn, Option.bind_some, hn']; rfl
        · rw [if_pos (by simp [hnn])]
          refine wpAny_pure (stop ?_)
          rw [hva, hn, Option.bind_some, hn']
          intro z
          exact hnn (Option.some.inj z).symm
    · rintro b' s' ⟨rfl, rfl, i, hr, hi, hall⟩
      have hin : i = ea.size := by
        rcases Nat.lt_or_ge i ea.size with h | h
        · have e : ea.size - i = (ea.size - (i + 1)) + 1 := by omega
          rw [e, List.range'_succ] at hr; cases hr
        · omega
      have e : samePs vs vs' = true := by
        unfold samePs
        rw [Bool.and_eq_true]
        refine ⟨decide_eq_true (by omega), List.all_eq_true.mpr fun kv hkv => ?_⟩
        obtain ⟨j, hj, rfl⟩ := List.getElem_of_mem hkv
        exact decide_eq_true (hall j (by omega) _ (List.getElem?_eq_getElem hj))
      rw [e] at h
      exact wpAny_pure h
  · rw [if_pos (by simpa using hsz)]
    refine wpAny_bind (wpAny_rule ?_)
    have e : samePs vs vs' = false := by
      unfold samePs
      rw [decide_eq_false (by omega)]; rfl
    rw [e] at h
    exact wpAny_pure h
theorem dict_ne_body {a b : Addr} {vs vs' : List (K × Value)} {ep ep' : Nat} {Q : Value → Shared → Prop} (ha : (a == sysModules) = false) (hb : (b == sysModules) = false) (dA : s.heap.DictAt knd a vs ep) (dB : s.heap.DictAt knd b vs' ep')
    (iA : ∀ kv ∈ vs, ∃ n t, kv.2 = .int n t) (iB : ∀ kv ∈ vs', ∃ n t, kv.2 = .int n t) (h : Q (.bool (!samePs vs vs')) s) : wpAny (model prog w) A (Builtin.«dict.__ne__» ⟨[.ref a, .ref b], []⟩) (fun fin s' => ∃ v, fin = .done (.ret v) ∧ v ≠ .notImplemented ∧ Q v s') E s := by
  have hT := dA.dictOf.typeIs
  have hT' := dB.dictOf.typeIs
  show wpAny _ A (Builtin.Dict.dictSlotArgs "__ne__" ⟨[.ref a, .ref b], []⟩ >>= _) _ _ s
  unfold Builtin.Dict.dictSlotArgs
  refine wpAny_bind (wpAny_bind (wpAny_notOrdered_dict hT ?_))
  refine wpAny_bind (wpAny_of_eq (a := (Value.ref a, [Value.ref b])) rfl ?_)
  refine wpAny_pure ?_
  refine wpAny_bind (wpAny_isInstance hT' (b := true) F.sub_dict_dict ?_)
  rw [if_neg (by decide)]
  refine wpAny_bind (wpAny_of_eq (a := a) rfl ?_)
  refine wpAny_bind (wpAny_of_eq (a := b) rfl ?_)
  refine wpAny_bind (same_pairs ha hb dA dB iA iB ?_)
  refine wpAny_pure ⟨_, rfl, (fun z => by cases z), ?_⟩
  have e : (samePs vs vs' == false) = !samePs vs vs' := by cases samePs vs vs' <;> rfl
  rw [e]; exact h
theorem dict_ne {a b : Addr} {vs vs' : List (K × Value)} {ep ep' : Nat} {Q : Value → Shared → Prop} (ha : (a == sysModules) = false) (hb : (b == sysModules) = false) (dA : s.heap.DictAt knd a vs ep) (dB : s.heap.DictAt knd b vs' ep')
    (iA : ∀ kv ∈ vs, ∃ n t, kv.2 = .int n t) (iB : ∀ kv ∈ vs', ∃ n t, kv.2 = .int n t) (hu : A.units < cLine) (h : Q (.bool (!samePs vs vs')) s) : wpAny (model prog w) A (compareOp .NotEq (.ref a) (.ref b)) Q E s := by
  have hT : s.TypeIs (.ref a) "dict" := dA.dictOf.typeIs
  have hT' : s.TypeIs (.ref b) "dict" := dB.dictOf.typeIs
  have hc : wpAny (model prog w) A (call (.builtin "dict.__ne__") [.ref a, .ref b]) (fun v s' => v ≠ .notImplemented ∧ Q v s') E s := wpAny_call_entry F.slot_dict_ne hT F.entry_dict_ne (dict_ne_body ha hb dA dB iA iB h) (F.args_dict_ne_2 _ _)
  have hr : wpAny (model prog w) A (richCompare .NotEq (.ref a) (.ref b)) Q E s := wpAny_richCompare_same_room (op := .NotEq) (T := "dict") (id := "dict.__ne__") hT hT' F.slot_dict_ne hc hu
  exact hr
end
end PySem
namespace PD
open PySem PySem.Spec PyProof.Rows L2
def intsT : List (KD × D) → Option (List (KD × Int))
  | [] => some []
  | (k, .int i) :: r => (intsT r).map ((k, i) :: ·)
  | _ :: _ => none
def sameT (T T' : List (KD × Int)) : Bool := decide (T.length = T'.length) && T.all fun e => decide (((T'.find? fun e' => decide (e'.1 = e.1)).map (·.2)) = some e.2)
inductive VT : List (KD × Int) → List (Key × Value) → Prop
  | nil : VT [] []
  | cons {k : KD} {i : Int} {t : Tok} {T : List (KD × Int)} {vs : List (Key × Value)} : VT T vs → VT ((k, i) :: T) ((k, .int i t) :: vs)
theorem VT.length {T : List (KD × Int)} {vs : List (Key × Value)} (h : VT T vs) : T.length = vs.length := by
  induction h with
  | nil => rfl
  | cons _ ih => simp [ih]
theorem VT.ints {T : List (KD × Int)} {vs : List (Key × Value)} (h : VT T vs) : ∀ kv ∈ vs, ∃ n t, kv.2 = Value.int n t := by
  induction h with
  | nil => intro kv z; cases z
  | cons _ ih =>
    intro kv z
    rcases List.mem_cons.mp z with rfl | z
    · exact ⟨_, _, rfl⟩
    · exact ih kv z
theorem VT.at {T : List (KD × Int)} {vs : List (Key × Value)} (h : VT T vs) (k : KD) : (valueAt vs k).bind intV = (T.find? fun e' => decide (e'.1 = k)).map (·.2) := by
  induction h with
  | nil => rfl
  | @cons k' i t T vs _ ih =>
    unfold valueAt at ih ⊢
    rw [List.find?_cons, List.find?_cons]
    by_cases hk : k' = k
    · simp [hk, intV]
    · simp only [hk, decide_false]
      exact ih
theorem VT.same {T T' : List (KD × Int)} {vs vs' : List (Key × Value)} (h : VT T vs) (h' : VT T' vs') : samePs vs vs' = sameT T T' := by
  unfold samePs sameT
  rw [h.length, h'.length]
  congr 1
  have : ∀ {T : List (KD × Int)} {vs : List (Key × Value)}, VT T vs → (vs.all fun kv => decide ((valueAt vs' kv.1).bind intV = intV kv.2)) = T.all fun e => decide (((T'.find? fun e' => decide (e'.1 = e.1)).map (·.2)) = some e.2) := fun h => by
    induction h with
    | nil => rfl
    | @cons k i t T vs _ ih =>
      rw [List.all_cons, List.all_cons, ih, h'.at k]
      rfl
  exact this h
theorem vt_of {K : PySem.W.Frag} {w : Wd} {H : Hp} : ∀ {kvs : List (KD × D)} {T : List (KD × Int)} {us : List (Key × V)} {vs : List (Key × Value)}, intsT kvs = some T → RDk K w H kvs us → KV us vs → VT T vs
  | [], T, us, vs, hi, q, r => by
    cases hi
    rw [q.nil_inv] at r
    cases r
    exact .nil
  | (k, d) :: kvs, T, us, vs, hi, q, r => by
    obtain ⟨v, us', rfl, p, q'⟩ := q.cons_inv
    cases d with
    | int i =>
      unfold intsT at hi
      cases ht : intsT kvs with
      | none => rw [ht] at hi; cases hi
      | some T' =>
        rw [ht] at hi; cases hi
        cases p.int
        cases r with
        | @cons _ x _ vs' hd tl =>
          obtain ⟨k', u⟩ := x
          obtain ⟨e, rv⟩ := hd
          obtain ⟨t, rfl⟩ := rv
          cases (show k' = k from e.symm)
          exact .cons (vt_of ht q' tl)
    | _ => unfold intsT at hi; cases hi
def oNeD : Sto → D → D → Option D := fun S x y => match dicOf S x, dicOf S y with
  | some k1, some k2 => match intsT k1, intsT k2 with
    | some T1, some T2 => some (.bl (!sameT T1 T2))
    | _, _ => none
  | _, _ => oNeP S x y
section
variable {X : Cx} {E : XK}
theorem xo_neD {k : Nat} (hr : Room k X.A) : OpR X (compareOp .NotEq) (xO X.K E oNeD) := by
  rintro pins s σ H x y v u Q I rx ry ⟨w, S, d, e, hS, qd, qe, p⟩
  obtain ⟨z, hz, p'⟩ := p.of
  unfold oNeD at hz
  split at hz
  · rename_i k1 k2 h1 h2
    split at hz
    · rename_i T1 T2 t1 t2
      cases hz
      obtain ⟨pp, us, rfl, rd, rk⟩ := dic_at hS qd h1
      obtain ⟨pp2, us2, rfl, rd2, rk2⟩ := dic_at hS qe h2
      cases rx
      cases ry
      obtain ⟨zl, hs1, vs, rel, ⟨o, es, ep, ho⟩⟩ := rd.ok I.hok
      obtain ⟨zl2, hs2, vs2, rel2, ⟨o2, es2, ep2, ho2⟩⟩ := rd2.ok I.hok
      have v1 := vt_of t1 rk rel
      have v2 := vt_of t2 rk2 rel2
      refine dict_ne (knd := mixKind X.prog X.w) hs1 hs2 ⟨o, es, ho⟩ ⟨o2, es2, ho2⟩ v1.ints v2.ints (by have := hr.units; omega) ?_
      rw [v1.same v2]
      exact ⟨.bl _, H, I, rfl, p'.ret RD.mkB hS⟩
    · cases hz
  · rename_i hnn
    exact xo_neP hr pins s σ H x y v u Q I rx ry ⟨w, S, d, e, hS, qd, qe, by
      have : oNeD S d e = oNeP S d e := by
        unfold oNeD
        split
        · rename_i k1 k2 h1 h2
          exact (hnn k1 k2 h1 h2).elim
        · rfl
      rw [← this]; exact p⟩
end
end PD
namespace PD
open PySem PySem.Spec PyProof.Rows L2
open AutoSeq1 (wpAny_loadPart')
open MeetsSeq MeetsSeq2 MeetsSeq3 SeqRoads2 PySem.SeqAt
def ltZ : List Int → List Int → Bool
  | [], [] => false
  | [], _ :: _ => true
  | _ :: _, [] => false
  | x :: xs, y :: ys => if x = y then ltZ xs ys else decide (x < y)
theorem ltZ_eq {x y : Int} {xs ys : List Int} (h : x = y) : ltZ (x :: xs) (y :: ys) = ltZ xs ys := if_pos h
theorem ltZ_ne {x y : Int} {xs ys : List Int} (h : ¬ x = y) : ltZ (x :: xs) (y :: ys) = decide (x < y) := if_neg h
theorem intLtAt {A : Around} {s : Shared} {a b : Int} {t u : Tok} (prog : Program) (w : World) {E : Value → Shared → Prop} {Q : Value → Shared → Prop} (h : Q (.bool (decide (a < b))) s) : wpAny (model prog w) A (richCompare .Lt (.int a t) (.int b u)) Q E s :=
  richCompare_gives (op := .Lt) (typeIs_int s _ t) (typeIs_int s _ u) F.slot_int_lt F.entry_int_lt (F.args_int_lt_2 _ _) (gives_int_lt _ _ t u) (fun x => nomatch x) h
theorem tuple_ltInts (l b : Addr) (items items2 : Array Value) (n n2 : Nat) (dd dd2 : Option Addr) (sl sl2 : Array (Option Value)) {xs ys : List Int} (hx : IntsAre items.toList xs) (hy : IntsAre items2.toList ys) :
    Meets (Builtin.«tuple.__lt__» ⟨[.ref l, .ref b], []⟩)
      (fun A R s => s.heap.get? l = some { cls := .type "tuple", dict := dd, data := .seq items n, slots := sl } ∧ s.heap.get? b = some { cls := .type "tuple", dict := dd2, data := .seq items2 n2, slots := sl2 } ∧
        R (.ok (.ret (.bool (ltZ xs ys)))) s) :=
  .of_wp fun prog w A R s h => by
    obtain ⟨hp, g, d, tk, os⟩ := s; obtain ⟨hl, hb, h⟩ := h
    have f2 := AutoSeq1.sub_tuple_tuple
    wp_walk using wpAny_loadPart' hl, wpAny_loadPart' hb, wpAny_forIn_list _ (fun rest b s' => b.1 = none ∧ s' = ⟨hp, g, d, tk, os⟩ ∧ ∃ (as bs : List Value) (xs ys : List Int), rest = as.zip bs ∧ IntsAre as xs ∧ IntsAre bs ys ∧ as.length + items2.size = bs.length + items.size ∧
      R (.ok (.ret (.bool (ltZ xs ys)))) ⟨hp, g, d, tk, os⟩) _
    case turn =>
      rintro ⟨y, x⟩ rest b s' ⟨hb', rfl, as, bs, xs, ys, hz, h1, h2, hlen, hR⟩
      cases h1 with
      | nil => cases hz
      | cons a t h1 =>
        cases h2 with
        | nil => cases hz
        | cons c u h2 =>
          cases hz
          refine wpAny_bind (EqAt.int_int a t c u prog w _ _ ?_)
          by_cases hac : a = c
          · have e : (a == c) = true := by simp [hac]
            rw [e]
            wp_walk
            refine ⟨rfl, rfl, _, _, _, _, rfl, h1, h2, by simp only [List.length_cons] at hlen; omega, ?_⟩
            rw [ltZ_eq hac] at hR
            exact hR
          · have e : (a == c) = false := by simp [hac]
            rw [ltZ_ne hac] at hR
            rw [e]
            simp only [Bool.not_false, if_true]
            refine wpAny_bind (wpAny_rule ?_)
            refine wpAny_bind (intLtAt prog w ?_)
            wp_walk
            exact ⟨_, rfl, hR⟩
    case fin =>
      rintro ⟨b1, b2⟩ s' ⟨hb', rfl, as, bs, xs, ys, hz, h1, h2, hlen, hR⟩
      simp only at hb'
      subst hb'
      have e : ltZ xs ys = decide (items.size < items2.size) := by
        cases h1 with
        | nil =>
          cases h2 with
          | nil => simp only [List.length_nil] at hlen; unfold ltZ; exact (decide_eq_false (by omega)).symm
          | cons c u h2 => simp only [List.length_nil, List.length_cons] at hlen; unfold ltZ; exact (decide_eq_true (by omega)).symm
        | cons a t h1 =>
          cases h2 with
          | nil => simp only [List.length_nil, List.length_cons] at hlen; unfold ltZ; exact (decide_eq_false (by omega)).symm
          | cons c u h2 => cases hz
      rw [e] at hR
      wp_walk
      exact ⟨_, rfl, by simpa [Builtin.Tuple.tupleCompareSizes] using hR⟩
    case h =>
      exact ⟨rfl, rfl, _, _, _, _, rfl, hx, hy, by simp [Nat.add_comm], h⟩
theorem tupLtAt {A : Around} {s : Shared} {l b : Addr} {items items2 : Array Value} {xs ys : List Int} (hl : s.heap.IsTuple l items) (hb : s.heap.IsTuple b items2) (hx : IntsAre items.toList xs) (hy : IntsAre items2.toList ys) (hu : A.units < cLine) (prog : Program) (w : World) {E : Value → Shared → Prop} {Q : Value → Shared → Prop}
    (h : Q (.bool (ltZ xs ys)) s) : wpAny (model prog w) A (richCompare .Lt (.ref l) (.ref b)) Q E s := by
  obtain ⟨⟨cls, dd, data, sl⟩, ho, hc, n, hd⟩ := id hl
  obtain ⟨⟨cls2, dd2, data2, sl2⟩, ho2, hc2, n2, hd2⟩ := id hb
  simp only at hc hd hc2 hd2
  subst hc hd hc2 hd2
  exact richCompare_meets_room (op := .Lt) ⟨_, ho, rfl⟩ ⟨_, ho2, rfl⟩ F.slot_tuple_lt F.entry_tuple_lt (F.args_tuple_lt_2 _ _) (tuple_ltInts l b items items2 n n2 dd dd2 sl sl2 hx hy)
    ⟨ho, ho2, show Value.bool (ltZ xs ys) ≠ Value.notImplemented ∧ Q (.bool (ltZ xs ys)) s from ⟨(fun x => nomatch x), h⟩⟩ hu
end PD
namespace PD
open PySem PySem.Spec PyProof.Rows L2
def KCmp (prog : Program) (w : World) (A : Around) (h0 : Heap) (P : Nat → Value → Prop) (bt : Nat → Nat → Bool) : Prop :=
  ∀ (i j : Nat) (vi vj : Value) (s : Shared) (Q : Value → Shared → Prop) (E : Value → Shared → Prop), (∀ b o, h0.get? b = some o → s.heap.get? b = some o) → P i vi → P j vj → Q (.bool (bt i j)) s → wpAny (model prog w) A (richCompare .Lt vi vj) Q E s
abbrev cellS (vs : Array Value) (c : Nat) : Obj := { cls := .type "list", dict := none, data := .seq vs c, slots := #[] }
section
variable {prog : Program} {w : World} {A : Around} {R : Result → Shared → Prop} {I : Addr} {fp wr : List Addr} {n : Nat} {P : Nat → Value → Prop} {St : Nat → Heap → Prop} {h0 : Heap} {bt : Nat → Nat → Bool} {S : Addr} {kw : List (Str × Value)}
theorem min_loopK (W : Walks prog w A.in1 I fp wr n P St) (hcmp : KCmp prog w A.in1 h0 P bt) (hSf : S ∉ fp) (hw : ∀ b ∈ wr, h0.get? b = none) (hS0 : h0.get? S = none) :
    ∀ (k j : Nat) (s : Shared) (vb : Value) (c : Nat), n - (j + 1) = k → j + 1 ≤ n → St (j + 1) s.heap → P (argBest bt j) vb → s.heap.get? S = some (cellS #[vb, vb] c) → (∀ b o, h0.get? b = some o → s.heap.get? b = some o) →
    (∀ v h' tk, P (argBest bt (n - 1)) v → (∀ b o, h0.get? b = some o → h'.get? b = some o) → R (.ok (.ret v)) { s with heap := h', toks := tk }) →
    codeAny (model prog w) A (.builtin "min.loop" ⟨[.ref I, .none, .ref S], kw⟩) R s := by
  have hSw : S ∉ wr := fun h => hSf (W.sub _ h)
  have nw : ∀ {b : Addr} {o : Obj}, h0.get? b = some o → b ∉ wr := fun e h => by rw [hw _ h] at e; cases e
  have nS : ∀ {b : Addr} {o : Obj}, h0.get? b = some o → S ≠ b := fun e h => by rw [← h, hS0] at e; cases e
  have hname : (toString "min" ++ toString ".loop" : String) = "min.loop" := by decide
  intro k
  induction k with
  | zero =>
    intro j s vb c hk hj hst hPb hS hkp hR
    have hin : j + 1 = n := by omega
    refine codeAny_builtin F.entry_min_loop ?_
    rw [Around.under_plainId F.plain_min_loop _]
    show wpAny _ A.in1 (seqItems? (.ref S) >>= _) _ _ s
    refine wpAny_bind (wpAny_seqItems hS rfl ?_)
    show wpAny _ A.in1 (tryCatch (pyNext (.ref I)) _ >>= _) _ _ s
    refine wpAny_bind (wpAny_tryCatch (W.done s _ _ (hin ▸ hst) fun h' tk hk' => ?_))
    show wpAny _ A.in1 (updateSeq S (fun _ => #[]) >>= _) _ _ _
    refine wpAny_bind ?_
    refine wpAny_updateSeq (hk' S _ hSw hS) rfl (wpAny_bind (wpAny_letGo (wpAny_pure ?_)))
    exact hR vb _ tk (by rw [← hin]; exact hPb) fun b o e => (Heap.get?_update_other _ _ (nS e)).trans (hk' b o (nw e) (hkp b o e))
  | succ k ih =>
    intro j s vb c hk hj hst hPb hS hkp hR
    have hlt : j + 1 < n := by omega
    refine codeAny_builtin F.entry_min_loop ?_
    rw [Around.under_plainId F.plain_min_loop _]
    show wpAny _ A.in1 (seqItems? (.ref S) >>= _) _ _ s
    refine wpAny_bind (wpAny_seqItems hS rfl ?_)
    show wpAny _ A.in1 (tryCatch (pyNext (.ref I)) _ >>= _) _ _ s
    refine wpAny_bind (wpAny_tryCatch (W.item (j + 1) s _ _ hlt hst fun v h' tk hP hst' hk' => ?_))
    have hS' := hk' S _ hSw hS
    have hkp' : ∀ b o, h0.get? b = some o → h'.get? b = some o := fun b o e => hk' b o (nw e) (hkp b o e)
    show wpAny _ A.in1 (tryCatch (holding [v, v] (richCompare .Lt v vb >>= _)) _ >>= _) _ _ _
    refine wpAny_bind (wpAny_tryCatch (wpAny_holding (wpAny_bind (hcmp (j + 1) (argBest bt j) v vb _ _ _ hkp' hP hPb ?_))))
    refine wpAny_bind (wpAny_holding (wpAny_truthy_bool ?_))
    refine wpAny_bind (wpAny_letGo (wpAny_pure ?_))
    cases hb : bt (j + 1) (argBest bt j) with
    | true =>
      simp only [if_true]
      refine wpAny_bind ?_
      refine wpAny_updateSeq hS' rfl (wpAny_bind (wpAny_letGo ?_))
      rw [hname]
      refine wpAny_pure ⟨plainId_quiet F.plain_min_loop _, ih (j + 1) _ v _ (by omega) hlt (W.frame _ _ _ hst' fun b hbf o e => (Heap.get?_update_other _ _ (fun h : S = b => hSf (by rw [h]; exact hbf))).trans e) (by simp only [argBest, hb, if_true]; exact hP) (Heap.get?_update_self _ hS' rfl)
        (fun b o e => (Heap.get?_update_other _ _ (nS e)).trans (hkp' b o e)) fun v' h'' tk'' hP' hk'' => hR v' h'' tk'' hP' hk''⟩
    | false =>
      simp only [Bool.false_eq_true, if_false]
      refine wpAny_bind (wpAny_letGo ?_)
      rw [hname]
      exact wpAny_pure ⟨plainId_quiet F.plain_min_loop _, ih (j + 1) _ vb c (by omega) hlt hst' (by simp only [argBest, hb, Bool.false_eq_true, if_false]; exact hPb) hS' hkp' fun v' h'' tk'' hP' hk'' => hR v' h'' tk'' hP' hk''⟩
theorem min_firstK (W : Walks prog w A.in1 I fp wr n P St) (hcmp : KCmp prog w A.in1 h0 P bt) (hSf : S ∉ fp) (hw : ∀ b ∈ wr, h0.get? b = none) (hS0 : h0.get? S = none) (hn : 0 < n) {s : Shared} {c : Nat} (hst : St 0 s.heap)
    (hS : s.heap.get? S = some (cellS #[] c)) (hkp : ∀ b o, h0.get? b = some o → s.heap.get? b = some o)
    (hR : ∀ v h' tk, P (argBest bt (n - 1)) v → (∀ b o, h0.get? b = some o → h'.get? b = some o) → R (.ok (.ret v)) { s with heap := h', toks := tk }) :
    codeAny (model prog w) A (.builtin "min.loop" ⟨[.ref I, .none, .ref S], kw⟩) R s := by
  have hSw : S ∉ wr := fun h => hSf (W.sub _ h)
  have nw : ∀ {b : Addr} {o : Obj}, h0.get? b = some o → b ∉ wr := fun e h => by rw [hw _ h] at e; cases e
  have nS : ∀ {b : Addr} {o : Obj}, h0.get? b = some o → S ≠ b := fun e h => by rw [← h, hS0] at e; cases e
  have hname : (toString "min" ++ toString ".loop" : String) = "min.loop" := by decide
  refine codeAny_builtin F.entry_min_loop ?_
  rw [Around.under_plainId F.plain_min_loop _]
  show wpAny _ A.in1 (seqItems? (.ref S) >>= _) _ _ s
  refine wpAny_bind (wpAny_seqItems hS rfl ?_)
  show wpAny _ A.in1 (tryCatch (pyNext (.ref I)) _ >>= _) _ _ s
  refine wpAny_bind (wpAny_tryCatch (W.item 0 s _ _ hn hst fun v h' tk hP hst' hk' => ?_))
  have hS' := hk' S _ hSw hS
  have hkp' : ∀ b o, h0.get? b = some o → h'.get? b = some o := fun b o e => hk' b o (nw e) (hkp b o e)
  show wpAny _ A.in1 (updateSeq S (fun _ => #[v, v]) >>= _) _ _ _
  refine wpAny_bind ?_
  refine wpAny_updateSeq hS' rfl ?_
  rw [hname]
  exact wpAny_pure ⟨plainId_quiet F.plain_min_loop _, min_loopK W hcmp hSf hw hS0 _ 0 _ v _ rfl hn (W.frame _ _ _ hst' fun b hbf o e => (Heap.get?_update_other _ _ (fun h : S = b => hSf (by rw [h]; exact hbf))).trans e) hP (Heap.get?_update_self _ hS' rfl)
    (fun b o e => (Heap.get?_update_other _ _ (nS e)).trans (hkp' b o e)) fun v' h'' tk'' hP' hk'' => hR v' h'' tk'' hP' hk''⟩
theorem min_noneK {d : Value} {nm : Str} (W : Walks prog w A.in1 I fp wr 0 P St) (hSf : S ∉ fp) {s : Shared} {c : Nat} (hst : St 0 s.heap) (hS : s.heap.get? S = some (cellS #[] c))
    (hR : ∀ h' tk, (∀ b o, b ∉ wr → s.heap.get? b = some o → h'.get? b = some o) → R (.ok (.ret d)) { s with heap := h', toks := tk }) :
    codeAny (model prog w) A (.builtin "min.loop" ⟨[.ref I, .none, .ref S], [(nm, d)]⟩) R s := by
  refine codeAny_builtin F.entry_min_loop ?_
  rw [Around.under_plainId F.plain_min_loop _]
  show wpAny _ A.in1 (seqItems? (.ref S) >>= _) _ _ s
  refine wpAny_bind (wpAny_seqItems hS rfl ?_)
  show wpAny _ A.in1 (tryCatch (pyNext (.ref I)) _ >>= _) _ _ s
  refine wpAny_bind (wpAny_tryCatch (W.done s _ _ hst fun h' tk hk' => ?_))
  show wpAny _ A.in1 (rule _ >>= _) _ _ _
  refine wpAny_bind (wpAny_rule (wpAny_pure ?_))
  exact hR h' tk hk'
theorem call_kw {id : String} {b : Builtin} {args : List Value} {Q : Value → Shared → Prop} {E : Value → Shared → Prop} {s : Shared} (hk : builtinKind id = none) (hp : plainId id = true)
    (hb : entryFor table id = some b) (ha : argsOk id ⟨args, kw⟩)
    (hc : wpAny (model prog w) A.in1 (b ⟨args, kw⟩) (fun fin s' => match fin with
      | .done f => (match (Except.ok f : Result) with | .ok (.ret v) => Q v s' | .ok _ => False | .error e => E e s')
      | .again c' => c'.quiet = true ∧ codeAny (model prog w) A c' (fun r s' => match r with | .ok (.ret v) => Q v s' | .ok _ => False | .error e => E e s') s') E s) :
    wpAny (model prog w) A (call (.builtin id) args kw) Q E s := by
  refine wpAny_call (codeAny_call_builtin hp hb ?_)
  simp only [checkBuiltinCall, hk]
  cases hsig : Manifest.signature? id with
  | none => exact wpAny_pure hc
  | some sig =>
    have h2 : Bind.checkArgs id sig ⟨args, kw⟩ = pure () := by simpa only [argsOk, hsig] using ha
    simp only [h2]
    exact wpAny_pure hc
theorem args_minD (a d : Value) : argsOk "min" ⟨[a], [("default", d)]⟩ := by unfold argsOk; kernel_rfl
end
end PD
namespace PD
open PySem PySem.Spec PyProof.Rows L2
def minT (m : List Int) (l : List (List Int)) : List Int := l.foldl (fun m x => if ltZ x m = true then x else m) m
def tupsOf : List D → Option (List (List Int))
  | [] => some []
  | .tup a :: r => match intsOf a, tupsOf r with
    | some n, some ns => some (n :: ns)
    | _, _ => none
  | _ :: _ => none
def TupsAre (h : Heap) (us : List Value) (ns : List (List Int)) : Prop := us.length = ns.length ∧ ∀ (i : Nat) (v : Value), us[i]? = some v → ∃ a items, v = .ref a ∧ h.IsTuple a items ∧ IntsAre items.toList (ns.getD i [])
theorem argBest_T (ns : List (List Int)) : ∀ k : Nat, k < ns.length → argBest (fun i j => ltZ (ns.getD i []) (ns.getD j [])) k ≤ k ∧ ns.getD (argBest (fun i j => ltZ (ns.getD i []) (ns.getD j [])) k) [] = minT (ns.getD 0 []) ((ns.drop 1).take k)
  | 0, h => ⟨Nat.le_refl _, rfl⟩
  | k + 1, h => by
    obtain ⟨h1, h2⟩ := argBest_T ns k (by omega)
    have hd : (ns.drop 1)[k]? = some (ns.getD (k + 1) []) := by
      rw [List.getElem?_drop, Nat.add_comm 1 k, List.getD_eq_getElem?_getD, List.getElem?_eq_getElem h]; rfl
    have ht : (ns.drop 1).take (k + 1) = (ns.drop 1).take k ++ [ns.getD (k + 1) []] := by
      rw [List.take_succ, hd]; rfl
    rw [ht]
    unfold minT at h2 ⊢
    rw [List.foldl_append, ← h2]
    simp only [argBest, List.foldl_cons, List.foldl_nil]
    by_cases hb : ltZ (ns.getD (k + 1) []) (ns.getD (argBest (fun i j => ltZ (ns.getD i []) (ns.getD j [])) k) []) = true
    · rw [if_pos hb, if_pos hb]; exact ⟨Nat.le_refl _, rfl⟩
    · rw [if_neg hb, if_neg hb]; exact ⟨by omega, rfl⟩
theorem ints_back : ∀ {ds : List D} {ns : List Int}, intsOf ds = some ns → ds = ns.map .int
  | [], ns, h => by unfold intsOf at h; cases h; rfl
  | d :: r, ns, h => by
    unfold intsOf at h
    split at h
    · rename_i e; cases e
    · rename_i b r' e
      cases e
      cases e : intsOf r with
      | none => rw [e] at h; cases h
      | some cs => rw [e] at h; cases h; rw [ints_back e]; rfl
    · cases h
section
variable {X : Cx} {E : XK} {pins : List (Addr × Obj)} {σ : L2.St} {H : Hp} {s : Shared}
theorem tups_are {w : Wd} (I : Inv X pins σ H s) : ∀ {ds : List D} {vs : List V} {us : List Value} {ns : List (List Int)}, RDs X.K w H ds vs → Vals vs us → tupsOf ds = some ns → TupsAre s.heap us ns ∧ ∀ (i : Nat) (v : Value), us[i]? = some v → ∃ y, RelV y v ∧ RD X.K w H (.tup ((ns.getD i []).map .int)) y
  | [], _, _, _, q, r, h => by
    rw [q.nil_inv] at r
    cases r
    unfold tupsOf at h
    cases h
    exact ⟨⟨rfl, fun i v h => by simp at h⟩, fun i v h => by simp at h⟩
  | d :: ds, _, _, ns, q, r, h => by
    obtain ⟨y, vs, rfl, p, t⟩ := q.cons_inv
    unfold tupsOf at h
    split at h
    · rename_i e; cases e
    · rename_i a r' eq
      cases eq
      split at h
      · rename_i n ns' e1 e2
        cases h
        cases r with
        | cons rv rr =>
          obtain ⟨⟨l, g⟩, g2⟩ := tups_are I t rr e2
          obtain ⟨pa, xs, rfl, za, ra⟩ := p.tupI
          obtain ⟨its, r1, p1, _⟩ := I.tuple (SqT_of za)
          cases rv
          refine ⟨⟨by simp [l], fun i v hv => ?_⟩, fun i v hv => ?_⟩
          · cases i with
            | zero => cases hv; exact ⟨pa, its.toArray, rfl, p1, by simpa using ints_are ra r1 e1⟩
            | succ i => exact g i v (by simpa using hv)
          · cases i with
            | zero => cases hv; exact ⟨.ref pa, rfl, by have := ints_back e1; subst this; exact p⟩
            | succ i => exact g2 i v (by simpa using hv)
      · cases h
    · cases h
end
section
variable {prog : Program} {w : World} {A : Around} {E : Value → Shared → Prop} {s : Shared}
theorem kcmp_tups {h0 : Heap} {us : List Value} {ns : List (List Int)} (t : TupsAre h0 us ns) (hu : A.units < cLine) : KCmp prog w A h0 (fun i v => us.toArray[i]? = some v) fun i j => ltZ (ns.getD i []) (ns.getD j []) := by
  intro i j vi vj s Q E hk hi hj h
  obtain ⟨a, xs, rfl, ta, ia⟩ := t.2 i vi (by simpa using hi)
  obtain ⟨b, ys, rfl, tb, ib⟩ := t.2 j vj (by simpa using hj)
  exact tupLtAt (ta.at fun o e => hk _ o e) (tb.at fun o e => hk _ o e) ia ib hu prog w h
theorem min_listK {l : Addr} {us : List Value} {bt : Nat → Nat → Bool} {kw : List (Str × Value)} {df : Option Value} {Q : Value → Shared → Prop} (hh : A.handled = none) (hl : s.heap.IsList l us.toArray) (hne : 0 < us.length)
    (ha : argsOk "min" ⟨[.ref l], kw⟩) (hb : Builtin.Builtins.bindParams "min" ["key", "default"] 0 ⟨[], kw⟩ = pure [none, df])
    (hcmp : KCmp prog w A.in1 s.heap (fun i v => us.toArray[i]? = some v) bt)
    (h : ∀ v h' tk, us[argBest bt (us.length - 1)]? = some v → (∀ b o, s.heap.get? b = some o → h'.get? b = some o) → Q v { s with heap := h', toks := tk }) :
    wpAny (model prog w) A (call (.builtin "min") [.ref l] kw) Q E s := by
  have hname : (toString "min" ++ toString ".loop" : String) = "min.loop" := by decide
  have hlt : l < s.heap.objs.size := by obtain ⟨_, e, _⟩ := hl; exact Heap.lt_size e
  refine call_kw F.kind_min F.plain_min F.entry_min ha ?_
  show wpAny _ A.in1 (Builtin.Builtins.bindParams "min" ["key", "default"] 0 ⟨[], kw⟩ >>= _) _ _ s
  refine wpAny_bind (wpAny_of_eq hb ?_)
  refine wpAny_bind (wpAny_pure ?_)
  refine wpAny_bind (wpAny_pyIter_list hl ?_)
  refine wpAny_bind (wpAny_newObj_type ?_)
  have hsz : (s.heap.push { cls := .type "list_iterator", data := .fields #[.ref l, .int 0 0] }).objs.size = s.heap.objs.size + 1 := Heap.size_push ..
  have W := Walks.list (prog := prog) (w := w) (A := A.in1) hh s.heap.objs.size l (Nat.ne_of_lt hlt) us.toArray
  have hSf : s.heap.objs.size + 1 ∉ [s.heap.objs.size, l] := fun hm => by
    rcases List.mem_cons.mp hm with e | hm
    · exact absurd e (Nat.succ_ne_self _)
    · rcases List.mem_cons.mp hm with e | hm
      · exact Nat.lt_irrefl _ (Nat.lt_of_succ_lt (e ▸ hlt : s.heap.objs.size + 1 < s.heap.objs.size))
      · cases hm
  rw [hname]
  refine wpAny_pure ⟨plainId_quiet F.plain_min_loop _, ?_⟩
  show codeAny _ A (.builtin "min.loop" ⟨[.ref s.heap.objs.size, .none, .ref (s.heap.push _).objs.size], _⟩) _ _
  rw [hsz]
  refine min_firstK (h0 := s.heap) W hcmp hSf (fun b hb => ?_) (Heap.get?_none_of_le (Nat.le_succ _)) (by simpa using hne) (W.frame _ _ _ ⟨⟨_, Heap.get?_push_size _ rfl, rfl, rfl⟩, hl.push _⟩ fun b _ o e => Heap.get?_push_of_some _ e) (by rw [← hsz]; exact Heap.get?_push_size _ rfl)
    (fun b o e => Heap.get?_push_of_some _ (Heap.get?_push_of_some _ e)) fun v h' tk hP hk => h v h' tk (by simpa using hP) hk
  · simp at hb; rw [hb]; exact Heap.get?_none_of_le (Nat.le_refl _)
theorem min_emptyK {l : Addr} {d : Value} {Q : Value → Shared → Prop} (hh : A.handled = none) (hl : s.heap.IsList l #[])
    (h : ∀ h' tk, (∀ b o, s.heap.get? b = some o → h'.get? b = some o) → Q d { s with heap := h', toks := tk }) :
    wpAny (model prog w) A (call (.builtin "min") [.ref l] [("default", d)]) Q E s := by
  have hname : (toString "min" ++ toString ".loop" : String) = "min.loop" := by decide
  have hlt : l < s.heap.objs.size := by obtain ⟨_, e, _⟩ := hl; exact Heap.lt_size e
  refine call_kw F.kind_min F.plain_min F.entry_min (args_minD _ _) ?_
  show wpAny _ A.in1 (Builtin.Builtins.bindParams "min" ["key", "default"] 0 ⟨[], [("default", d)]⟩ >>= _) _ _ s
  refine wpAny_bind (wpAny_of_eq (show Builtin.Builtins.bindParams "min" ["key", "default"] 0 ⟨[], [("default", d)]⟩ = pure [none, some d] from rfl) ?_)
  refine wpAny_bind (wpAny_pure ?_)
  refine wpAny_bind (wpAny_pyIter_list hl ?_)
  refine wpAny_bind (wpAny_newObj_type ?_)
  have hsz : (s.heap.push { cls := .type "list_iterator", data := .fields #[.ref l, .int 0 0] }).objs.size = s.heap.objs.size + 1 := Heap.size_push ..
  have W := Walks.list (prog := prog) (w := w) (A := A.in1) hh s.heap.objs.size l (Nat.ne_of_lt hlt) #[]
  have hSf : s.heap.objs.size + 1 ∉ [s.heap.objs.size, l] := fun hm => by
    rcases List.mem_cons.mp hm with e | hm
    · exact absurd e (Nat.succ_ne_self _)
    · rcases List.mem_cons.mp hm with e | hm
      · exact Nat.lt_irrefl _ (Nat.lt_of_succ_lt (e ▸ hlt : s.heap.objs.size + 1 < s.heap.objs.size))
      · cases hm
  rw [hname]
  refine wpAny_pure ⟨plainId_quiet F.plain_min_loop _, ?_⟩
  show codeAny _ A (.builtin "min.loop" ⟨[.ref s.heap.objs.size, .none, .ref (s.heap.push _).objs.size], [("default", d)]⟩) _ _
  rw [hsz]
  refine min_noneK W hSf (W.frame _ _ _ ⟨⟨_, Heap.get?_push_size _ rfl, rfl, rfl⟩, hl.push _⟩ fun b _ o e => Heap.get?_push_of_some _ e) (by rw [← hsz]; exact Heap.get?_push_size _ rfl) fun h' tk hk => h h' tk fun b o e => hk b o (fun hm => ?_) (Heap.get?_push_of_some _ (Heap.get?_push_of_some _ e))
  simp at hm
  exact absurd (hm ▸ Heap.lt_size e) (Nat.lt_irrefl _)
end
end PD
namespace PD
open PySem PySem.Spec PyProof.Rows L2
section
variable {prog : Program} {w : World} {A : Around} {E : Value → Shared → Prop} {s : Shared}
end
theorem minZ_app : ∀ (l : List Int) (m x : Int), minZ m (l ++ [x]) = if x < minZ m l then x else minZ m l
  | [], m, x => rfl
  | y :: l, m, x => minZ_app l (if y < m then y else m) x
theorem argBest_Z (ns : List Int) : ∀ k : Nat, k < ns.length → ns.getD (argBest (fun i j => decide (ns.getD i 0 < ns.getD j 0)) k) 0 = minZ (ns.getD 0 0) ((ns.drop 1).take k)
  | 0, h => rfl
  | k + 1, h => by
    have h2 := argBest_Z ns k (by omega)
    have hd : (ns.drop 1)[k]? = some (ns.getD (k + 1) 0) := by
      rw [List.getElem?_drop, Nat.add_comm 1 k, List.getD_eq_getElem?_getD, List.getElem?_eq_getElem h]; rfl
    have ht : (ns.drop 1).take (k + 1) = (ns.drop 1).take k ++ [ns.getD (k + 1) 0] := by
      rw [List.take_succ, hd]; rfl
    rw [ht, minZ_app, ← h2]
    simp only [argBest]
    by_cases hb : ns.getD (k + 1) 0 < ns.getD (argBest (fun i j => decide (ns.getD i 0 < ns.getD j 0)) k) 0
    · rw [if_pos (decide_eq_true hb), if_pos hb]
    · rw [if_neg (by simpa using hb), if_neg hb]
theorem intsAt : ∀ {vs : List Value} {ns : List Int}, IntsAre vs ns → ∀ (i : Nat) (v : Value), vs[i]? = some v → ∃ t, v = .int (ns.getD i 0) t
  | _, _, .nil, i, v, h => by simp at h
  | _, _, .cons n t r, 0, v, h => by cases h; exact ⟨t, rfl⟩
  | _, _, .cons n t r, i + 1, v, h => intsAt r i v (by simpa using h)
def fMinD : Sto → List D → Option D
  | S, [d] => match isLst S d with
    | some [] => some .non
    | some (x :: a) => match tupsOf (x :: a), intsOf (x :: a) with
      | some (n :: ns), _ => some (.tup ((minT n ns).map .int))
      | none, some (n :: ns) => some (.int (minZ n ns))
      | _, _ => none
    | none => none
  | _, _ => none
def CallK (X : Cx) (f : Value) (kw : List (Str × Value)) (r : List V → Hp → VK → Prop) : Prop :=
  ∀ (pins : List (Addr × Obj)) (s : Shared) (σ : L2.St) (H : Hp) (xs : List V) (us : List Value) (Q : VK), Inv X pins σ H s → Vals xs us → r xs H Q →
    wpAny (model X.prog X.w) X.A (call f us kw) (EP X pins σ Q) X.xe s
section
variable {X : Cx} {E : XK}
theorem xk_minD {k : Nat} (hc : X.calm = true) (hr : Room k X.A) : CallK X (.builtin "min") [("default", .none)] (xC X.K E fMinD) := by
  rintro pins s σ H xs us Q I r ⟨w, S, ds, hS, qs, p⟩
  obtain ⟨z, hz, p'⟩ := p.of
  clear p
  unfold fMinD at hz
  split at hz
  · rename_i d
    obtain ⟨v, rfl, q⟩ := qs.one_inv
    obtain ⟨u, rfl, rx⟩ := vals1 r
    split at hz
    · rename_i ha
      cases hz
      obtain ⟨pa, vs, rfl, sq, ra⟩ := lst_at hS q ha
      cases rx
      obtain ⟨its, r', pl, _⟩ := I.list sq
      rw [ra.nil_inv] at r'
      cases r'
      exact min_emptyK (I.ok.hd hc) pl.isList fun h' tk hk => ⟨.non, H, I.kept (t' := tk) hk, rfl, p'.ret (by unfold RD; rfl) hS⟩
    · rename_i x a ha
      obtain ⟨pa, vs, rfl, sq, ra⟩ := lst_at hS q ha
      cases rx
      obtain ⟨its, r', pl, _⟩ := I.list sq
      split at hz
      · rename_i n ns e
        cases hz
        obtain ⟨t, g⟩ := tups_are I ra r' e
        have hl : its.length = ns.length + 1 := by rw [t.1]; rfl
        refine min_listK (df := some .none) (I.ok.hd hc) pl.isList (by omega) (args_minD _ _) rfl (kcmp_tups t (by have := hr.un; show X.A.units + 1 < cLine; omega)) fun v h' tk hv hk => ?_
        obtain ⟨y, ry, rd⟩ := g _ v hv
        obtain ⟨_, b2⟩ := argBest_T (n :: ns) (its.length - 1) (by rw [hl]; exact Nat.lt_succ_self _)
        have b3 : minT ((n :: ns).getD 0 []) (((n :: ns).drop 1).take (its.length - 1)) = minT n ns := by
          rw [hl]
          show minT n (ns.take ns.length) = minT n ns
          rw [List.take_length]
        rw [b2, b3] at rd
        exact ⟨y, H, I.kept (t' := tk) hk, ry, p'.ret rd hS⟩
      · rename_i n ns _ e
        cases hz
        have ia := ints_are ra r' e
        have hl : its.length = (n :: ns).length := ia.length
        have hcmp : KCmp X.prog X.w X.A.in1 s.heap (fun i v => its.toArray[i]? = some v) (fun i j => decide ((n :: ns).getD i 0 < (n :: ns).getD j 0)) := by
          intro i j vi vj s1 Q1 E1 hk hi hj h
          obtain ⟨t1, rfl⟩ := intsAt ia i vi (by simpa using hi)
          obtain ⟨t2, rfl⟩ := intsAt ia j vj (by simpa using hj)
          exact intLtAt X.prog X.w h
        refine min_listK (df := some .none) (I.ok.hd hc) pl.isList (by rw [hl]; exact Nat.succ_pos _) (args_minD _ _) rfl hcmp fun v h' tk hv hk => ?_
        obtain ⟨t1, rfl⟩ := intsAt ia _ v hv
        have b := argBest_Z (n :: ns) (its.length - 1) (by rw [hl]; exact Nat.lt_succ_self _)
        have b3 : minZ ((n :: ns).getD 0 0) (((n :: ns).drop 1).take (its.length - 1)) = minZ n ns := by
          rw [hl]
          show minZ n (ns.take ns.length) = minZ n ns
          rw [List.take_length]
        rw [b3] at b
        refine ⟨.int (minZ n ns), H, I.kept (t' := tk) hk, ⟨t1, ?_⟩, p'.ret RD.mkI hS⟩
        rw [b]
      · cases hz
    · cases hz
  · cases hz
variable {a : Expr} {ms : AM} {x : Str} {p pos kp : Pos} {id : String} {nm : Str}
theorem pe_callBD {r : List V → Hp → VK → Prop} {t : TA} {j : Nat} {cp : Pos} (hc : CallK X (.builtin id) [(nm, .none)] r) (hg : Gl X x) (hm : X.mg x = none) (hv : bootBuiltins x = some (.builtin id)) (ha : PA X [a] t) (hn : x ≠ "__name__" := by decide) (hdb : (x == ("__debug__" : Str)) = false := by decide)
    (he : backTo pos (starEach [a] X.env) = (false, eval a X.env) :: backTo pos (starEach [] X.env) := by rfl) (hpl : (backTo pos (starEach [a] X.env)).any (·.1) = false := by rfl) : PE X (.Call (.Name x p) [a] [⟨some nm, .Constant .none j cp, kp⟩] pos) (tCB r t) := by
  intro pins s σ H Q I h
  refine wpAny_Call_Name_kw (ld_blt I hg hm hv ?_ hn hdb)
  refine callWith_kw (thn (ha pos pins s σ H _ I h) fun us s1 ⟨vs, H1, I1, r1, q1⟩ => kws_cons ?_) he hpl
  exact Constant_none (kws_nil (hc pins s1 σ H1 vs us Q I1 r1 q1))
theorem se_callBD {f : Sto → List D → Option D} {j : Nat} {cp : Pos} (hc : CallK X (.builtin id) [(nm, .none)] (xC X.K E f)) (hg : Gl X x) (hm : X.mg x = none) (hv : bootBuiltins x = some (.builtin id)) (ha : SA X E [a] ms) (hn : x ≠ "__name__" := by decide +kernel) (hdb : (x == ("__debug__" : Str)) = false := by decide +kernel)
    (he : backTo pos (starEach [a] X.env) = (false, eval a X.env) :: backTo pos (starEach [] X.env) := by kernel_rfl) (hpl : (backTo pos (starEach [a] X.env)).any (·.1) = false := by kernel_rfl) : SE X E (.Call (.Name x p) [a] [⟨some nm, .Constant .none j cp, kp⟩] pos) (eB f ms) := ⟨
  pe_weak (pe_callBD hc hg hm hv ha.out hn hdb he hpl) fun s H Q ⟨w, r, S, hr, hS, hp⟩ => ⟨w, r, S, hr, hS, hp.bind hS fun ds S1 w1 H1 vs x1 q1 s1 p1 => ⟨w1, S1, ds, s1, q1, p1⟩⟩⟩
end
end PD
namespace SR
open PySem PyProof.Rows
abbrev SM (α : Type) := StateT SortSt Sem α
def Up (xs : Array Keyed) (lo hi : Nat) : Prop := ∀ i j, lo ≤ i → i ≤ j → j < hi → K xs i ≤ K xs j
def Dn (xs : Array Keyed) (lo hi : Nat) : Prop := ∀ i j, lo ≤ i → i ≤ j → j < hi → K xs j ≤ K xs i
def Num (p : Keyed) : Prop := ∃ n t, p.1 = .int n t
def IK (xs : Array Keyed) : Prop := ∀ p ∈ xs.toList, Num p
theorem IK.get {xs : Array Keyed} (h : IK xs) {i : Nat} (hi : i < xs.size) : Num xs[i] := h _ (by simp)
theorem K_get {xs : Array Keyed} {i : Nat} (hi : i < xs.size) : K xs i = numOf xs[i].1 := by unfold K; rw [getElem?_pos xs i hi]
section
variable {prog : Program} {w : World} {A : Around} {E : Value → Shared → Prop} {s : Shared}
theorem lt_ok {st : SortSt} {p q : Keyed} {Q : Option Bool → SortSt → Prop} (hk : kindOf st = oneType') (hp : Num p) (hq : Num q) (h : Q (some (decide (numOf p.1 < numOf q.1))) st) : wpS (model prog w) A E s (lt' p q) Q st := by
  obtain ⟨p1, p2⟩ := p
  obtain ⟨q1, q2⟩ := q
  obtain ⟨a, t, e1⟩ := hp
  obtain ⟨b, u, e2⟩ := hq
  dsimp only at e1 e2
  subst e1 e2
  rw [lt'_eq]
  refine wpS_bind (wpS_get ?_)
  rw [hk, keyLt'_oneType]
  exact wpS_bind (wpS_lift (wpAny_attempt (oneLt_int ⟨rfl, wpS_pure h⟩)))
theorem elem_ok {st : SortSt} {xs : Array Keyed} {i : Nat} {Q : Keyed → SortSt → Prop} (hi : i < xs.size) (h : Q xs[i] st) : wpS (model prog w) A E s (elem' xs i) Q st := by
  rw [elem'_eq, getElem?_pos xs i hi]
  exact wpS_pure h
end
def gal : Bool → Keyed → Array Keyed → Nat → Nat → Nat → SM (Option Nat) := sortPriv% PySem.Builtin.gallop
def by1 (left : Bool) (key : Keyed) (arr : Array Keyed) (z : Nat) : SM (Option Bool) := do
  let x ← elem' arr z
  if left then lt' x key else return (← lt' key x).map (!·)
theorem gal_eq (left : Bool) (key : Keyed) (arr : Array Keyed) (base n hint : Nat) : gal left key arr base n hint = (do
  let f : Nat → SM (Option Bool) := fun i => by1 left key arr (base + i)
  let mut l1 := 0
  let mut o1 := 1
  let mut lo := 0
  let mut hi := 0
  let some rg ← f hint | return none
  if rg then
    let mx := n - hint
    for _ in [0:n] do
      if o1 ≥ mx then break
      let some b ← f (hint + o1) | return none
      if !b then break
      l1 := o1
      o1 := 2 * o1 + 1
    lo := hint + l1 + 1
    hi := hint + min o1 mx
  else
    let mx := hint + 1
    for _ in [0:n] do
      if o1 ≥ mx then break
      let some b ← f (hint - o1) | return none
      if b then break
      l1 := o1
      o1 := 2 * o1 + 1
    lo := hint + 1 - min o1 mx
    hi := hint - l1
  for _ in [0:n] do
    if lo ≥ hi then break
    let m := lo + (hi - lo) / 2
    let some b ← f m | return none
    if b then lo := m + 1 else hi := m
  return some hi) := rfl
section
variable {prog : Program} {w : World} {A : Around} {E : Value → Shared → Prop} {s : Shared}
def bef (left : Bool) (key : Keyed) (arr : Array Keyed) (i : Nat) : Bool := if left = true then decide (K arr i < numOf key.1) else !decide (numOf key.1 < K arr i)
theorem bef_mono {left : Bool} {key : Keyed} {arr : Array Keyed} {lo hi : Nat} (hs : Up arr lo hi) {i j : Nat} (hi1 : lo ≤ i) (hij : i ≤ j) (hj : j < hi) (h : bef left key arr j = true) : bef left key arr i = true := by
  have z := hs i j hi1 hij hj
  cases left
  · simp [bef] at h ⊢; omega
  · simp [bef] at h ⊢; omega
theorem by1_ok {left : Bool} {key : Keyed} {arr : Array Keyed} {i : Nat} {st : SortSt} {Q : Option Bool → SortSt → Prop} (hk : kindOf st = oneType') (ha : IK arr) (hy : Num key) (hi : i < arr.size) (h : Q (some (bef left key arr i)) st) : wpS (model prog w) A E s (by1 left key arr i) Q st := by
  unfold by1
  refine wpS_bind (elem_ok hi ?_)
  have e := K_get hi
  cases left
  · refine wpS_bind (lt_ok hk hy (ha.get hi) (wpS_pure ?_))
    simpa [bef, e] using h
  · refine lt_ok hk (ha.get hi) hy ?_
    simpa [bef, e] using h
theorem bs_ok {left : Bool} {key : Keyed} {arr : Array Keyed} {base n lo hi : Nat} {st : SortSt} {Q : Option (Option Nat) × Nat × Nat → SortSt → Prop} (hk : kindOf st = oneType') (ha : IK arr) (hy : Num key) (hn : base + n ≤ arr.size) (hs : Up arr base (base + n))
    (h1 : lo ≤ hi) (h2 : hi ≤ n) (h3 : ∀ i, i < lo → bef left key arr (base + i) = true) (h4 : ∀ i, hi ≤ i → i < n → bef left key arr (base + i) = false)
    (h : ∀ l k, k ≤ n → (∀ i, i < k → bef left key arr (base + i) = true) → (∀ i, k ≤ i → i < n → bef left key arr (base + i) = false) → Q (none, l, k) st) :
    wpS (model prog w) A E s (forIn [0:n] ((none, lo, hi) : Option (Option Nat) × Nat × Nat) fun _ c =>
        if c.2.1 ≥ c.2.2 then pure (.done (none, c.2.1, c.2.2)) else do
          match ← by1 left key arr (base + (c.2.1 + (c.2.2 - c.2.1) / 2)) with
          | some b => if b = true then pure (.yield (none, c.2.1 + (c.2.2 - c.2.1) / 2 + 1, c.2.2)) else pure (.yield (none, c.2.1, c.2.1 + (c.2.2 - c.2.1) / 2))
          | _ => pure (.done (some none, c.2.1, c.2.2))) Q st := by
  refine wpS_mono (wpS_forRange (I := fun x c st' => st' = st ∧ ∃ l u, c = (none, l, u) ∧ l ≤ u ∧ u ≤ n ∧ u - l ≤ n - x ∧ (∀ i, i < l → bef left key arr (base + i) = true) ∧ (∀ i, u ≤ i → i < n → bef left key arr (base + i) = false))
    (Q := fun c st' => st' = st ∧ ∃ l u, c = (none, l, u) ∧ u ≤ n ∧ (∀ i, i < u → bef left key arr (base + i) = true) ∧ (∀ i, u ≤ i → i < n → bef left key arr (base + i) = false)) ?a ?b ⟨rfl, lo, hi, rfl, h1, h2, by omega, h3, h4⟩) ?c
  case b =>
    rintro c st' ⟨rfl, l, u, rfl, b1, b2, b3, b4, b5⟩
    have : l = u := by omega
    subst this
    exact ⟨rfl, l, l, rfl, b2, b4, b5⟩
  case c =>
    rintro c st' ⟨rfl, l, u, rfl, b2, b4, b5⟩
    exact h l u b2 b4 b5
  case a =>
    rintro x c st' _ hx ⟨rfl, l, u, rfl, b1, b2, b3, b4, b5⟩
    dsimp only
    by_cases g : l ≥ u
    · rw [if_pos g]
      have : l = u := by omega
      subst this
      exact wpS_pure ⟨rfl, l, l, rfl, b2, b4, b5⟩
    · rw [if_neg g]
      refine wpS_bind (by1_ok hk ha hy (by omega) ?_)
      dsimp only
      cases eb : bef left key arr (base + (l + (u - l) / 2)) with
      | true =>
        rw [if_pos rfl]
        refine wpS_pure ⟨rfl, _, _, rfl, by omega, b2, by omega, fun i hi => ?_, b5⟩
        exact bef_mono hs (by omega) (by omega) (by omega) eb
      | false =>
        rw [if_neg Bool.false_ne_true]
        refine wpS_pure ⟨rfl, _, _, rfl, by omega, by omega, by omega, b4, fun i h1 h2 => ?_⟩
        cases e2 : bef left key arr (base + i) with
        | false => rfl
        | true =>
          have := bef_mono (left := left) (key := key) hs (i := base + (l + (u - l) / 2)) (j := base + i) (by omega) (by omega) (by omega) e2
          rw [eb] at this
          cases this
theorem gal_ok {left : Bool} {key : Keyed} {arr : Array Keyed} {base n hint : Nat} {st : SortSt} {Q : Option Nat → SortSt → Prop} (hk : kindOf st = oneType') (ha : IK arr) (hy : Num key) (hn : base + n ≤ arr.size) (hh : hint < n) (hs : Up arr base (base + n))
    (h : ∀ k, k ≤ n → (∀ i, i < k → bef left key arr (base + i) = true) → (∀ i, k ≤ i → i < n → bef left key arr (base + i) = false) → Q (some k) st) :
    wpS (model prog w) A E s (gal left key arr base n hint) Q st := by
  have no : ∀ i j, i ≤ j → j < n → bef left key arr (base + i) = false → bef left key arr (base + j) = false := fun i j h1 h2 e => by
    cases e2 : bef left key arr (base + j) with
    | false => rfl
    | true =>
      have := bef_mono (left := left) (key := key) hs (i := base + i) (j := base + j) (by omega) (by omega) (by omega) e2
      rw [e] at this
      cases this
  have ys : ∀ i j, i ≤ j → j < n → bef left key arr (base + j) = true → bef left key arr (base + i) = true := fun i j h1 h2 e =>
    bef_mono hs (by omega) (by omega) (by omega) e
  rw [gal_eq]
  dsimp only
  refine wpS_bind (by1_ok hk ha hy (by omega) ?_)
  dsimp only
  cases e0 : bef left key arr (base + hint) with
  | true =>
    rw [if_pos rfl]
    refine wpS_bind (wpS_mono (wpS_forRange (I := fun x c st' => st' = st ∧ ∃ l o, c = (none, l, o) ∧ l < o ∧ x + 1 ≤ o ∧ l < n - hint ∧ bef left key arr (base + (hint + l)) = true)
      (Q := fun c st' => st' = st ∧ ∃ l o, c = (none, l, o) ∧ l < o ∧ l < n - hint ∧ bef left key arr (base + (hint + l)) = true ∧ (o < n - hint → bef left key arr (base + (hint + o)) = false)) ?a ?b ⟨rfl, 0, 1, rfl, by omega, by omega, by omega, e0⟩) ?c)
    case b =>
      rintro c st' ⟨rfl, l, o, rfl, b1, b2, b3, b4⟩
      exact ⟨rfl, l, o, rfl, b1, b3, b4, fun z => by omega⟩
    case a =>
      rintro x c st' _ hx ⟨rfl, l, o, rfl, b1, b2, b3, b4⟩
      dsimp only
      by_cases g : o ≥ n - hint
      · rw [if_pos g]
        exact wpS_pure ⟨rfl, l, o, rfl, b1, b3, b4, fun z => by omega⟩
      · rw [if_neg g]
        refine wpS_bind (by1_ok hk ha hy (by omega) ?_)
        dsimp only
        cases eb : bef left key arr (base + (hint + o)) with
        | false =>
          rw [if_pos (by decide)]
          exact wpS_pure ⟨rfl, l, o, rfl, b1, b3, b4, fun _ => eb⟩
        | true =>
          rw [if_neg (by decide)]
          exact wpS_pure ⟨rfl, o, 2 * o + 1, rfl, by omega, by omega, by omega, eb⟩
    case c =>
      rintro c st' ⟨rfl, l, o, rfl, b1, b3, b4, b5⟩
      dsimp only
      refine wpS_bind (bs_ok (lo := hint + l + 1) (hi := hint + min o (n - hint)) hk ha hy hn hs (by omega) (by omega) (fun i hi => ?_) (fun i h1 h2 => ?_) fun _ k a b c => wpS_pure (h k a b c))
      · exact ys i (hint + l) (by omega) (by omega) b4
      · by_cases g : o < n - hint
        · exact no (hint + o) i (by omega) h2 (b5 g)
        · omega
  | false =>
    rw [if_neg Bool.false_ne_true]
    refine wpS_bind (wpS_mono (wpS_forRange (I := fun x c st' => st' = st ∧ ∃ l o, c = (none, l, o) ∧ l < o ∧ x + 1 ≤ o ∧ l ≤ hint ∧ bef left key arr (base + (hint - l)) = false)
      (Q := fun c st' => st' = st ∧ ∃ l o, c = (none, l, o) ∧ l < o ∧ l ≤ hint ∧ bef left key arr (base + (hint - l)) = false ∧ (o ≤ hint → bef left key arr (base + (hint - o)) = true)) ?a ?b ⟨rfl, 0, 1, rfl, by omega, by omega, by omega, e0⟩) ?c)
    case b =>
      rintro c st' ⟨rfl, l, o, rfl, b1, b2, b3, b4⟩
      exact ⟨rfl, l, o, rfl, b1, b3, b4, fun z => by omega⟩
    case a =>
      rintro x c st' _ hx ⟨rfl, l, o, rfl, b1, b2, b3, b4⟩
      dsimp only
      by_cases g : o ≥ hint + 1
      · rw [if_pos g]
        exact wpS_pure ⟨rfl, l, o, rfl, b1, b3, b4, fun z => by omega⟩
      · rw [if_neg g]
        refine wpS_bind (by1_ok hk ha hy (by omega) ?_)
        dsimp only
        cases eb : bef left key arr (base + (hint - o)) with
        | true =>
          rw [if_pos rfl]
          exact wpS_pure ⟨rfl, l, o, rfl, b1, b3, b4, fun _ => eb⟩
        | false =>
          rw [if_neg Bool.false_ne_true]
          exact wpS_pure ⟨rfl, o, 2 * o + 1, rfl, by omega, by omega, by omega, eb⟩
    case c =>
      rintro c st' ⟨rfl, l, o, rfl, b1, b3, b4, b5⟩
      dsimp only
      refine wpS_bind (bs_ok (lo := hint + 1 - min o (hint + 1)) (hi := hint - l) hk ha hy hn hs (by omega) (by omega) (fun i hi => ?_) (fun i h1 h2 => ?_) fun _ k a b c => wpS_pure (h k a b c))
      · by_cases g : o ≤ hint
        · exact ys i (hint - o) (by omega) (by omega) (b5 g)
        · omega
      · exact no (hint - l) i (by omega) h2 b4
end
end SR
namespace SR
open PySem PyProof.Rows
def mLo : Array Keyed → Array Keyed → SM (Array Keyed) := sortPriv% PySem.Builtin.mergeLo
def sMG : Nat → SM Unit := sortPriv% PySem.Builtin.setMinGallop
theorem mLo_eq (a b : Array Keyed) : mLo a b = (do
  rule "list.sort.merge-lo"
  let tt := a.size + b.size
  let dn (o : Array Keyed) (i j : Nat) := o ++ a.extract i a.size ++ b.extract j b.size
  let la (o : Array Keyed) (i j : Nat) := o ++ b.extract j b.size ++ a.extract i a.size
  let mut o : Array Keyed := #[← elem' b 0]
  let mut i := 0
  let mut j := 1
  if j == b.size then return dn o i j
  if i + 1 == a.size then return la o i j
  let mut g := gallopOf (← get)
  for _ in [0:tt] do
    let mut ca := 0
    let mut cb := 0
    for _ in [0:tt] do
      let some v ← lt' (← elem' b j) (← elem' a i) | return dn o i j
      if v then
        o := o.push (← elem' b j); j := j + 1; cb := cb + 1; ca := 0
        if j == b.size then return dn o i j
        if cb ≥ g then break
      else
        o := o.push (← elem' a i); i := i + 1; ca := ca + 1; cb := 0
        if i + 1 == a.size then return la o i j
        if ca ≥ g then break
    rule "list.sort.gallop"
    g := g + 1
    for _ in [0:tt] do
      if g > 1 then g := g - 1
      sMG g
      let some k ← gal false (← elem' b j) a i (a.size - i) 0 | return dn o i j
      ca := k
      if k > 0 then
        o := o ++ a.extract i (i + k); i := i + k
        if i + 1 == a.size then return la o i j
        if i == a.size then return dn o i j
      o := o.push (← elem' b j); j := j + 1
      if j == b.size then return dn o i j
      let some k ← gal true (← elem' a i) b j (b.size - j) 0 | return dn o i j
      cb := k
      if k > 0 then
        o := o ++ b.extract j (j + k); j := j + k
        if j == b.size then return dn o i j
      o := o.push (← elem' a i); i := i + 1
      if i + 1 == a.size then return la o i j
      if ca < 7 && cb < 7 then break
    g := g + 1
    sMG g
  unsupported "internal:list.sort.merge-bound") := rfl
def ke (p : Keyed) : Int := numOf p.1
def Sd (l : List Keyed) : Prop := l.Pairwise fun p q => ke p ≤ ke q
structure Ml (tot o X Y : List Keyed) : Prop where
  perm : (o ++ (X ++ Y)).Perm tot
  sd : Sd o
  le : ∀ p ∈ o, ∀ q ∈ X ++ Y, ke p ≤ ke q
theorem Ml.left {tot o L X Y : List Keyed} (h : Ml tot o (L ++ X) Y) (hs : Sd (L ++ X)) (hl : ∀ p ∈ L, ∀ q ∈ Y, ke p ≤ ke q) : Ml tot (o ++ L) X Y := by
  obtain ⟨s1, s2, s3⟩ := List.pairwise_append.mp hs
  refine ⟨by simpa [List.append_assoc] using h.perm, List.pairwise_append.mpr ⟨h.sd, s1, fun p hp q hq => h.le p hp q (by simp [hq])⟩, fun p hp q hq => ?_⟩
  rcases List.mem_append.mp hp with hp | hp
  · refine h.le p hp q ?_
    rcases List.mem_append.mp hq with hq | hq <;> simp [hq]
  · rcases List.mem_append.mp hq with hq | hq
    · exact s3 p hp q hq
    · exact hl p hp q hq
theorem Ml.swap {tot o X Y : List Keyed} (h : Ml tot o X Y) : Ml tot o Y X := ⟨(List.perm_append_comm.append_left o).trans h.perm, h.sd, fun p hp q hq => h.le p hp q (by rcases List.mem_append.mp hq with z | z <;> simp [z])⟩
theorem Ml.right {tot o L X Y : List Keyed} (h : Ml tot o X (L ++ Y)) (hs : Sd (L ++ Y)) (hl : ∀ p ∈ L, ∀ q ∈ X, ke p ≤ ke q) : Ml tot (o ++ L) X Y := (h.swap.left hs hl).swap
theorem Ml.done {tot o : List Keyed} (h : Ml tot o [] []) : o.Perm tot ∧ Sd o := ⟨by simpa using h.perm, h.sd⟩
def Mg (a b o : Array Keyed) (i j : Nat) : Prop := Ml (a.toList ++ b.toList) o.toList (a.toList.drop i) (b.toList.drop j)
def Good (a b r : Array Keyed) : Prop := r.toList.Perm (a.toList ++ b.toList) ∧ Sd r.toList
theorem sd_of {a : Array Keyed} (h : Up a 0 a.size) : Sd a.toList := by
  unfold Sd
  rw [List.pairwise_iff_getElem]
  intro i j hi hj hij
  have hi' : i < a.size := by simpa using hi
  have hj' : j < a.size := by simpa using hj
  have z := h i j (Nat.zero_le _) (Nat.le_of_lt hij) hj'
  rw [K_get hi', K_get hj'] at z
  simpa [ke] using z
theorem up_of {a : Array Keyed} (h : Sd a.toList) : Up a 0 a.size := by
  intro i j _ hij hj
  by_cases e : i = j
  · subst e; exact Int.le_refl _
  · unfold Sd at h
    rw [List.pairwise_iff_getElem] at h
    have z := h i j (by simpa using (by omega : i < a.size)) (by simpa using hj) (by omega)
    rw [K_get (by omega), K_get hj]
    simpa [ke] using z
theorem Sd.drop {l : List Keyed} (h : Sd l) (i : Nat) : Sd (l.drop i) := List.Pairwise.sublist (List.drop_sublist i l) h
theorem drop_get {a : Array Keyed} {i : Nat} (hi : i < a.size) : a.toList.drop i = [a[i]] ++ a.toList.drop (i + 1) := by
  rw [List.drop_eq_getElem_cons (by simpa using hi)]
  simp
theorem drop_cut {a : Array Keyed} (i k : Nat) : a.toList.drop i = (a.toList.drop i).take k ++ a.toList.drop (i + k) := by
  rw [← List.drop_drop, List.take_append_drop]
theorem ext_list (a : Array Keyed) (i j : Nat) : (a.extract i j).toList = (a.toList.drop i).take (j - i) := by
  rw [Array.toList_extract]
theorem mem_drop {a : Array Keyed} {i : Nat} {p : Keyed} (h : p ∈ a.toList.drop i) : ∃ t, i ≤ t ∧ t < a.size ∧ ke p = K a t := by
  obtain ⟨n, hn, e⟩ := List.mem_iff_getElem.mp h
  have hl : i + n < a.size := by simp at hn; omega
  refine ⟨i + n, by omega, hl, ?_⟩
  rw [K_get hl, ← e]
  simp [ke]
theorem mem_cut {a : Array Keyed} {i k : Nat} {p : Keyed} (h : p ∈ (a.toList.drop i).take k) : ∃ t, t < k ∧ i + t < a.size ∧ ke p = K a (i + t) := by
  obtain ⟨n, hn, e⟩ := List.mem_iff_getElem.mp h
  have hl : n < k ∧ i + n < a.size := by simp at hn; omega
  refine ⟨n, hl.1, hl.2, ?_⟩
  rw [K_get hl.2, ← e]
  simp [ke]
section
variable {a b o : Array Keyed} {i j k : Nat}
theorem Mg.bulkA (ha : Up a 0 a.size) (hb : Up b 0 b.size) (h : Mg a b o i j) (hj : j < b.size) (hk : ∀ t, t < k → i + t < a.size → K a (i + t) ≤ K b j) : Mg a b (o ++ a.extract i (i + k)) (i + k) j := by
  unfold Mg at h ⊢
  have e : (o ++ a.extract i (i + k)).toList = o.toList ++ (a.toList.drop i).take k := by rw [Array.toList_append, ext_list]; simp
  rw [e]
  rw [drop_cut i k] at h
  refine h.left (by rw [← drop_cut]; exact (sd_of ha).drop i) fun p hp q hq => ?_
  obtain ⟨t, t1, t2, e1⟩ := mem_cut hp
  obtain ⟨u, u1, u2, e2⟩ := mem_drop hq
  have := hk t t1 t2
  have := hb j u (Nat.zero_le _) u1 u2
  omega
theorem Mg.bulkB (ha : Up a 0 a.size) (hb : Up b 0 b.size) (h : Mg a b o i j) (hi : i < a.size) (hk : ∀ t, t < k → j + t < b.size → K b (j + t) ≤ K a i) : Mg a b (o ++ b.extract j (j + k)) i (j + k) := by
  unfold Mg at h ⊢
  have e : (o ++ b.extract j (j + k)).toList = o.toList ++ (b.toList.drop j).take k := by rw [Array.toList_append, ext_list]; simp
  rw [e]
  rw [drop_cut j k] at h
  refine h.right (by rw [← drop_cut]; exact (sd_of hb).drop j) fun p hp q hq => ?_
  obtain ⟨t, t1, t2, e1⟩ := mem_cut hp
  obtain ⟨u, u1, u2, e2⟩ := mem_drop hq
  have := hk t t1 t2
  have := ha i u (Nat.zero_le _) u1 u2
  omega
theorem Mg.pushA (ha : Up a 0 a.size) (hb : Up b 0 b.size) (h : Mg a b o i j) (hi : i < a.size) (hj : j < b.size) (hk : K a i ≤ K b j) : Mg a b (o.push a[i]) (i + 1) j := by
  unfold Mg at h ⊢
  rw [drop_get hi] at h
  rw [Array.toList_push]
  refine h.left (by rw [← drop_get hi]; exact (sd_of ha).drop i) fun p hp q hq => ?_
  rw [List.mem_singleton.mp hp]
  obtain ⟨u, u1, u2, e2⟩ := mem_drop hq
  have := hb j u (Nat.zero_le _) u1 u2
  have e := K_get hi
  unfold ke at e2 ⊢
  omega
theorem Mg.pushB (ha : Up a 0 a.size) (hb : Up b 0 b.size) (h : Mg a b o i j) (hi : i < a.size) (hj : j < b.size) (hk : K b j ≤ K a i) : Mg a b (o.push b[j]) i (j + 1) := by
  unfold Mg at h ⊢
  rw [drop_get hj] at h
  rw [Array.toList_push]
  refine h.right (by rw [← drop_get hj]; exact (sd_of hb).drop j) fun p hp q hq => ?_
  rw [List.mem_singleton.mp hp]
  obtain ⟨u, u1, u2, e2⟩ := mem_drop hq
  have := ha i u (Nat.zero_le _) u1 u2
  have e := K_get hj
  unfold ke at e2 ⊢
  omega
theorem ext_all (a : Array Keyed) (i : Nat) : (a.extract i a.size).toList = a.toList.drop i := by
  rw [ext_list, List.take_of_length_le (by simp)]
theorem Mg.dn (ha : Up a 0 a.size) (hb : Up b 0 b.size) (h : Mg a b o i j) (hz : j = b.size ∨ i = a.size) : Good a b (o ++ a.extract i a.size ++ b.extract j b.size) := by
  unfold Mg at h
  unfold Good
  rw [Array.toList_append, Array.toList_append, ext_all, ext_all]
  rcases hz with rfl | rfl
  · have e : b.toList.drop b.size = [] := by simp
    rw [e] at h ⊢
    rw [List.append_nil]
    refine Ml.done (Ml.left (by simpa using h) (by simpa using (sd_of ha).drop i) fun p hp q hq => by cases hq)
  · have e : a.toList.drop a.size = [] := by simp
    rw [e] at h ⊢
    rw [List.append_nil]
    refine Ml.done (Ml.right (by simpa using h) (by simpa using (sd_of hb).drop j) fun p hp q hq => by cases hq)
theorem Mg.la (ha : Up a 0 a.size) (hb : Up b 0 b.size) (h : Mg a b o i j) (hi : i + 1 = a.size) (hl : ∀ t, t < b.size → K b t ≤ K a (a.size - 1)) : Good a b (o ++ b.extract j b.size ++ a.extract i a.size) := by
  unfold Mg at h
  unfold Good
  rw [Array.toList_append, Array.toList_append, ext_all, ext_all]
  have h1 : Ml (a.toList ++ b.toList) (o.toList ++ b.toList.drop j) (a.toList.drop i) [] := by
    refine Ml.right (by simpa using h) (by simpa using (sd_of hb).drop j) fun p hp q hq => ?_
    obtain ⟨t, t1, t2, e1⟩ := mem_drop hp
    obtain ⟨u, u1, u2, e2⟩ := mem_drop hq
    have := hl t t2
    have : u = a.size - 1 := by omega
    subst this
    omega
  exact Ml.done (Ml.left (by simpa using h1) (by simpa using (sd_of ha).drop i) fun p hp q hq => by cases hq)
end
section
variable {prog : Program} {w : World} {A : Around} {E : Value → Shared → Prop} {s : Shared}
def Sg (st st' : SortSt) : Prop := kindOf st' = kindOf st ∧ arrOf st' = arrOf st ∧ pendingOf st' = pendingOf st ∧ failedOf st' = failedOf st
theorem Sg.refl (st : SortSt) : Sg st st := ⟨rfl, rfl, rfl, rfl⟩
theorem sMG_ok {st0 st : SortSt} {g : Nat} {Q : Unit → SortSt → Prop} (h0 : Sg st0 st) (h : ∀ st', Sg st0 st' → Q () st') : wpS (model prog w) A E s (sMG g) Q st := by
  have e : sMG g = modify fun st => SortSt.mk' (kindOf st) (arrOf st) (pendingOf st) g (failedOf st) := rfl
  rw [e]
  exact wpS_modify (h _ ⟨h0.1, h0.2.1, h0.2.2.1, h0.2.2.2⟩)
end
end SR
namespace SR
open PySem PyProof.Rows
section
variable {prog : Program} {w : World} {A : Around} {E : Value → Shared → Prop} {s : Shared}
structure Mid (a b o : Array Keyed) (i j : Nat) : Prop where
  mg : Mg a b o i j
  ia : i + 1 < a.size
  jb : j < b.size
theorem wp_ite2 {σ α β : Type} {M : Model} {c : Prop} {dc : Decidable c} {T : β → StateT σ Sem α} {p : StateT σ Sem α} {Q : α → σ → Prop} {st : σ} {y x : β} (hp : p = T x) (h : ∀ g, wpS M A E s (T g) Q st) : wpS M A E s (if c then p else T y) Q st := by
  split
  · rw [hp]; exact h x
  · exact h y
theorem wp_key {σ α β γ : Type} {M : Model} {c : Prop} {dc : Decidable c} {T : β → γ → StateT σ Sem α} {p : StateT σ Sem α} {Q : α → σ → Prop} {st : σ} {I : β → γ → Prop} {y1 : β} {y2 : γ} (hn : ¬ c → I y1 y2)
    (ht : ∀ o i, I o i → wpS M A E s (T o i) Q st) (hp : c → (∀ o i, I o i → wpS M A E s (T o i) Q st) → wpS M A E s p Q st) : wpS M A E s (if c then p else T y1 y2) Q st := by
  by_cases hc : c
  · rw [if_pos hc]; exact hp hc ht
  · rw [if_neg hc]; exact ht _ _ (hn hc)
theorem mLo_ok {a b : Array Keyed} {st : SortSt} {Q : Array Keyed → SortSt → Prop} (hk : kindOf st = oneType') (ia : IK a) (ib : IK b) (ha : Up a 0 a.size) (hb : Up b 0 b.size) (a1 : 1 ≤ a.size) (b1 : 1 ≤ b.size) (h0 : K b 0 ≤ K a 0) (hl : ∀ t, t < b.size → K b t ≤ K a (a.size - 1))
    (h : ∀ r st', Good a b r → Sg st st' → Q r st') : wpS (model prog w) A E s (mLo a b) Q st := by
  rw [mLo_eq]
  dsimp only
  refine wpS_bind (wpS_lift (wpAny_rule ⟨rfl, ?_⟩))
  refine wpS_bind (elem_ok (by omega) ?_)
  have m0 : Mg a b #[b[0]] 0 1 := by
    have z : Mg a b #[] 0 0 := ⟨by simp, List.Pairwise.nil, fun p hp => by cases hp⟩
    exact z.pushB ha hb (by omega) (by omega) h0
  by_cases g1 : 1 = b.size
  · rw [if_pos (by simpa using g1)]
    exact wpS_pure (h _ _ (m0.dn ha hb (.inl g1)) (Sg.refl st))
  rw [if_neg (by simpa using g1)]
  by_cases g2 : 0 + 1 = a.size
  · rw [if_pos (by simpa using g2)]
    exact wpS_pure (h _ _ (m0.la ha hb g2 hl) (Sg.refl st))
  rw [if_neg (by simpa using g2)]
  refine wpS_bind (wpS_get ?_)
  have kd : ∀ {st'}, Sg st st' → kindOf st' = oneType' := fun z => z.1.trans hk
  refine wpS_bind (wpS_mono (wpS_forRange (I := fun x c st' => Sg st st' ∧ ∃ o i j g, c = (none, o, i, j, g) ∧ Mid a b o i j ∧ x + 1 ≤ i + j)
    (Q := fun c st' => Sg st st' ∧ ∃ r, c.1 = some r ∧ Good a b r) ?step ?fin ⟨Sg.refl st, _, 0, 1, _, rfl, ⟨m0, by omega, by omega⟩, by omega⟩) ?post)
  case fin =>
    rintro c st' ⟨_, o, i, j, g, _, m, hx⟩
    have := m.ia; have := m.jb
    omega
  case post =>
    rintro ⟨c, o, i, j, g⟩ st' ⟨z, r, e, hr⟩
    cases e
    exact wpS_pure (h r st' hr z)
  case step =>
    rintro x c st' _ hx ⟨z, o, i, j, g, rfl, m, hp⟩
    dsimp only
    refine wpS_bind (wpS_mono (wpS_forRange (I := fun y c st' => Sg st st' ∧ ∃ o' i' j' ca cb, c = (none, o', i', j', ca, cb) ∧ Mid a b o' i' j' ∧ i + j + y ≤ i' + j')
      (Q := fun c st' => Sg st st' ∧ ((∃ r, c.1 = some r ∧ Good a b r) ∨ ∃ o' i' j' ca cb, c = (none, o', i', j', ca, cb) ∧ Mid a b o' i' j' ∧ i + j + 1 ≤ i' + j')) ?s1 ?f1 ⟨z, o, i, j, 0, 0, rfl, m, by omega⟩) ?p1)
    case f1 =>
      rintro c st' ⟨z, o', i', j', ca, cb, rfl, m, hy⟩
      exact ⟨z, .inr ⟨o', i', j', ca, cb, rfl, m, by omega⟩⟩
    case s1 =>
      rintro y c st' _ hy ⟨z, o', i', j', ca, cb, rfl, m, hp'⟩
      dsimp only
      have mi := m.ia
      have mj := m.jb
      refine wpS_bind (elem_ok mj ?_)
      refine wpS_bind (elem_ok (by omega) ?_)
      refine wpS_bind (lt_ok (kd z) (ib.get mj) (ia.get (by omega)) ?_)
      dsimp only
      rw [← K_get mj, ← K_get (show i' < a.size by omega)]
      by_cases hlt : K b j' < K a i'
      · rw [if_pos (by simpa using hlt)]
        refine wpS_bind (elem_ok mj ?_)
        have m2 := m.mg.pushB ha hb (by omega) mj (Int.le_of_lt hlt)
        by_cases e1 : j' + 1 = b.size
        · rw [if_pos (by simpa using e1)]
          exact wpS_pure ⟨z, .inl ⟨_, rfl, m2.dn ha hb (.inl e1)⟩⟩
        · rw [if_neg (by simpa using e1)]
          split
          · exact wpS_pure ⟨z, .inr ⟨_, _, _, _, _, rfl, ⟨m2, by omega, by omega⟩, by omega⟩⟩
          · exact wpS_pure ⟨z, _, _, _, _, _, rfl, ⟨m2, by omega, by omega⟩, by omega⟩
      · rw [if_neg (by simpa using hlt)]
        refine wpS_bind (elem_ok (by omega) ?_)
        have m2 := m.mg.pushA ha hb (by omega) mj (Int.not_lt.mp hlt)
        by_cases e1 : i' + 1 + 1 = a.size
        · rw [if_pos (by simpa using e1)]
          exact wpS_pure ⟨z, .inl ⟨_, rfl, m2.la ha hb e1 hl⟩⟩
        · rw [if_neg (by simpa using e1)]
          split
          · exact wpS_pure ⟨z, .inr ⟨_, _, _, _, _, rfl, ⟨m2, by omega, by omega⟩, by omega⟩⟩
          · exact wpS_pure ⟨z, _, _, _, _, _, rfl, ⟨m2, by omega, by omega⟩, by omega⟩
    case p1 =>
      rintro c st' ⟨z, ⟨r, e, hr⟩ | ⟨o', i', j', ca, cb, rfl, m, hp'⟩⟩
      · obtain ⟨c, o', i', j', ca, cb⟩ := c
        cases e
        exact wpS_pure ⟨z, r, rfl, hr⟩
      dsimp only
      refine wpS_bind (wpS_lift (wpAny_rule ⟨rfl, ?_⟩))
      refine wpS_bind (wpS_mono (wpS_forRange (I := fun y c st' => Sg st st' ∧ ∃ o2 i2 j2 g ca cb, c = (none, o2, i2, j2, g, ca, cb) ∧ Mid a b o2 i2 j2 ∧ i + j + 1 ≤ i2 + j2)
        (Q := fun c st' => Sg st st' ∧ ((∃ r, c.1 = some r ∧ Good a b r) ∨ ∃ o2 i2 j2 g ca cb, c = (none, o2, i2, j2, g, ca, cb) ∧ Mid a b o2 i2 j2 ∧ i + j + 1 ≤ i2 + j2)) ?s2 ?f2 ⟨z, _, _, _, _, _, _, rfl, m, hp'⟩) ?p2)
      case f2 =>
        rintro c st' ⟨z, o2, i2, j2, g2, ca, cb, rfl, m, hy⟩
        exact ⟨z, .inr ⟨o2, i2, j2, g2, ca, cb, rfl, m, hy⟩⟩
      case p2 =>
        rintro c st' ⟨z, ⟨r, e, hr⟩ | ⟨o2, i2, j2, g2, ca, cb, rfl, m, hp'⟩⟩
        · obtain ⟨c, o2, i2, j2, g2, ca, cb⟩ := c
          cases e
          exact wpS_pure ⟨z, r, rfl, hr⟩
        dsimp only
        exact wpS_bind (sMG_ok z fun st' z => wpS_pure ⟨z, _, _, _, _, rfl, m, by omega⟩)
      case s2 =>
        rintro y c st' _ hy ⟨z, o2, i2, j2, g2, ca, cb, rfl, m, hp'⟩
        dsimp only
        have mi := m.ia
        have mj := m.jb
        have hm := m.mg
        clear m
        apply wp_ite2 (y := g2) (x := g2 - 1)
        case hp => rfl
        intro g3
        refine wpS_bind (sMG_ok z fun st' z => ?_)
        refine wpS_bind (elem_ok mj ?_)
        refine wpS_bind (gal_ok (kd z) ia (ib.get mj) (by omega) (by omega) (fun p q _ hpq hq => ha p q (Nat.zero_le _) hpq (by omega)) fun k k1 k2 k3 => ?_)
        dsimp only
        have q2 : ∀ t, t < k → i2 + t < a.size → K a (i2 + t) ≤ K b j2 := fun t ht _ => by
          have := k2 t ht
          rw [K_get mj]
          simpa [bef] using this
        have q3 : k < a.size - i2 → K b j2 ≤ K a (i2 + k) := fun hkk => by
          have := k3 k (Nat.le_refl _) hkk
          rw [K_get mj]
          exact Int.le_of_lt (by simpa [bef] using this)
        have hm' := hm.bulkA ha hb mj q2
        apply wp_key (I := fun o3 i3 => Mg a b o3 i3 j2 ∧ i3 + 1 < a.size ∧ i2 ≤ i3 ∧ K b j2 ≤ K a i3) (y1 := o2) (y2 := i2)
        case hn =>
          intro hk0
          have hk1 : k = 0 := by omega
          subst hk1
          have hq3 := q3 (by omega)
          rw [Nat.add_zero] at hq3
          exact ⟨hm, by omega, Nat.le_refl _, hq3⟩
        case hp =>
          intro hk0 key
          split
          · rename_i e3
            exact wpS_pure ⟨z, .inl ⟨_, rfl, hm'.la ha hb (by simpa using e3) hl⟩⟩
          · rename_i e3
            split
            · rename_i e4
              exact wpS_pure ⟨z, .inl ⟨_, rfl, hm'.dn ha hb (.inr (by simpa using e4))⟩⟩
            · rename_i e4
              simp at e3 e4
              exact key _ _ ⟨hm', by omega, by omega, q3 (by omega)⟩
        intro o3 i3 y3
        obtain ⟨hm3, hi3, le3, hq3⟩ := y3
        have hi4 : i3 < a.size := by omega
        refine wpS_bind (elem_ok mj ?_)
        have m4 := hm3.pushB ha hb (by omega) mj hq3
        by_cases e4 : j2 + 1 = b.size
        · rw [if_pos (by simpa using e4)]
          exact wpS_pure ⟨z, .inl ⟨_, rfl, m4.dn ha hb (.inl e4)⟩⟩
        rw [if_neg (by simpa using e4)]
        generalize o3.push b[j2] = o5 at m4 ⊢
        generalize ej : j2 + 1 = j5 at m4 e4 ⊢
        refine wpS_bind (elem_ok hi4 ?_)
        refine wpS_bind (gal_ok (kd z) ib (ia.get hi4) (by omega) (by omega) (fun p q _ hpq hq => hb p q (Nat.zero_le _) hpq (by omega)) fun u u1 u2 u3 => ?_)
        dsimp only
        apply wp_key (I := fun o4 j4 => Mg a b o4 i3 j4 ∧ j4 < b.size ∧ j2 + 1 ≤ j4 ∧ K a i3 ≤ K b j4) (y1 := o5) (y2 := j5)
        case hn =>
          intro hu
          have hu0 : u = 0 := by omega
          subst hu0
          have hq6 := u3 0 (Nat.le_refl _) (by omega)
          simp [bef] at hq6
          rw [← K_get hi4] at hq6
          exact ⟨m4, by omega, by omega, hq6⟩
        case hp =>
          intro hu key
          have hm6 := m4.bulkB (k := u) ha hb hi4 fun t ht _ => by
            have := u2 t ht
            rw [K_get hi4]
            exact Int.le_of_lt (by simpa [bef] using this)
          split
          · rename_i e5
            exact wpS_pure ⟨z, .inl ⟨_, rfl, hm6.dn ha hb (.inl (by simpa using e5))⟩⟩
          · rename_i e5
            simp at e5
            have hq6 := u3 u (Nat.le_refl _) (by omega)
            simp [bef] at hq6
            rw [← K_get hi4] at hq6
            exact key _ _ ⟨hm6, by omega, by omega, hq6⟩
        intro o4 j4 y4
        obtain ⟨hm6, hj6, le6, hq6⟩ := y4
        refine wpS_bind (elem_ok (by omega) ?_)
        have m6 := hm6.pushA ha hb (by omega) hj6 hq6
        split
        · rename_i e6
          exact wpS_pure ⟨z, .inl ⟨_, rfl, m6.la ha hb (by simpa using e6) hl⟩⟩
        · rename_i e6
          simp at e6
          split
          · exact wpS_pure ⟨z, .inr ⟨_, _, _, _, _, _, rfl, ⟨m6, by omega, by omega⟩, by omega⟩⟩
          · exact wpS_pure ⟨z, _, _, _, _, _, _, rfl, ⟨m6, by omega, by omega⟩, by omega⟩
end
end SR
namespace SR
open PySem PyProof.Rows
def mHi : Array Keyed → Array Keyed → SM (Array Keyed) := sortPriv% PySem.Builtin.mergeHi
theorem mHi_eq (a b : Array Keyed) : mHi a b = (do
  rule "list.sort.merge-hi"
  let tt := a.size + b.size
  let dn (o : Array Keyed) (i j : Nat) := a.extract 0 i ++ b.extract 0 j ++ o.reverse
  let fb (o : Array Keyed) (i j : Nat) := b.extract 0 j ++ a.extract 0 i ++ o.reverse
  let mut i := a.size - 1
  let mut j := b.size
  let mut o : Array Keyed := #[← elem' a i]
  if i == 0 then return dn o i j
  if j == 1 then return fb o i j
  let mut g := gallopOf (← get)
  for _ in [0:tt] do
    let mut ca := 0
    let mut cb := 0
    for _ in [0:tt] do
      let some v ← lt' (← elem' b (j - 1)) (← elem' a (i - 1)) | return dn o i j
      if v then
        i := i - 1; o := o.push (← elem' a i); ca := ca + 1; cb := 0
        if i == 0 then return dn o i j
        if ca ≥ g then break
      else
        j := j - 1; o := o.push (← elem' b j); cb := cb + 1; ca := 0
        if j == 1 then return fb o i j
        if cb ≥ g then break
    rule "list.sort.gallop"
    g := g + 1
    for _ in [0:tt] do
      if g > 1 then g := g - 1
      sMG g
      let some z ← gal false (← elem' b (j - 1)) a 0 i (i - 1) | return dn o i j
      let k := i - z
      ca := k
      if k > 0 then
        o := o ++ (a.extract z i).reverse; i := z
        if i == 0 then return dn o i j
      j := j - 1; o := o.push (← elem' b j)
      if j == 1 then return fb o i j
      let some z ← gal true (← elem' a (i - 1)) b 0 j (j - 1) | return dn o i j
      let k := j - z
      cb := k
      if k > 0 then
        o := o ++ (b.extract z j).reverse; j := z
        if j == 1 then return fb o i j
        if j == 0 then return dn o i j
      i := i - 1; o := o.push (← elem' a i)
      if i == 0 then return dn o i j
      if ca < 7 && cb < 7 then break
    g := g + 1
    sMG g
  unsupported "internal:list.sort.merge-bound") := rfl
structure Mr (tot X Y o : List Keyed) : Prop where
  perm : (X ++ Y ++ o).Perm tot
  sd : Sd o
  le : ∀ q ∈ X ++ Y, ∀ p ∈ o, ke q ≤ ke p
theorem Mr.swap {tot o X Y : List Keyed} (h : Mr tot X Y o) : Mr tot Y X o := ⟨(List.perm_append_comm.append_right o).trans h.perm, h.sd, fun q hq => h.le q (by rcases List.mem_append.mp hq with z | z <;> simp [z])⟩
theorem Mr.left {tot o L X Y : List Keyed} (h : Mr tot Y (X ++ L) o) (hs : Sd (X ++ L)) (hl : ∀ q ∈ Y, ∀ p ∈ L, ke q ≤ ke p) : Mr tot Y X (L ++ o) := by
  obtain ⟨s1, s2, s3⟩ := List.pairwise_append.mp hs
  refine ⟨by simpa [List.append_assoc] using h.perm, List.pairwise_append.mpr ⟨s2, h.sd, fun p hp q hq => h.le p (by simp [hp]) q hq⟩, fun q hq p hp => ?_⟩
  rcases List.mem_append.mp hp with hp | hp
  · rcases List.mem_append.mp hq with hq | hq
    · exact hl q hq p hp
    · exact s3 q hq p hp
  · refine h.le q ?_ p hp
    rcases List.mem_append.mp hq with hq | hq <;> simp [hq]
theorem Mr.right {tot o L X Y : List Keyed} (h : Mr tot (X ++ L) Y o) (hs : Sd (X ++ L)) (hl : ∀ q ∈ Y, ∀ p ∈ L, ke q ≤ ke p) : Mr tot X Y (L ++ o) := (h.swap.left hs hl).swap
theorem Mr.done {tot o : List Keyed} (h : Mr tot [] [] o) : o.Perm tot ∧ Sd o := ⟨by simpa using h.perm, h.sd⟩
def Mt (a b o : Array Keyed) (i j : Nat) : Prop := Mr (a.toList ++ b.toList) (a.toList.take i) (b.toList.take j) o.toList.reverse
theorem Sd.take {l : List Keyed} (h : Sd l) (i : Nat) : Sd (l.take i) := List.Pairwise.sublist (List.take_sublist i l) h
theorem mem_take {a : Array Keyed} {i : Nat} {p : Keyed} (h : p ∈ a.toList.take i) : ∃ t, t < i ∧ t < a.size ∧ ke p = K a t := by
  obtain ⟨t, h1, h2, e⟩ := mem_cut (i := 0) (k := i) (a := a) (p := p) (by simpa using h)
  exact ⟨t, h1, by omega, by simpa using e⟩
theorem take_get {a : Array Keyed} {i : Nat} (hi : i < a.size) : a.toList.take (i + 1) = a.toList.take i ++ [a[i]] := by
  rw [List.take_succ_eq_append_getElem (by simpa using hi)]
  simp
theorem take_cut {a : Array Keyed} {z i : Nat} (hz : z ≤ i) : a.toList.take i = a.toList.take z ++ (a.toList.drop z).take (i - z) := by
  have e : i = z + (i - z) := by omega
  conv => lhs; rw [e, List.take_add]
theorem ext_take (a : Array Keyed) (i : Nat) : (a.extract 0 i).toList = a.toList.take i := by
  rw [ext_list]; simp
section
variable {a b o : Array Keyed} {i j k z : Nat}
theorem Mt.bulkA (ha : Up a 0 a.size) (hb : Up b 0 b.size) (h : Mt a b o i j) (hj : j ≤ b.size) (j1 : 1 ≤ j) (hz : z ≤ i) (hi : i ≤ a.size) (hk : ∀ t, z ≤ t → t < i → K b (j - 1) ≤ K a t) : Mt a b (o ++ (a.extract z i).reverse) z j := by
  unfold Mt at h ⊢
  have e : (o ++ (a.extract z i).reverse).toList.reverse = (a.toList.drop z).take (i - z) ++ o.toList.reverse := by rw [Array.toList_append, List.reverse_append, Array.toList_reverse, List.reverse_reverse, ext_list]
  rw [e]
  rw [take_cut hz] at h
  refine h.right (by rw [← take_cut hz]; exact (sd_of ha).take i) fun q hq p hp => ?_
  obtain ⟨t, t1, t2, e1⟩ := mem_cut hp
  obtain ⟨u, u1, u2, e2⟩ := mem_take hq
  have := hk (z + t) (by omega) (by omega)
  have := hb u (j - 1) (Nat.zero_le _) (by omega) (by omega)
  omega
theorem Mt.bulkB (ha : Up a 0 a.size) (hb : Up b 0 b.size) (h : Mt a b o i j) (hj : j ≤ b.size) (i1 : 1 ≤ i) (hz : z ≤ j) (hi : i ≤ a.size) (hk : ∀ t, z ≤ t → t < j → K a (i - 1) ≤ K b t) : Mt a b (o ++ (b.extract z j).reverse) i z := by
  unfold Mt at h ⊢
  have e : (o ++ (b.extract z j).reverse).toList.reverse = (b.toList.drop z).take (j - z) ++ o.toList.reverse := by rw [Array.toList_append, List.reverse_append, Array.toList_reverse, List.reverse_reverse, ext_list]
  rw [e]
  rw [take_cut hz] at h
  refine h.left (by rw [← take_cut hz]; exact (sd_of hb).take j) fun q hq p hp => ?_
  obtain ⟨t, t1, t2, e1⟩ := mem_cut hp
  obtain ⟨u, u1, u2, e2⟩ := mem_take hq
  have := hk (z + t) (by omega) (by omega)
  have := ha u (i - 1) (Nat.zero_le _) (by omega) (by omega)
  omega
theorem Mt.pushA (ha : Up a 0 a.size) (hb : Up b 0 b.size) (h : Mt a b o (i + 1) j) (hi : i < a.size) (hk : ∀ t, t < j → t < b.size → K b t ≤ K a i) : Mt a b (o.push a[i]) i j := by
  unfold Mt at h ⊢
  rw [take_get hi] at h
  rw [Array.toList_push, List.reverse_append]
  refine h.right (by rw [← take_get hi]; exact (sd_of ha).take _) fun q hq p hp => ?_
  rw [List.mem_singleton.mp hp]
  obtain ⟨u, u1, u2, e2⟩ := mem_take hq
  have := hk u u1 u2
  have e := K_get hi
  unfold ke at e2 ⊢
  omega
theorem Mt.pushB (ha : Up a 0 a.size) (hb : Up b 0 b.size) (h : Mt a b o i (j + 1)) (hj : j < b.size) (hk : ∀ t, t < i → t < a.size → K a t ≤ K b j) : Mt a b (o.push b[j]) i j := by
  unfold Mt at h ⊢
  rw [take_get hj] at h
  rw [Array.toList_push, List.reverse_append]
  refine h.left (by rw [← take_get hj]; exact (sd_of hb).take _) fun q hq p hp => ?_
  rw [List.mem_singleton.mp hp]
  obtain ⟨u, u1, u2, e2⟩ := mem_take hq
  have := hk u u1 u2
  have e := K_get hj
  unfold ke at e2 ⊢
  omega
theorem Mt.dn (ha : Up a 0 a.size) (hb : Up b 0 b.size) (h : Mt a b o i j) (hz : i = 0 ∨ j = 0) : Good a b (a.extract 0 i ++ b.extract 0 j ++ o.reverse) := by
  unfold Mt at h
  unfold Good
  rw [Array.toList_append, Array.toList_append, ext_take, ext_take, Array.toList_reverse]
  rcases hz with rfl | rfl
  · rw [List.take_zero] at h ⊢
    rw [List.nil_append]
    exact Mr.done (Mr.left (by simpa using h) (by simpa using (sd_of hb).take j) fun q hq => by cases hq)
  · rw [List.take_zero] at h ⊢
    rw [List.append_nil]
    exact Mr.done (Mr.right (by simpa using h) (by simpa using (sd_of ha).take i) fun q hq => by cases hq)
theorem Mt.fb (ha : Up a 0 a.size) (hb : Up b 0 b.size) (h : Mt a b o i j) (hj : j = 1) (hl : ∀ t, t < a.size → K b 0 ≤ K a t) : Good a b (b.extract 0 j ++ a.extract 0 i ++ o.reverse) := by
  subst hj
  unfold Mt at h
  unfold Good
  rw [Array.toList_append, Array.toList_append, ext_take, ext_take, Array.toList_reverse, List.append_assoc]
  have h1 : Mr (a.toList ++ b.toList) [] (b.toList.take 1) (a.toList.take i ++ o.toList.reverse) := by
    refine Mr.right (by simpa using h) (by simpa using (sd_of ha).take i) fun q hq p hp => ?_
    obtain ⟨t, t1, t2, e1⟩ := mem_take hp
    obtain ⟨u, u1, u2, e2⟩ := mem_take hq
    have := hl t t2
    have : u = 0 := by omega
    subst this
    omega
  exact Mr.done (Mr.left (by simpa using h1) (by simpa using (sd_of hb).take 1) fun q hq => by cases hq)
end
section
variable {prog : Program} {w : World} {A : Around} {E : Value → Shared → Prop} {s : Shared}
structure Mie (a b o : Array Keyed) (i j : Nat) : Prop where
  mg : Mt a b o i j
  i1 : 1 ≤ i
  ia : i ≤ a.size
  j1 : 2 ≤ j
  jb : j ≤ b.size
set_option maxHeartbeats 2000000 in
theorem mHi_ok {a b : Array Keyed} {st : SortSt} {Q : Array Keyed → SortSt → Prop} (hk : kindOf st = oneType') (ia : IK a) (ib : IK b) (ha : Up a 0 a.size) (hb : Up b 0 b.size) (a1 : 1 ≤ a.size) (b1 : 1 ≤ b.size) (hl : ∀ t, t < a.size → K b 0 ≤ K a t) (h0 : ∀ t, t < b.size → K b t ≤ K a (a.size - 1))
    (h : ∀ r st', Good a b r → Sg st st' → Q r st') : wpS (model prog w) A E s (mHi a b) Q st := by
  rw [mHi_eq]
  dsimp only
  refine wpS_bind (wpS_lift (wpAny_rule ⟨rfl, ?_⟩))
  refine wpS_bind (elem_ok (by omega) ?_)
  have m0 : Mt a b #[a[a.size - 1]] (a.size - 1) b.size := by
    have z : Mt a b #[] (a.size - 1 + 1) b.size := ⟨by rw [show a.size - 1 + 1 = a.size by omega, List.take_of_length_le (by simp), List.take_of_length_le (by simp)]; simp, List.Pairwise.nil, fun q hq p hp => by cases hp⟩
    exact z.pushA ha hb (by omega) fun t _ ht => h0 t ht
  by_cases g1 : a.size - 1 = 0
  · rw [if_pos (by simpa using g1)]
    exact wpS_pure (h _ _ (m0.dn ha hb (.inl g1)) (Sg.refl st))
  rw [if_neg (by simpa using g1)]
  by_cases g2 : b.size = 1
  · rw [if_pos (by simpa using g2)]
    exact wpS_pure (h _ _ (m0.fb ha hb g2 hl) (Sg.refl st))
  rw [if_neg (by simpa using g2)]
  refine wpS_bind (wpS_get ?_)
  have kd : ∀ {st'}, Sg st st' → kindOf st' = oneType' := fun z => z.1.trans hk
  refine wpS_bind (wpS_mono (wpS_forRange (I := fun x c st' => Sg st st' ∧ ∃ o i j g, c = (none, i, j, o, g) ∧ Mie a b o i j ∧ i + j + x + 1 ≤ a.size + b.size)
    (Q := fun c st' => Sg st st' ∧ ∃ r, c.1 = some r ∧ Good a b r) ?step ?fin ⟨Sg.refl st, _, _, _, _, rfl, ⟨m0, by omega, by omega, by omega, by omega⟩, by omega⟩) ?post)
  all_goals skip
  case fin =>
    rintro c st' ⟨_, o, i, j, g, _, m, hx⟩
    have := m.i1
    omega
  case post =>
    rintro ⟨c, i, j, o, g⟩ st' ⟨z, r, e, hr⟩
    cases e
    exact wpS_pure (h r st' hr z)
  case step =>
    rintro x c st' _ hx ⟨z, o, i, j, g, rfl, m, hp⟩
    dsimp only
    refine wpS_bind (wpS_mono (wpS_forRange (I := fun y c st' => Sg st st' ∧ ∃ o' i' j' ca cb, c = (none, i', j', o', ca, cb) ∧ Mie a b o' i' j' ∧ i' + j' + y ≤ i + j)
      (Q := fun c st' => Sg st st' ∧ ((∃ r, c.1 = some r ∧ Good a b r) ∨ ∃ o' i' j' ca cb, c = (none, i', j', o', ca, cb) ∧ Mie a b o' i' j' ∧ i' + j' + 1 ≤ i + j)) ?s1 ?f1 ⟨z, _, _, _, 0, 0, rfl, m, by omega⟩) ?p1)
    case f1 =>
      rintro c st' ⟨z, o', i', j', ca, cb, rfl, m, hy⟩
      exact ⟨z, .inr ⟨o', i', j', ca, cb, rfl, m, by omega⟩⟩
    case s1 =>
      rintro y c st' _ hy ⟨z, o', i', j', ca, cb, rfl, ⟨mm, mi1, mi, mj1, mj⟩, hp'⟩
      dsimp only
      have hj9 : j' - 1 < b.size := by omega
      have hi9 : i' - 1 < a.size := by omega
      refine wpS_bind (elem_ok hj9 ?_)
      refine wpS_bind (elem_ok hi9 ?_)
      refine wpS_bind (lt_ok (kd z) (ib.get hj9) (ia.get hi9) ?_)
      dsimp only
      rw [← K_get hj9, ← K_get hi9]
      by_cases hlt : K b (j' - 1) < K a (i' - 1)
      · rw [if_pos (by simpa using hlt)]
        refine wpS_bind (elem_ok hi9 ?_)
        have m2 := Mt.pushA (i := i' - 1) ha hb (by rw [show i' - 1 + 1 = i' by omega]; exact mm) hi9 fun t h1 h2 => Int.le_trans (hb t (j' - 1) (Nat.zero_le _) (by omega) hj9) (Int.le_of_lt hlt)
        by_cases e1 : i' - 1 = 0
        · rw [if_pos (by simpa using e1)]
          exact wpS_pure ⟨z, .inl ⟨_, rfl, m2.dn ha hb (.inl e1)⟩⟩
        · rw [if_neg (by simpa using e1)]
          split
          · exact wpS_pure ⟨z, .inr ⟨_, _, _, _, _, rfl, ⟨m2, by omega, by omega, by omega, by omega⟩, by omega⟩⟩
          · exact wpS_pure ⟨z, _, _, _, _, _, rfl, ⟨m2, by omega, by omega, by omega, by omega⟩, by omega⟩
      · rw [if_neg (by simpa using hlt)]
        refine wpS_bind (elem_ok hj9 ?_)
        have m2 := Mt.pushB (j := j' - 1) ha hb (by rw [show j' - 1 + 1 = j' by omega]; exact mm) hj9 fun t h1 h2 => Int.le_trans (ha t (i' - 1) (Nat.zero_le _) (by omega) hi9) (Int.not_lt.mp hlt)
        by_cases e1 : j' - 1 = 1
        · rw [if_pos (by simpa using e1)]
          exact wpS_pure ⟨z, .inl ⟨_, rfl, m2.fb ha hb e1 hl⟩⟩
        · rw [if_neg (by simpa using e1)]
          split
          · exact wpS_pure ⟨z, .inr ⟨_, _, _, _, _, rfl, ⟨m2, by omega, by omega, by omega, by omega⟩, by omega⟩⟩
          · exact wpS_pure ⟨z, _, _, _, _, _, rfl, ⟨m2, by omega, by omega, by omega, by omega⟩, by omega⟩
    case p1 =>
      rintro c st' ⟨z, ⟨r, e, hr⟩ | ⟨o', i', j', ca, cb, rfl, m, hp'⟩⟩
      · obtain ⟨c, o', i', j', ca, cb⟩ := c
        cases e
        exact wpS_pure ⟨z, r, rfl, hr⟩
      dsimp only
      refine wpS_bind (wpS_lift (wpAny_rule ⟨rfl, ?_⟩))
      refine wpS_bind (wpS_mono (wpS_forRange (I := fun y c st' => Sg st st' ∧ ∃ o2 i2 j2 g ca cb, c = (none, i2, j2, o2, g, ca, cb) ∧ Mie a b o2 i2 j2 ∧ i2 + j2 + 1 ≤ i + j)
        (Q := fun c st' => Sg st st' ∧ ((∃ r, c.1 = some r ∧ Good a b r) ∨ ∃ o2 i2 j2 g ca cb, c = (none, i2, j2, o2, g, ca, cb) ∧ Mie a b o2 i2 j2 ∧ i2 + j2 + 1 ≤ i + j)) ?s2 ?f2 ⟨z, _, _, _, _, _, _, rfl, m, hp'⟩) ?p2)
      case f2 =>
        rintro c st' ⟨z, o2, i2, j2, g2, ca, cb, rfl, m, hy⟩
        exact ⟨z, .inr ⟨o2, i2, j2, g2, ca, cb, rfl, m, hy⟩⟩
      case p2 =>
        rintro c st' ⟨z, ⟨r, e, hr⟩ | ⟨o2, i2, j2, g2, ca, cb, rfl, m, hp'⟩⟩
        · obtain ⟨c, o2, i2, j2, g2, ca, cb⟩ := c
          cases e
          exact wpS_pure ⟨z, r, rfl, hr⟩
        dsimp only
        exact wpS_bind (sMG_ok z fun st' z => wpS_pure ⟨z, _, _, _, _, rfl, m, by omega⟩)
      case s2 =>
        rintro y c st' _ hy ⟨z, o2, i2, j2, g2, ca, cb, rfl, ⟨hm, mi1, mi, mj1, mj⟩, hp'⟩
        dsimp only
        have hj9 : j2 - 1 < b.size := by omega
        by_cases hg : g2 > 1
        all_goals (first | rw [if_pos hg] | rw [if_neg hg])
        all_goals
          refine wpS_bind (sMG_ok z fun st' z => ?_)
          refine wpS_bind (elem_ok hj9 ?_)
          refine wpS_bind (gal_ok (kd z) ia (ib.get hj9) (by omega) (by omega) (fun p q _ hpq hq => ha p q (Nat.zero_le _) hpq (by omega)) fun k k1 k2 k3 => ?_)
          dsimp only
          have q2 : ∀ t, t < k → t < a.size → K a t ≤ K b (j2 - 1) := fun t ht _ => by
            have := k2 t ht
            rw [K_get hj9]
            simpa [bef] using this
          have q3 : ∀ t, k ≤ t → t < i2 → K b (j2 - 1) ≤ K a t := fun t h1 h2 => by
            have := k3 t h1 h2
            rw [K_get hj9]
            exact Int.le_of_lt (by simpa [bef] using this)
          by_cases hk0 : i2 - k > 0
          · rw [if_pos hk0]
            have hm3 := hm.bulkA (z := k) ha hb mj (by omega) k1 mi q3
            split
            · rename_i e3
              exact wpS_pure ⟨z, .inl ⟨_, rfl, hm3.dn ha hb (.inl (by simpa using e3))⟩⟩
            · rename_i e3
              simp at e3
              obtain ⟨i3, hi3⟩ : ∃ i3, i3 = k := ⟨k, rfl⟩
              subst hi3
              have hq3 := q2
              refine wpS_bind (elem_ok (by omega) ?_)
              have m4 := Mt.pushB (j := j2 - 1) ha hb (by rw [show j2 - 1 + 1 = j2 by omega]; exact hm3) (by omega) hq3
              split
              · rename_i e4
                exact wpS_pure ⟨z, .inl ⟨_, rfl, m4.fb ha hb (by simpa using e4) hl⟩⟩
              rename_i e4
              simp at e4
              have hi4 : i3 - 1 < a.size := by omega
              refine wpS_bind (elem_ok hi4 ?_)
              refine wpS_bind (gal_ok (kd z) ib (ia.get hi4) (by omega) (by omega) (fun p q _ hpq hq => hb p q (Nat.zero_le _) hpq (by omega)) fun u u1 u2 u3 => ?_)
              dsimp only
              have v2 : ∀ t, t < u → K b t ≤ K a (i3 - 1) := fun t ht => by
                have := u2 t ht
                rw [K_get hi4]
                exact Int.le_of_lt (by simpa [bef] using this)
              have v3 : ∀ t, u ≤ t → t < j2 - 1 → K a (i3 - 1) ≤ K b t := fun t h1 h2 => by
                have := u3 t h1 h2
                rw [K_get hi4]
                simpa [bef] using this
              by_cases hu : j2 - 1 - u > 0
              · rw [if_pos hu]
                have hm6 := m4.bulkB (z := u) ha hb (by omega) (by omega) (by omega) (by omega) v3
                split
                · rename_i e5
                  exact wpS_pure ⟨z, .inl ⟨_, rfl, hm6.fb ha hb (by simpa using e5) hl⟩⟩
                · rename_i e5
                  split
                  · rename_i e7
                    exact wpS_pure ⟨z, .inl ⟨_, rfl, hm6.dn ha hb (.inr (by simpa using e7))⟩⟩
                  · rename_i e7
                    simp at e5 e7
                    have hq6 : ∀ t, t < u → t < b.size → K b t ≤ K a (i3 - 1) := fun t h1 _ => v2 t h1
                    refine wpS_bind (elem_ok (by omega) ?_)
                    have m6 := Mt.pushA (i := i3 - 1) ha hb (by rw [show i3 - 1 + 1 = i3 by omega]; exact hm6) (by omega) hq6
                    split
                    · rename_i e6
                      exact wpS_pure ⟨z, .inl ⟨_, rfl, m6.dn ha hb (.inl (by simpa using e6))⟩⟩
                    · rename_i e6
                      simp at e6
                      split
                      · exact wpS_pure ⟨z, .inr ⟨_, _, _, _, _, _, rfl, ⟨m6, by omega, by omega, by omega, by omega⟩, by omega⟩⟩
                      · exact wpS_pure ⟨z, _, _, _, _, _, _, rfl, ⟨m6, by omega, by omega, by omega, by omega⟩, by omega⟩
              · rw [if_neg hu]
                have hu0 : u = j2 - 1 := by omega
                have hm6 := m4
                have hq6 : ∀ t, t < j2 - 1 → t < b.size → K b t ≤ K a (i3 - 1) := fun t h1 _ => v2 t (by omega)
                refine wpS_bind (elem_ok (by omega) ?_)
                have m6 := Mt.pushA (i := i3 - 1) ha hb (by rw [show i3 - 1 + 1 = i3 by omega]; exact hm6) (by omega) hq6
                split
                · rename_i e6
                  exact wpS_pure ⟨z, .inl ⟨_, rfl, m6.dn ha hb (.inl (by simpa using e6))⟩⟩
                · rename_i e6
                  simp at e6
                  split
                  · exact wpS_pure ⟨z, .inr ⟨_, _, _, _, _, _, rfl, ⟨m6, by omega, by omega, by omega, by omega⟩, by omega⟩⟩
                  · exact wpS_pure ⟨z, _, _, _, _, _, _, rfl, ⟨m6, by omega, by omega, by omega, by omega⟩, by omega⟩
          · rw [if_neg hk0]
            have hk1 : k = i2 := by omega
            subst hk1
            have hm3 := hm
            obtain ⟨i3, hi3⟩ : ∃ i3, i3 = k := ⟨k, rfl⟩
            subst hi3
            have hq3 := q2
            refine wpS_bind (elem_ok (by omega) ?_)
            have m4 := Mt.pushB (j := j2 - 1) ha hb (by rw [show j2 - 1 + 1 = j2 by omega]; exact hm3) (by omega) hq3
            split
            · rename_i e4
              exact wpS_pure ⟨z, .inl ⟨_, rfl, m4.fb ha hb (by simpa using e4) hl⟩⟩
            rename_i e4
            simp at e4
            have hi4 : i3 - 1 < a.size := by omega
            refine wpS_bind (elem_ok hi4 ?_)
            refine wpS_bind (gal_ok (kd z) ib (ia.get hi4) (by omega) (by omega) (fun p q _ hpq hq => hb p q (Nat.zero_le _) hpq (by omega)) fun u u1 u2 u3 => ?_)
            dsimp only
            have v2 : ∀ t, t < u → K b t ≤ K a (i3 - 1) := fun t ht => by
              have := u2 t ht
              rw [K_get hi4]
              exact Int.le_of_lt (by simpa [bef] using this)
            have v3 : ∀ t, u ≤ t → t < j2 - 1 → K a (i3 - 1) ≤ K b t := fun t h1 h2 => by
              have := u3 t h1 h2
              rw [K_get hi4]
              simpa [bef] using this
            by_cases hu : j2 - 1 - u > 0
            · rw [if_pos hu]
              have hm6 := m4.bulkB (z := u) ha hb (by omega) (by omega) (by omega) (by omega) v3
              split
              · rename_i e5
                exact wpS_pure ⟨z, .inl ⟨_, rfl, hm6.fb ha hb (by simpa using e5) hl⟩⟩
              · rename_i e5
                split
                · rename_i e7
                  exact wpS_pure ⟨z, .inl ⟨_, rfl, hm6.dn ha hb (.inr (by simpa using e7))⟩⟩
                · rename_i e7
                  simp at e5 e7
                  have hq6 : ∀ t, t < u → t < b.size → K b t ≤ K a (i3 - 1) := fun t h1 _ => v2 t h1
                  refine wpS_bind (elem_ok (by omega) ?_)
                  have m6 := Mt.pushA (i := i3 - 1) ha hb (by rw [show i3 - 1 + 1 = i3 by omega]; exact hm6) (by omega) hq6
                  split
                  · rename_i e6
                    exact wpS_pure ⟨z, .inl ⟨_, rfl, m6.dn ha hb (.inl (by simpa using e6))⟩⟩
                  · rename_i e6
                    simp at e6
                    split
                    · exact wpS_pure ⟨z, .inr ⟨_, _, _, _, _, _, rfl, ⟨m6, by omega, by omega, by omega, by omega⟩, by omega⟩⟩
                    · exact wpS_pure ⟨z, _, _, _, _, _, _, rfl, ⟨m6, by omega, by omega, by omega, by omega⟩, by omega⟩
            · rw [if_neg hu]
              have hu0 : u = j2 - 1 := by omega
              have hm6 := m4
              have hq6 : ∀ t, t < j2 - 1 → t < b.size → K b t ≤ K a (i3 - 1) := fun t h1 _ => v2 t (by omega)
              refine wpS_bind (elem_ok (by omega) ?_)
              have m6 := Mt.pushA (i := i3 - 1) ha hb (by rw [show i3 - 1 + 1 = i3 by omega]; exact hm6) (by omega) hq6
              split
              · rename_i e6
                exact wpS_pure ⟨z, .inl ⟨_, rfl, m6.dn ha hb (.inl (by simpa using e6))⟩⟩
              · rename_i e6
                simp at e6
                split
                · exact wpS_pure ⟨z, .inr ⟨_, _, _, _, _, _, rfl, ⟨m6, by omega, by omega, by omega, by omega⟩, by omega⟩⟩
                · exact wpS_pure ⟨z, _, _, _, _, _, _, rfl, ⟨m6, by omega, by omega, by omega, by omega⟩, by omega⟩
end
end SR
namespace SR
open PySem PyProof.Rows
structure SB (a0 A0 : Array Keyed) (P : Array (Nat × Nat × Nat)) (lo : Nat) (st : SortSt) : Prop where
  perm : (arrOf st).Perm a0
  kind : kindOf st = oneType'
  failed : failedOf st = none
  pend : pendingOf st = P
  low : ∀ t, t < lo → K (arrOf st) t = K A0 t
theorem SB.size {a0 A0 : Array Keyed} {P : Array (Nat × Nat × Nat)} {lo : Nat} {st : SortSt} (h : SB a0 A0 P lo st) : (arrOf st).size = a0.size := h.perm.size_eq
theorem ik_perm {a b : Array Keyed} (h : IK b) (p : a.Perm b) : IK a := fun x hx => h x ((Array.perm_iff_toList_perm.mp p).mem_iff.mp hx)
theorem SB.arr {a0 A0 : Array Keyed} {P : Array (Nat × Nat × Nat)} {lo : Nat} {st : SortSt} (h : SB a0 A0 P lo st) {xs : Array Keyed} (p : xs.Perm (arrOf st)) (hl : ∀ t, t < lo → K xs t = K (arrOf st) t) : SB a0 A0 P lo (setArr st xs) :=
  ⟨p.trans h.perm, h.kind, h.failed, h.pend, fun t ht => (hl t ht).trans (h.low t ht)⟩
section
variable {prog : Program} {w : World} {A : Around} {E : Value → Shared → Prop} {s : Shared} {a0 A0 : Array Keyed} {P : Array (Nat × Nat × Nat)} {lo : Nat}
theorem at_ok {st : SortSt} {i j : Nat} {Q : Option Bool → SortSt → Prop} (hB : SB a0 A0 P lo st) (h0 : IK a0) (hi : i < a0.size) (hj : j < a0.size) (h : Q (some (decide (K (arrOf st) i < K (arrOf st) j))) st) : wpS (model prog w) A E s (ltAt' i j) Q st := by
  have h1 : i < (arrOf st).size := by rw [hB.size]; exact hi
  have h2 : j < (arrOf st).size := by rw [hB.size]; exact hj
  have ik := ik_perm h0 hB.perm
  rw [ltAt'_eq]
  refine wpS_bind (wpS_get ?_)
  refine wpS_bind (elem_ok h1 (wpS_bind (elem_ok h2 (lt_ok hB.kind (ik.get h1) (ik.get h2) ?_))))
  rw [K_get h1, K_get h2] at h
  exact h
theorem rev_ok {st : SortSt} {i j : Nat} {Q : Unit → SortSt → Prop} (hB : SB a0 A0 P lo st) (hi : lo ≤ i) (hj : j ≤ a0.size) (h : SB a0 A0 P lo (setArr st (mirror (arrOf st) i j ((j - i) / 2))) → Q () (setArr st (mirror (arrOf st) i j ((j - i) / 2)))) : wpS (model prog w) A E s (reverseSlice' i j) Q st := by
  rw [reverseSlice'_eq]
  refine wpS_modify (h (hB.arr (mirror_perm _ _ _ _) fun t ht => ?_))
  rw [K_mirror (by rw [hB.size]; exact hj), if_neg (by omega)]
theorem bins_ok {st : SortSt} {n ok : Nat} {Q : Bool → SortSt → Prop} (h0 : IK a0) (hn : lo + n ≤ a0.size) (hB : SB a0 A0 P lo st) (hs : Up (arrOf st) lo (lo + ok)) (hok : ok ≤ n)
    (h : ∀ st', SB a0 A0 P lo st' → Up (arrOf st') lo (lo + n) → Q true st') : wpS (model prog w) A E s (binarySort' lo n ok) Q st := by
  rw [binarySort'_eq]
  refine wpS_bind (wpS_mono (wpS_forRange (I := fun k c st' => c = (none, ()) ∧ SB a0 A0 P lo st' ∧ Up (arrOf st') lo (lo + min k n))
    (Q := fun c st' => c = (none, ()) ∧ SB a0 A0 P lo st' ∧ Up (arrOf st') lo (lo + n)) ?ste ?fi ⟨rfl, hB, ?ini⟩) ?po)
  case ini =>
    intro i j h1 h2 h3
    by_cases z : ok = 0
    · have : i = j := by omega
      subst this; exact Int.le_refl _
    · exact hs i j h1 h2 (by omega)
  case po =>
    rintro c st' ⟨rfl, b1, b2⟩
    exact wpS_pure (h st' b1 b2)
  case fi =>
    rintro c st' ⟨hc, b1, b2⟩
    rw [show min (max (max ok 1) n) n = n by omega] at b2
    exact ⟨hc, b1, b2⟩
  case ste =>
    rintro k c st' hak hkn ⟨rfl, b1, b2⟩
    rw [show min k n = k by omega] at b2
    refine wpS_bind (wpS_mono (wpS_forRange (I := fun x c st2 => st2 = st' ∧ ∃ l r, c = (none, l, r) ∧ l ≤ r ∧ r ≤ k ∧ r - l ≤ k - x ∧ (∀ i, lo ≤ i → i < lo + l → K (arrOf st') i ≤ K (arrOf st') (lo + k)) ∧ (∀ i, lo + r ≤ i → i < lo + k → K (arrOf st') (lo + k) < K (arrOf st') i))
      (Q := fun c st2 => st2 = st' ∧ ∃ l r, c = (none, l, r) ∧ l ≤ k ∧ (∀ i, lo ≤ i → i < lo + l → K (arrOf st') i ≤ K (arrOf st') (lo + k)) ∧ (∀ i, lo + l ≤ i → i < lo + k → K (arrOf st') (lo + k) < K (arrOf st') i)) ?a ?b ⟨rfl, 0, k, rfl, by omega, by omega, by omega, fun i _ hi => by omega, fun i _ _ => by omega⟩) ?c)
    case b =>
      rintro c st2 ⟨rfl, l, r, rfl, c1, c2, c3, c4, c5⟩
      have : l = r := by omega
      subst this
      exact ⟨rfl, l, l, rfl, c2, c4, c5⟩
    case a =>
      rintro x c st2 _ hx ⟨rfl, l, r, rfl, c1, c2, c3, c4, c5⟩
      dsimp only
      by_cases g : l ≥ r
      · rw [if_pos g]
        have : l = r := by omega
        subst this
        exact wpS_pure ⟨rfl, l, l, rfl, c2, c4, c5⟩
      · rw [if_neg g]
        refine wpS_bind (at_ok b1 h0 (by omega) (by omega) ?_)
        by_cases hl : K (arrOf st2) (lo + k) < K (arrOf st2) (lo + (l + r) / 2)
        · simp only [hl, decide_true, if_true]
          exact wpS_pure ⟨rfl, l, (l + r) / 2, rfl, by omega, by omega, by omega, c4, fun i h1 h2 => Int.lt_of_lt_of_le hl (b2 _ _ (by omega) h1 h2)⟩
        · simp only [hl, decide_false, Bool.false_eq_true, if_false]
          exact wpS_pure ⟨rfl, (l + r) / 2 + 1, r, rfl, by omega, by omega, by omega, fun i h1 h2 => Int.le_trans (b2 i (lo + (l + r) / 2) h1 (by omega) (by omega)) (Int.not_lt.mp hl), c5⟩
    case c =>
      rintro c st2 ⟨rfl, l, r, rfl, c2, c4, c5⟩
      show wpS _ _ _ _ (do moveDown' (lo + k) (lo + l); pure (ForInStep.yield (none, ()))) _ _
      rw [moveDown'_eq]
      have hks : lo + k < (arrOf st2).size := by rw [b1.size]; omega
      have kb := fun t => K_bubble (xs := arrOf st2) (src := lo + k) (d := lo + k - (lo + l)) hks (by omega) t
      rw [show lo + k - (lo + k - (lo + l)) = lo + l by omega] at kb
      refine wpS_bind (wpS_modify (wpS_pure ⟨rfl, b1.arr (bubble_perm _ _ _) fun t ht => ?_, fun i j h1 h2 h3 => ?_⟩))
      · rw [kb, if_neg (by omega), if_neg (by omega)]
      · rw [show min (k + 1) n = k + 1 by omega] at h3
        show K (bubble _ _ _) i ≤ K (bubble _ _ _) j
        rw [kb, kb]
        repeat' split
        all_goals first
          | (exfalso; omega)
          | exact Int.le_refl _
          | exact c4 _ (by omega) (by omega)
          | exact Int.le_of_lt (c5 _ (by omega) (by omega))
          | exact b2 _ _ (by omega) (by omega) (by omega)
end
end SR
namespace SR
open PySem PyProof.Rows
theorem mir {xs : Array Keyed} {i j : Nat} (hj : j ≤ xs.size) (h : ∀ k, i ≤ k → k < j → K xs k = K xs (j - 1)) (k : Nat) : K (mirror xs i j ((j - i) / 2)) k = K xs k := by
  rw [K_mirror hj]
  split
  · rw [h _ (by omega) (by omega), h k (by omega) (by omega)]
  · rfl
section
variable {prog : Program} {w : World} {A : Around} {E : Value → Shared → Prop} {s : Shared} {a0 A0 : Array Keyed} {P : Array (Nat × Nat × Nat)} {lo : Nat}
abbrev AS := Option (Option Nat) × Nat
theorem asc_ok {st : SortSt} {a nrem : Nat} {f : Nat → AS → SM (ForInStep AS)} {Q : AS → SortSt → Prop} (h0 : IK a0) (hn : lo + nrem ≤ a0.size) (ha : 1 ≤ a) (han : a ≤ nrem) (hB : SB a0 A0 P lo st) (hs : Up (arrOf st) lo (lo + a))
    (hf : ∀ x n (R : ForInStep AS → SortSt → Prop), wpS (model prog w) A E s (ltAt' (lo + n) (lo + n - 1)) (fun r st' => ∃ b, r = some b ∧ R (if b = true then .done (none, n) else .yield (none, n + 1)) st') st → wpS (model prog w) A E s (f x (none, n)) R st)
    (h : ∀ n, a ≤ n → n ≤ nrem → Up (arrOf st) lo (lo + n) → (n = nrem ∨ K (arrOf st) (lo + n) < K (arrOf st) (lo + n - 1)) → Q (none, n) st) : wpS (model prog w) A E s (forIn [a:nrem] ((none, a) : AS) f) Q st := by
  refine wpS_forRange (I := fun x c st' => st' = st ∧ c = (none, x) ∧ Up (arrOf st) lo (lo + x)) ?a ?b ⟨rfl, rfl, hs⟩
  case b =>
    rintro c st' ⟨rfl, rfl, b1⟩
    rw [show max a nrem = nrem by omega] at b1 ⊢
    exact h nrem han (Nat.le_refl _) b1 (.inl rfl)
  case a =>
    rintro x c st' h1 h2 ⟨rfl, rfl, b1⟩
    refine hf _ _ _ (at_ok hB h0 (by omega) (by omega) ⟨_, rfl, ?_⟩)
    by_cases hl : K (arrOf st') (lo + x) < K (arrOf st') (lo + x - 1)
    · simp only [hl, decide_true, if_true]
      exact h x h1 (by omega) b1 (.inr hl)
    · simp only [hl, decide_false, Bool.false_eq_true, if_false]
      refine ⟨trivial, trivial, fun i j i1 i2 i3 => ?_⟩
      by_cases hj : j < lo + x
      · exact b1 i j i1 i2 hj
      · have hj' : j = lo + x := by omega
        subst hj'
        by_cases e : i = lo + x
        · subst e; exact Int.le_refl _
        · exact Int.le_trans (b1 i (lo + x - 1) i1 (by omega) (by omega)) (Int.not_lt.mp hl)
set_option maxHeartbeats 2000000 in
theorem run_ok {st : SortSt} {nrem : Nat} {Q : Option Nat → SortSt → Prop} (h0 : IK a0) (hn : lo + nrem ≤ a0.size) (h1 : 1 ≤ nrem) (hB : SB a0 A0 P lo st)
    (h : ∀ m st', SB a0 A0 P lo st' → 1 ≤ m → m ≤ nrem → Up (arrOf st') lo (lo + m) → Q (some m) st') : wpS (model prog w) A E s (countRun' lo nrem) Q st := by
  rw [countRun'_eq]
  dsimp only
  refine wpS_bind (asc_ok h0 hn (Nat.le_refl 1) h1 hB (fun i j i1 i2 i3 => by rw [show i = j by omega]; exact Int.le_refl _) ?hf fun n n1 n2 u ho => ?_)
  case hf =>
    intro x n R hR
    dsimp only
    refine wpS_bind (wpS_mono hR ?_)
    rintro r st' ⟨b, rfl, hb⟩
    cases b
    · exact wpS_pure hb
    · exact wpS_pure hb
  dsimp only
  by_cases e : n = nrem
  · rw [if_pos (by simpa using e)]
    exact wpS_pure (h n st hB n1 n2 u)
  rw [if_neg (by simpa using e)]
  have hlt : K (arrOf st) (lo + n) < K (arrOf st) (lo + n - 1) := ho.resolve_left e
  by_cases g : n > 1
  · rw [if_pos g]
    refine wpS_bind (at_ok hB h0 (by omega) (by omega) ?_)
    by_cases hr : K (arrOf st) lo < K (arrOf st) (lo + n - 1)
    · simp only [hr, decide_true, if_true]
      exact wpS_pure (h n st hB n1 n2 u)
    · simp only [hr, decide_false, Bool.false_eq_true, if_false]
      have hsz : lo + n ≤ (arrOf st).size := by rw [hB.size]; omega
      have all : ∀ k, lo ≤ k → k < lo + n → K (arrOf st) k = K (arrOf st) (lo + n - 1) := fun k k1 k2 => by
        have a1 := u lo k (Nat.le_refl _) k1 k2
        have a2 := u k (lo + n - 1) k1 (by omega) (by omega)
        omega
      refine wpS_bind (rev_ok hB (Nat.le_refl _) (by omega) fun hB1 => ?_)
      have hD1 : Dn (mirror (arrOf st) lo (lo + n) ((lo + n - lo) / 2)) lo (lo + (n + 1)) := fun i j i1 i2 i3 => by
        rw [mir hsz all, mir hsz all]
        by_cases hj : j < lo + n
        · rw [all i i1 (by omega), all j (by omega) hj]; exact Int.le_refl _
        · have hj' : j = lo + n := by omega
          subst hj'
          by_cases e : i = lo + n
          · subst e; exact Int.le_refl _
          · rw [all i i1 (by omega)]; exact Int.le_of_lt hlt
      refine wpS_bind (wpS_lift (wpAny_rule ⟨rfl, ?_⟩))
      refine wpS_bind (wpS_mono (wpS_forRange (I := fun x c st' => ∃ neq, c = (none, x, neq) ∧ SB a0 A0 P lo st' ∧ Dn (arrOf st') lo (lo + x) ∧ neq + 1 ≤ x ∧ (∀ i, lo + x - (neq + 1) ≤ i → i < lo + x → K (arrOf st') i = K (arrOf st') (lo + x - 1)))
        (Q := fun c st' => ∃ m neq, c = (none, m, neq) ∧ n + 1 ≤ m ∧ m ≤ nrem ∧ SB a0 A0 P lo st' ∧ Dn (arrOf st') lo (lo + m) ∧ neq + 1 ≤ m ∧ (∀ i, lo + m - (neq + 1) ≤ i → i < lo + m → K (arrOf st') i = K (arrOf st') (lo + m - 1))) ?a ?b ⟨0, rfl, hB1, hD1, by omega, fun i i1 i2 => by congr 1; omega⟩) ?c)
      case b =>
        rintro c st' ⟨neq, rfl, b1, b2, b3, b4⟩
        rw [show max (n + 1) nrem = nrem by omega] at b2 b3 b4 ⊢
        exact ⟨nrem, neq, rfl, by omega, Nat.le_refl _, b1, b2, b3, b4⟩
      case a =>
        rintro x c st' x1 x2 ⟨neq, rfl, b1, b2, b3, b4⟩
        dsimp only
        have hsz : lo + x ≤ (arrOf st').size := by rw [b1.size]; omega
        refine wpS_bind (at_ok b1 h0 (by omega) (by omega) ?_)
        have more : ∀ xs : Array Keyed, (∀ k, K xs k = K (arrOf st') k) → K (arrOf st') (lo + x) ≤ K (arrOf st') (lo + x - 1) → Dn xs lo (lo + (x + 1)) := by
          intro xs hk hle i j i1 i2 i3
          rw [hk, hk]
          by_cases hj : j < lo + x
          · exact b2 i j i1 i2 hj
          · have hj' : j = lo + x := by omega
            subst hj'
            by_cases e : i = lo + x
            · subst e; exact Int.le_refl _
            · exact Int.le_trans hle (b2 i (lo + x - 1) i1 (by omega) (by omega))
        by_cases hl : K (arrOf st') (lo + x) < K (arrOf st') (lo + x - 1)
        · simp only [hl, decide_true, if_true]
          by_cases hq : neq > 0
          · rw [if_pos hq]
            refine wpS_bind (rev_ok b1 (by omega) (by omega) fun b9 => wpS_pure ⟨0, rfl, b9, more _ (mir hsz b4) (Int.le_of_lt hl), by omega, fun i i1 i2 => by congr 1; omega⟩)
          · rw [if_neg hq]
            exact wpS_pure ⟨0, rfl, b1, more _ (fun _ => rfl) (Int.le_of_lt hl), by omega, fun i i1 i2 => by congr 1; omega⟩
        · simp only [hl, decide_false, Bool.false_eq_true, if_false]
          refine wpS_bind (at_ok b1 h0 (by omega) (by omega) ?_)
          by_cases hg : K (arrOf st') (lo + x - 1) < K (arrOf st') (lo + x)
          · simp only [hg, decide_true, if_true]
            exact wpS_pure ⟨x, neq, rfl, x1, by omega, b1, b2, b3, b4⟩
          · simp only [hg, decide_false, Bool.false_eq_true, if_false]
            have he : K (arrOf st') (lo + x) = K (arrOf st') (lo + x - 1) := by omega
            refine wpS_pure ⟨neq + 1, rfl, b1, more _ (fun _ => rfl) (by omega), by omega, fun i i1 i2 => ?_⟩
            rw [show lo + (x + 1) - 1 = lo + x by omega]
            by_cases e : i = lo + x
            · subst e; rfl
            · rw [he]; exact b4 i (by omega) (by omega)
      case c =>
        rintro c st' ⟨m, neq, rfl, m1, m2, b1, b2, b3, b4⟩
        dsimp only
        have hsz : lo + m ≤ (arrOf st').size := by rw [b1.size]; omega
        have last : ∀ st2, SB a0 A0 P lo st2 → Dn (arrOf st2) lo (lo + m) → Up (mirror (arrOf st2) lo (lo + m) ((lo + m - lo) / 2)) lo (lo + m) := fun st2 c1 c2 i j i1 i2 i3 => by
          rw [K_mirror (by rw [c1.size]; omega), K_mirror (by rw [c1.size]; omega), if_pos (by omega), if_pos (by omega)]
          exact c2 _ _ (by omega) (by omega) (by omega)
        by_cases hq : neq > 0
        · rw [if_pos hq]
          refine wpS_bind (rev_ok b1 (by omega) (by omega) fun b9 => ?_)
          have d9 : Dn (mirror (arrOf st') (lo + m - (neq + 1)) (lo + m) ((lo + m - (lo + m - (neq + 1))) / 2)) lo (lo + m) := fun i j i1 i2 i3 => by
            rw [mir hsz b4, mir hsz b4]; exact b2 i j i1 i2 i3
          refine wpS_bind (rev_ok b9 (Nat.le_refl _) (by omega) fun b8 => ?_)
          refine wpS_bind (asc_ok h0 hn (by omega) m2 b8 (last _ b9 d9) ?_ fun n2 n1 n3 u _ => wpS_pure (h n2 _ b8 (by omega) n3 u))
          intro x n R hR
          dsimp only
          refine wpS_bind (wpS_mono hR ?_)
          rintro r st' ⟨b, rfl, hb⟩
          cases b
          · exact wpS_pure hb
          · exact wpS_pure hb
        · rw [if_neg hq]
          refine wpS_bind (rev_ok b1 (Nat.le_refl _) (by omega) fun b8 => ?_)
          refine wpS_bind (asc_ok h0 hn (by omega) m2 b8 (last _ b1 b2) ?_ fun n2 n1 n3 u _ => wpS_pure (h n2 _ b8 (by omega) n3 u))
          intro x n R hR
          dsimp only
          refine wpS_bind (wpS_mono hR ?_)
          rintro r st' ⟨b, rfl, hb⟩
          cases b
          · exact wpS_pure hb
          · exact wpS_pure hb
  · rw [if_neg g]
    have hn1 : n = 1 := by omega
    have hB1 := hB
    have hD1 : Dn (arrOf st) lo (lo + (n + 1)) := fun i j i1 i2 i3 => by
      by_cases e : i = j
      · subst e; exact Int.le_refl _
      · have e1 : i = lo + n - 1 := by omega
        have e2 : j = lo + n := by omega
        rw [e1, e2]
        exact Int.le_of_lt hlt
    refine wpS_bind (wpS_lift (wpAny_rule ⟨rfl, ?_⟩))
    refine wpS_bind (wpS_mono (wpS_forRange (I := fun x c st' => ∃ neq, c = (none, x, neq) ∧ SB a0 A0 P lo st' ∧ Dn (arrOf st') lo (lo + x) ∧ neq + 1 ≤ x ∧ (∀ i, lo + x - (neq + 1) ≤ i → i < lo + x → K (arrOf st') i = K (arrOf st') (lo + x - 1)))
      (Q := fun c st' => ∃ m neq, c = (none, m, neq) ∧ n + 1 ≤ m ∧ m ≤ nrem ∧ SB a0 A0 P lo st' ∧ Dn (arrOf st') lo (lo + m) ∧ neq + 1 ≤ m ∧ (∀ i, lo + m - (neq + 1) ≤ i → i < lo + m → K (arrOf st') i = K (arrOf st') (lo + m - 1))) ?a ?b ⟨0, rfl, hB1, hD1, by omega, fun i i1 i2 => by congr 1; omega⟩) ?c)
    case b =>
      rintro c st' ⟨neq, rfl, b1, b2, b3, b4⟩
      rw [show max (n + 1) nrem = nrem by omega] at b2 b3 b4 ⊢
      exact ⟨nrem, neq, rfl, by omega, Nat.le_refl _, b1, b2, b3, b4⟩
    case a =>
      rintro x c st' x1 x2 ⟨neq, rfl, b1, b2, b3, b4⟩
      dsimp only
      have hsz : lo + x ≤ (arrOf st').size := by rw [b1.size]; omega
      refine wpS_bind (at_ok b1 h0 (by omega) (by omega) ?_)
      have more : ∀ xs : Array Keyed, (∀ k, K xs k = K (arrOf st') k) → K (arrOf st') (lo + x) ≤ K (arrOf st') (lo + x - 1) → Dn xs lo (lo + (x + 1)) := by
        intro xs hk hle i j i1 i2 i3
        rw [hk, hk]
        by_cases hj : j < lo + x
        · exact b2 i j i1 i2 hj
        · have hj' : j = lo + x := by omega
          subst hj'
          by_cases e : i = lo + x
          · subst e; exact Int.le_refl _
          · exact Int.le_trans hle (b2 i (lo + x - 1) i1 (by omega) (by omega))
      by_cases hl : K (arrOf st') (lo + x) < K (arrOf st') (lo + x - 1)
      · simp only [hl, decide_true, if_true]
        by_cases hq : neq > 0
        · rw [if_pos hq]
          refine wpS_bind (rev_ok b1 (by omega) (by omega) fun b9 => wpS_pure ⟨0, rfl, b9, more _ (mir hsz b4) (Int.le_of_lt hl), by omega, fun i i1 i2 => by congr 1; omega⟩)
        · rw [if_neg hq]
          exact wpS_pure ⟨0, rfl, b1, more _ (fun _ => rfl) (Int.le_of_lt hl), by omega, fun i i1 i2 => by congr 1; omega⟩
      · simp only [hl, decide_false, Bool.false_eq_true, if_false]
        refine wpS_bind (at_ok b1 h0 (by omega) (by omega) ?_)
        by_cases hg : K (arrOf st') (lo + x - 1) < K (arrOf st') (lo + x)
        · simp only [hg, decide_true, if_true]
          exact wpS_pure ⟨x, neq, rfl, x1, by omega, b1, b2, b3, b4⟩
        · simp only [hg, decide_false, Bool.false_eq_true, if_false]
          have he : K (arrOf st') (lo + x) = K (arrOf st') (lo + x - 1) := by omega
          refine wpS_pure ⟨neq + 1, rfl, b1, more _ (fun _ => rfl) (by omega), by omega, fun i i1 i2 => ?_⟩
          rw [show lo + (x + 1) - 1 = lo + x by omega]
          by_cases e : i = lo + x
          · subst e; rfl
          · rw [he]; exact b4 i (by omega) (by omega)
    case c =>
      rintro c st' ⟨m, neq, rfl, m1, m2, b1, b2, b3, b4⟩
      dsimp only
      have hsz : lo + m ≤ (arrOf st').size := by rw [b1.size]; omega
      have last : ∀ st2, SB a0 A0 P lo st2 → Dn (arrOf st2) lo (lo + m) → Up (mirror (arrOf st2) lo (lo + m) ((lo + m - lo) / 2)) lo (lo + m) := fun st2 c1 c2 i j i1 i2 i3 => by
        rw [K_mirror (by rw [c1.size]; omega), K_mirror (by rw [c1.size]; omega), if_pos (by omega), if_pos (by omega)]
        exact c2 _ _ (by omega) (by omega) (by omega)
      by_cases hq : neq > 0
      · rw [if_pos hq]
        refine wpS_bind (rev_ok b1 (by omega) (by omega) fun b9 => ?_)
        have d9 : Dn (mirror (arrOf st') (lo + m - (neq + 1)) (lo + m) ((lo + m - (lo + m - (neq + 1))) / 2)) lo (lo + m) := fun i j i1 i2 i3 => by
          rw [mir hsz b4, mir hsz b4]; exact b2 i j i1 i2 i3
        refine wpS_bind (rev_ok b9 (Nat.le_refl _) (by omega) fun b8 => ?_)
        refine wpS_bind (asc_ok h0 hn (by omega) m2 b8 (last _ b9 d9) ?_ fun n2 n1 n3 u _ => wpS_pure (h n2 _ b8 (by omega) n3 u))
        intro x n R hR
        dsimp only
        refine wpS_bind (wpS_mono hR ?_)
        rintro r st' ⟨b, rfl, hb⟩
        cases b
        · exact wpS_pure hb
        · exact wpS_pure hb
      · rw [if_neg hq]
        refine wpS_bind (rev_ok b1 (Nat.le_refl _) (by omega) fun b8 => ?_)
        refine wpS_bind (asc_ok h0 hn (by omega) m2 b8 (last _ b1 b2) ?_ fun n2 n1 n3 u _ => wpS_pure (h n2 _ b8 (by omega) n3 u))
        intro x n R hR
        dsimp only
        refine wpS_bind (wpS_mono hR ?_)
        rintro r st' ⟨b, rfl, hb⟩
        cases b
        · exact wpS_pure hb
        · exact wpS_pure hb
end
end SR
namespace SR
open PySem PyProof.Rows
def wr (xs : Array Keyed) (z : Nat) (l : List (Keyed × Nat)) : Array Keyed := l.foldl (fun a (x : Keyed × Nat) => match x with | (p, j) => a.setIfInBounds (z + j) p) xs
theorem wr_get (z : Nat) : ∀ (m : List Keyed) (k : Nat) (xs : Array Keyed), z + k + m.length ≤ xs.size → ∀ t, (wr xs z (m.zipIdx k))[t]? = if z + k ≤ t ∧ t < z + k + m.length then m[t - (z + k)]? else xs[t]?
  | [], k, xs, _, t => by
    rw [if_neg (by rw [List.length_nil]; omega)]
    rfl
  | p :: m, k, xs, h, t => by
    rw [List.length_cons] at h
    show (wr (xs.setIfInBounds (z + k) p) z (m.zipIdx (k + 1)))[t]? = _
    rw [wr_get z m (k + 1) _ (by rw [Array.size_setIfInBounds]; omega), List.length_cons, Array.getElem?_setIfInBounds]
    by_cases h1 : z + (k + 1) ≤ t ∧ t < z + (k + 1) + m.length
    · rw [if_pos h1, if_pos (by omega)]
      obtain ⟨d, hd⟩ : ∃ d, t - (z + k) = d + 1 := ⟨t - (z + k) - 1, by omega⟩
      rw [hd, List.getElem?_cons_succ]
      congr 1
      omega
    · rw [if_neg h1]
      by_cases h2 : z + k = t
      · rw [if_pos h2, if_pos (by omega), if_pos (by omega)]
        rw [show t - (z + k) = 0 by omega]
        rfl
      · rw [if_neg h2, if_neg (by omega)]
theorem wr_list {xs : Array Keyed} {z : Nat} {m : List Keyed} (h : z + m.length ≤ xs.size) : (wr xs z m.zipIdx).toList = xs.toList.take z ++ (m ++ xs.toList.drop (z + m.length)) := by
  refine List.ext_getElem? fun t => ?_
  rw [Array.getElem?_toList, wr_get z m 0 xs (by omega)]
  have hlt : (xs.toList.take z).length = z := by rw [List.length_take]; simp; omega
  by_cases h1 : t < z
  · rw [if_neg (by omega), List.getElem?_append_left (by omega), List.getElem?_take_of_lt h1, Array.getElem?_toList]
  · rw [List.getElem?_append_right (by omega), hlt]
    by_cases h2 : t < z + m.length
    · rw [if_pos (by omega), List.getElem?_append_left (by omega)]
      rfl
    · rw [if_neg (by omega), List.getElem?_append_right (by omega), List.getElem?_drop, Array.getElem?_toList]
      congr 1
      omega
def Ch (xs : Array Keyed) : Nat → List (Nat × Nat × Nat) → Nat → Prop
  | z, [], y => z = y
  | z, (s, n, _) :: r, y => s = z ∧ 1 ≤ n ∧ Up xs z (z + n) ∧ Ch xs (z + n) r y
theorem Ch.le {xs : Array Keyed} : ∀ {l : List (Nat × Nat × Nat)} {z y : Nat}, Ch xs z l y → z + l.length ≤ y
  | [], z, y, h => by unfold Ch at h; simp; omega
  | (s, n, p) :: r, z, y, h => by
    obtain ⟨_, h1, _, h2⟩ := h
    have := h2.le
    rw [List.length_cons]
    omega
theorem Ch.app {xs : Array Keyed} : ∀ {l r : List (Nat × Nat × Nat)} {z y : Nat}, Ch xs z (l ++ r) y ↔ ∃ m, Ch xs z l m ∧ Ch xs m r y
  | [], r, z, y => ⟨fun h => ⟨z, rfl, h⟩, fun ⟨m, h1, h2⟩ => by unfold Ch at h1; subst h1; exact h2⟩
  | (s, n, p) :: l, r, z, y => by
    constructor
    · rintro ⟨h1, h2, h3, h4⟩
      obtain ⟨m, h5, h6⟩ := Ch.app.mp h4
      exact ⟨m, ⟨h1, h2, h3, h5⟩, h6⟩
    · rintro ⟨m, ⟨h1, h2, h3, h5⟩, h6⟩
      exact ⟨h1, h2, h3, Ch.app.mpr ⟨m, h5, h6⟩⟩
theorem Ch.like {xs ys : Array Keyed} : ∀ {l : List (Nat × Nat × Nat)} {z y : Nat}, Ch xs z l y → (∀ t, z ≤ t → t < y → K ys t = K xs t) → Ch ys z l y
  | [], z, y, h, _ => h
  | (s, n, p) :: r, z, y, ⟨h1, h2, h3, h4⟩, hk => by
    have := h4.le
    refine ⟨h1, h2, fun i j i1 i2 i3 => ?_, h4.like fun t t1 t2 => hk t (by omega) t2⟩
    rw [hk i i1 (by omega), hk j (by omega) (by omega)]
    exact h3 i j i1 i2 i3
theorem Ch.pow {xs : Array Keyed} (f : Nat × Nat × Nat → Nat × Nat × Nat) (hf : ∀ s n p, ∃ q, f (s, n, p) = (s, n, q)) : ∀ {l : List (Nat × Nat × Nat)} {z y : Nat} (k : Nat), Ch xs z l y → Ch xs z (l.modify k f) y
  | [], z, y, k, h => by simpa using h
  | (s, n, p) :: r, z, y, 0, ⟨h1, h2, h3, h4⟩ => by
    obtain ⟨q, e⟩ := hf s n p
    rw [List.modify_zero_cons, e]
    exact ⟨h1, h2, h3, h4⟩
  | (s, n, p) :: r, z, y, k + 1, ⟨h1, h2, h3, h4⟩ => by
    rw [List.modify_succ_cons]
    exact ⟨h1, h2, h3, Ch.pow f hf k h4⟩
structure Bs (a0 : Array Keyed) (st : SortSt) : Prop where
  perm : (arrOf st).Perm a0
  kind : kindOf st = oneType'
  failed : failedOf st = none
theorem mergeAt_eq (i : Nat) : mergeAt' i = (do
  let s ← get
  let (some (sa, na, pw), some (sb, nb, _)) := ((pendingOf s)[i]?, (pendingOf s)[i + 1]?) | unsupported "internal:list.sort.pending"
  set (setPending s (((pendingOf s).setIfInBounds i (sa, na + nb, pw)).eraseIdxIfInBounds (i + 1)))
  let some k ← gal false (← elem' (arrOf s) sb) (arrOf s) sa na 0 | return false
  let (sa, na) := (sa + k, na - k)
  if na == 0 then return true
  let some nb ← gal true (← elem' (arrOf s) (sa + na - 1)) (arrOf s) sb nb (nb - 1) | return false
  if nb == 0 then return true
  let x := (arrOf s).extract sa sb
  let y := (arrOf s).extract sb (sb + nb)
  let m ← if na ≤ nb then mLo x y else mHi x y
  modify fun s => setArr s (m.toList.zipIdx.foldl (fun a (p, j) => a.setIfInBounds (sa + j) p) (arrOf s))
  return (failedOf (← get)).isNone) := rfl
section
variable {prog : Program} {w : World} {A : Around} {E : Value → Shared → Prop} {s : Shared} {a0 : Array Keyed}
theorem wpS_set {st st1 : SortSt} {Q : PUnit → SortSt → Prop} (h : Q ⟨⟩ st1) : wpS (model prog w) A E s (set st1 : StateT SortSt Sem PUnit) Q st := by
  unfold wpS; rw [StateT.run_set]; exact wpAny_pure ⟨rfl, h⟩
theorem K_ext {xs : Array Keyed} {i j t : Nat} (ht : i + t < j) (hj : j ≤ xs.size) : K (xs.extract i j) t = K xs (i + t) := by
  unfold K
  rw [Array.getElem?_extract]
  rw [if_pos (by omega)]
theorem ik_ext {xs : Array Keyed} (h : IK xs) (i j : Nat) : IK (xs.extract i j) := fun p hp => h p (by
  rw [ext_list] at hp
  exact List.mem_of_mem_drop (List.mem_of_mem_take hp))
theorem up_ext {xs : Array Keyed} {i j : Nat} (h : Up xs i j) (hj : j ≤ xs.size) : Up (xs.extract i j) 0 (xs.extract i j).size := by
  have hs : (xs.extract i j).size = j - i := by rw [Array.size_extract]; omega
  rw [hs]
  intro p q _ h2 h3
  rw [K_ext (by omega) hj, K_ext (by omega) hj]
  exact h _ _ (by omega) (by omega) (by omega)
theorem mat_ok {st : SortSt} {i sa na p sb nb q : Nat} {l1 l2 : List (Nat × Nat × Nat)} {y : Nat} {Q : Bool → SortSt → Prop} (h0 : IK a0) (hB : Bs a0 st) (hi : i = l1.length) (hP : (pendingOf st).toList = l1 ++ (sa, na, p) :: (sb, nb, q) :: l2) (hC : Ch (arrOf st) 0 (pendingOf st).toList y) (hy : y ≤ a0.size)
    (h : ∀ st', Bs a0 st' → (pendingOf st').toList = l1 ++ (sa, na + nb, p) :: l2 → Ch (arrOf st') 0 (pendingOf st').toList y → (∀ t, y ≤ t → K (arrOf st') t = K (arrOf st) t) → Q true st') : wpS (model prog w) A E s (mergeAt' i) Q st := by
  have hsz : (arrOf st).size = a0.size := hB.perm.size_eq
  have ik := ik_perm h0 hB.perm
  rw [hP] at hC
  obtain ⟨z, c1, e1, n1, u1, e2, n2, u2, c2⟩ := Ch.app.mp hC
  subst e1 e2
  have c2l := c2.le
  have g1 : (pendingOf st)[i]? = some (sa, na, p) := by rw [← Array.getElem?_toList, hP, hi]; simp
  have g2 : (pendingOf st)[i + 1]? = some (sa + na, nb, q) := by rw [← Array.getElem?_toList, hP, hi, List.getElem?_append_right (by omega)]; simp
  have hP2 : (((pendingOf st).setIfInBounds i (sa, na + nb, p)).eraseIdxIfInBounds (i + 1)).toList = l1 ++ (sa, na + nb, p) :: l2 := by
    have hl : i + 1 < (pendingOf st).size := by rw [← Array.length_toList, hP, hi, List.length_append, List.length_cons, List.length_cons]; omega
    rw [Array.eraseIdxIfInBounds, dif_pos (by rw [Array.size_setIfInBounds]; exact hl), Array.toList_eraseIdx, Array.toList_setIfInBounds, hP, hi]
    rw [List.set_append_right _ _ (Nat.le_refl _), List.eraseIdx_append_of_length_le (by omega)]
    simp
  rw [mergeAt_eq]
  refine wpS_bind (wpS_get ?_)
  rw [g1, g2]
  dsimp only
  refine wpS_bind (wpS_set ?_)
  have hsb : sa + na < (arrOf st).size := by omega
  refine wpS_bind (elem_ok hsb ?_)
  refine wpS_bind (gal_ok hB.kind ik (ik.get hsb) (by omega) (by omega) u1 fun k k1 k2 k3 => ?_)
  dsimp only
  have q2 : ∀ t, sa ≤ t → t < sa + k → K (arrOf st) t ≤ K (arrOf st) (sa + na) := fun t t1 t2 => by
    have := k2 (t - sa) (by omega)
    rw [show sa + (t - sa) = t by omega] at this
    rw [K_get hsb]
    simpa [bef] using this
  have q3 : ∀ t, sa + k ≤ t → t < sa + na → K (arrOf st) (sa + na) ≤ K (arrOf st) t := fun t t1 t2 => by
    have := k3 (t - sa) (by omega) (by omega)
    rw [show sa + (t - sa) = t by omega] at this
    rw [K_get hsb]
    exact Int.le_of_lt (by simpa [bef] using this)
  -- when nothing is to be moved
  have still : Up (arrOf st) sa (sa + (na + nb)) → Q true (setPending st (((pendingOf st).setIfInBounds i (sa, na + nb, p)).eraseIdxIfInBounds (i + 1))) := fun hu => by
    refine h _ ⟨hB.perm, hB.kind, hB.failed⟩ hP2 ?_ fun t _ => rfl
    show Ch (arrOf st) 0 (((pendingOf st).setIfInBounds i (sa, na + nb, p)).eraseIdxIfInBounds (i + 1)).toList y
    rw [hP2]
    exact Ch.app.mpr ⟨sa, c1, rfl, by omega, hu, by rw [← Nat.add_assoc]; exact c2⟩
  by_cases e1 : na - k = 0
  · rw [if_pos (by simpa using e1)]
    refine wpS_pure (still fun i j i1 i2 i3 => ?_)
    by_cases hj : j < sa + na
    · exact u1 i j i1 i2 hj
    · by_cases hi' : i < sa + na
      · exact Int.le_trans (q2 i i1 (by omega)) (u2 (sa + na) j (Nat.le_refl _) (by omega) (by omega))
      · exact u2 i j (by omega) i2 (by omega)
  rw [if_neg (by simpa using e1)]
  have hla : sa + k + (na - k) - 1 < (arrOf st).size := by omega
  refine wpS_bind (elem_ok hla ?_)
  refine wpS_bind (gal_ok hB.kind ik (ik.get hla) (by omega) (by omega) u2 fun m m1 m2 m3 => ?_)
  dsimp only
  have v2 : ∀ t, sa + na ≤ t → t < sa + na + m → K (arrOf st) t ≤ K (arrOf st) (sa + na - 1) := fun t t1 t2 => by
    have := m2 (t - (sa + na)) (by omega)
    rw [show sa + na + (t - (sa + na)) = t by omega] at this
    have e : sa + na - 1 = sa + k + (na - k) - 1 := by omega
    rw [e, K_get hla]
    exact Int.le_of_lt (by simpa [bef] using this)
  have v3 : ∀ t, sa + na + m ≤ t → t < sa + na + nb → K (arrOf st) (sa + na - 1) ≤ K (arrOf st) t := fun t t1 t2 => by
    have := m3 (t - (sa + na)) (by omega) (by omega)
    rw [show sa + na + (t - (sa + na)) = t by omega] at this
    have e : sa + na - 1 = sa + k + (na - k) - 1 := by omega
    rw [e, K_get hla]
    simpa [bef] using this
  by_cases e2 : m = 0
  · rw [if_pos (by simpa using e2)]
    refine wpS_pure (still fun i j i1 i2 i3 => ?_)
    by_cases hj : j < sa + na
    · exact u1 i j i1 i2 hj
    · by_cases hi' : i < sa + na
      · exact Int.le_trans (u1 i (sa + na - 1) i1 (by omega) (by omega)) (v3 j (by omega) (by omega))
      · exact u2 i j (by omega) i2 (by omega)
  rw [if_neg (by simpa using e2)]
  have sx : ((arrOf st).extract (sa + k) (sa + na)).size = na - k := by rw [Array.size_extract]; omega
  have sy : ((arrOf st).extract (sa + na) (sa + na + m)).size = m := by rw [Array.size_extract]; omega
  have ux : Up ((arrOf st).extract (sa + k) (sa + na)) 0 ((arrOf st).extract (sa + k) (sa + na)).size := up_ext (fun i j i1 i2 i3 => u1 i j (by omega) i2 i3) (by omega)
  have uy : Up ((arrOf st).extract (sa + na) (sa + na + m)) 0 ((arrOf st).extract (sa + na) (sa + na + m)).size := up_ext (fun i j i1 i2 i3 => u2 i j i1 i2 (by omega)) (by omega)
  have hlast : ∀ t, t < ((arrOf st).extract (sa + na) (sa + na + m)).size → K ((arrOf st).extract (sa + na) (sa + na + m)) t ≤ K ((arrOf st).extract (sa + k) (sa + na)) (((arrOf st).extract (sa + k) (sa + na)).size - 1) := fun t ht => by
    rw [sy] at ht
    rw [sx, K_ext (by omega) (by omega), K_ext (by omega) (by omega), show sa + k + (na - k - 1) = sa + na - 1 by omega]
    exact v2 _ (by omega) (by omega)
  have hfirst : ∀ t, t < ((arrOf st).extract (sa + k) (sa + na)).size → K ((arrOf st).extract (sa + na) (sa + na + m)) 0 ≤ K ((arrOf st).extract (sa + k) (sa + na)) t := fun t ht => by
    rw [sx] at ht
    rw [K_ext (by omega) (by omega), K_ext (by omega) (by omega), Nat.add_zero]
    exact q3 _ (by omega) (by omega)
  have fin : ∀ (r : Array Keyed) (st' : SortSt), Good ((arrOf st).extract (sa + k) (sa + na)) ((arrOf st).extract (sa + na) (sa + na + m)) r → Sg (setPending st (((pendingOf st).setIfInBounds i (sa, na + nb, p)).eraseIdxIfInBounds (i + 1))) st' →
      Q true (setArr st' (wr (arrOf st') (sa + k) r.toList.zipIdx)) := by
    rintro r st' ⟨g1, g2⟩ ⟨s1, s2, s3, s4⟩
    have s2 : arrOf st' = arrOf st := s2
    have rl : r.toList.length = na - k + m := by rw [g1.length_eq, List.length_append, Array.length_toList, Array.length_toList, sx, sy]
    have hw : sa + k + r.toList.length ≤ (arrOf st).size := by omega
    have hxy : ((arrOf st).extract (sa + k) (sa + na)).toList ++ ((arrOf st).extract (sa + na) (sa + na + m)).toList = ((arrOf st).toList.drop (sa + k)).take (na - k + m) := by
      rw [ext_list, ext_list, show sa + na - (sa + k) = na - k by omega, show sa + na + m - (sa + na) = m by omega, List.take_add, List.drop_drop, show sa + k + (na - k) = sa + na by omega]
    rw [hxy] at g1
    have hk : ∀ t, K (wr (arrOf st) (sa + k) r.toList.zipIdx) t = if sa + k ≤ t ∧ t < sa + na + m then K r (t - (sa + k)) else K (arrOf st) t := fun t => by
      have e := wr_get (sa + k) r.toList 0 (arrOf st) (by omega) t
      rw [rl] at e
      by_cases ht : sa + k ≤ t ∧ t < sa + na + m
      · rw [if_pos ht]
        rw [if_pos (by omega), Array.getElem?_toList] at e
        exact K_congr e
      · rw [if_neg ht]
        rw [if_neg (by omega)] at e
        exact K_congr e
    have hfrom : ∀ t, sa + k ≤ t → t < sa + na + m → ∃ u, sa + k ≤ u ∧ u < sa + na + m ∧ K r (t - (sa + k)) = K (arrOf st) u := fun t t1 t2 => by
      have ht : t - (sa + k) < r.size := by rw [← Array.length_toList, rl]; omega
      obtain ⟨u, hu1, hu2, hu3⟩ := mem_cut (g1.mem_iff.mp (by simp : r[t - (sa + k)] ∈ r.toList))
      exact ⟨sa + k + u, by omega, by omega, by rw [K_get ht]; exact hu3⟩
    have ur := up_of g2
    have rs : r.size = na - k + m := by rw [← Array.length_toList, rl]
    have wu : Up (wr (arrOf st) (sa + k) r.toList.zipIdx) sa (sa + (na + nb)) := by
      intro i j i1 i2 i3
      rw [hk, hk]
      have low : ∀ a u, sa ≤ a → a < sa + k → sa + k ≤ u → u < sa + na + nb → K (arrOf st) a ≤ K (arrOf st) u := fun a u a1 a2 u3 u4 => by
        by_cases hu : u < sa + na
        · exact u1 a u a1 (by omega) hu
        · exact Int.le_trans (q2 a a1 a2) (u2 _ _ (Nat.le_refl _) (by omega) u4)
      have high : ∀ a u, sa + k ≤ a → a < sa + na + m → sa + na + m ≤ u → u < sa + na + nb → K (arrOf st) a ≤ K (arrOf st) u := fun a u a1 a2 u3 u4 => by
        by_cases ha : a < sa + na
        · exact Int.le_trans (u1 a (sa + na - 1) (by omega) (by omega) (by omega)) (v3 u u3 u4)
        · exact u2 a u (by omega) (by omega) u4
      by_cases hi1 : sa + k ≤ i ∧ i < sa + na + m
      · rw [if_pos hi1]
        by_cases hj1 : sa + k ≤ j ∧ j < sa + na + m
        · rw [if_pos hj1]
          exact ur _ _ (Nat.zero_le _) (by omega) (by omega)
        · rw [if_neg hj1]
          obtain ⟨u, w1, w2, w3⟩ := hfrom i hi1.1 hi1.2
          rw [w3]
          exact high u j w1 w2 (by omega) (by omega)
      · rw [if_neg hi1]
        by_cases hj1 : sa + k ≤ j ∧ j < sa + na + m
        · rw [if_pos hj1]
          obtain ⟨u, w1, w2, w3⟩ := hfrom j hj1.1 hj1.2
          rw [w3]
          exact low i u i1 (by omega) w1 (by omega)
        · rw [if_neg hj1]
          by_cases hil : i < sa + k
          · by_cases hjl : j < sa + na
            · exact u1 i j i1 i2 hjl
            · exact low i j i1 hil (by omega) (by omega)
          · exact u2 i j (by omega) i2 (by omega)
    have wp : (wr (arrOf st) (sa + k) r.toList.zipIdx).Perm a0 := by
      refine Array.Perm.trans (Array.perm_iff_toList_perm.mpr ?_) hB.perm
      rw [wr_list hw, rl]
      refine List.Perm.trans ((g1.append_right _).append_left _) ?_
      rw [show (arrOf st).toList.drop (sa + k + (na - k + m)) = ((arrOf st).toList.drop (sa + k)).drop (na - k + m) by rw [List.drop_drop], List.take_append_drop, List.take_append_drop]
    rw [s2]
    refine h _ ⟨wp, s1.trans hB.kind, s4.trans hB.failed⟩ (by show (pendingOf st').toList = _; rw [s3]; exact hP2) ?_ fun t ht => ?_
    · show Ch (wr (arrOf st) (sa + k) r.toList.zipIdx) 0 (pendingOf st').toList y
      rw [s3]
      show Ch _ 0 (((pendingOf st).setIfInBounds i (sa, na + nb, p)).eraseIdxIfInBounds (i + 1)).toList y
      rw [hP2]
      refine Ch.app.mpr ⟨sa, c1.like fun t t1 t2 => ?_, rfl, by omega, wu, ?_⟩
      · rw [hk, if_neg (by omega)]
      · rw [← Nat.add_assoc]
        exact c2.like fun t t1 t2 => by rw [hk, if_neg (by omega)]
    · show K (wr (arrOf st) (sa + k) r.toList.zipIdx) t = _
      rw [hk, if_neg (by omega)]
  have endS : ∀ (r : Array Keyed) (st' : SortSt), Good ((arrOf st).extract (sa + k) (sa + na)) ((arrOf st).extract (sa + na) (sa + na + m)) r → Sg (setPending st (((pendingOf st).setIfInBounds i (sa, na + nb, p)).eraseIdxIfInBounds (i + 1))) st' →
      wpS (model prog w) A E s (do
        modify fun s => setArr s (r.toList.zipIdx.foldl (fun a (p, j) => a.setIfInBounds (sa + k + j) p) (arrOf s))
        return (failedOf (← get)).isNone) Q st' := fun r st' g z => by
    refine wpS_bind (wpS_modify (wpS_bind (wpS_get (wpS_pure ?_))))
    have hf : failedOf st' = none := z.2.2.2.trans hB.failed
    show Q (failedOf st').isNone (setArr st' (wr (arrOf st') (sa + k) r.toList.zipIdx))
    rw [hf]
    exact fin r st' g z
  by_cases hc : na - k ≤ m
  · rw [if_pos hc]
    exact wpS_bind (mLo_ok hB.kind (ik_ext ik _ _) (ik_ext ik _ _) ux uy (by omega) (by omega) (hfirst 0 (by omega)) hlast fun r st' g z => endS r st' g z)
  · rw [if_neg hc]
    exact wpS_bind (mHi_ok hB.kind (ik_ext ik _ _) (ik_ext ik _ _) ux uy (by omega) (by omega) hfirst hlast fun r st' g z => endS r st' g z)
end
end SR
namespace SR
open PySem PyProof.Rows
section
variable {prog : Program} {w : World} {A : Around} {E : Value → Shared → Prop} {s : Shared} {a0 : Array Keyed}
structure Al (a0 : Array Keyed) (y : Nat) (st : SortSt) : Prop where
  bs : Bs a0 st
  ch : Ch (arrOf st) 0 (pendingOf st).toList y
theorem ite_lt {c : Prop} [Decidable c] {n : Nat} (h : 2 ≤ n) : (if c then n - 2 - 1 else n - 2) + 1 < n := by split <;> omega
theorem two_at {l : List (Nat × Nat × Nat)} {i : Nat} (h : i + 1 < l.length) : ∃ l1 sa na p sb nb q l2, l = l1 ++ (sa, na, p) :: (sb, nb, q) :: l2 ∧ i = l1.length := by
  refine ⟨l.take i, l[i].1, l[i].2.1, l[i].2.2, l[i + 1].1, l[i + 1].2.1, l[i + 1].2.2, l.drop (i + 2), ?_, by rw [List.length_take]; omega⟩
  have e1 : l.drop i = l[i] :: l.drop (i + 1) := List.drop_eq_getElem_cons (by omega)
  have e2 : l.drop (i + 1) = l[i + 1] :: l.drop (i + 2) := List.drop_eq_getElem_cons h
  have e3 := List.take_append_drop i l
  rw [e1, e2] at e3
  exact e3.symm
theorem mg_ok {st : SortSt} {i y : Nat} {Q : Bool → SortSt → Prop} (h0 : IK a0) (h1 : Al a0 y st) (hy : y ≤ a0.size) (hi : i + 1 < (pendingOf st).size)
    (h : ∀ st', Al a0 y st' → (pendingOf st').size + 1 = (pendingOf st).size → (∀ t, y ≤ t → K (arrOf st') t = K (arrOf st) t) → Q true st') : wpS (model prog w) A E s (mergeAt' i) Q st := by
  rw [← Array.length_toList] at hi
  obtain ⟨l1, sa, na, p, sb, nb, q, l2, e, el⟩ := two_at hi
  refine mat_ok h0 h1.bs el e h1.ch hy fun st' b1 b2 b3 b4 => h st' ⟨b1, b3⟩ ?_ b4
  rw [← Array.length_toList, ← Array.length_toList, b2, e]
  simp [Nat.add_assoc]
set_option maxHeartbeats 2000000 in
theorem all_ok {st : SortSt} {Q : Unit → SortSt → Prop} (h0 : IK a0) (hB : Bs a0 st) (hP : pendingOf st = #[]) (h2 : 1 ≤ a0.size)
    (h : ∀ st', (arrOf st').Perm a0 → failedOf st' = none → Up (arrOf st') 0 a0.size → Q () st') : wpS (model prog w) A E s sortRuns' Q st := by
  rw [sortRuns'_eq]
  refine wpS_bind (wpS_get ?_)
  dsimp only
  have hsz : (arrOf st).size = a0.size := hB.perm.size_eq
  rw [hsz]
  generalize minRun' a0.size a0.size 0 = mr
  refine wpS_bind (wpS_mono (wpS_forRange (I := fun x c st' => ∃ lo, c = (none, lo) ∧ Al a0 lo st' ∧ lo ≤ a0.size ∧ (x ≤ lo ∨ lo = a0.size))
    (Q := fun c st' => c = (none, a0.size) ∧ Al a0 a0.size st') ?step ?fin ⟨0, rfl, ⟨hB, by rw [hP]; exact rfl⟩, Nat.zero_le _, .inl (Nat.le_refl _)⟩) ?post)
  case fin =>
    rintro c st' ⟨lo, rfl, b1, b2, b3⟩
    have : lo = a0.size := by omega
    subst this
    exact ⟨rfl, b1⟩
  case step =>
    rintro x c st' _ hx ⟨lo, rfl, b1, b2, b3⟩
    dsimp only
    by_cases g : lo ≥ a0.size
    · rw [if_pos g]
      have : lo = a0.size := by omega
      subst this
      exact wpS_pure ⟨rfl, b1⟩
    rw [if_neg g]
    have hSB : SB a0 (arrOf st') (pendingOf st') lo st' := ⟨b1.bs.perm, b1.bs.kind, b1.bs.failed, rfl, fun _ _ => rfl⟩
    -- what follows when the run of n is there
    have nxt : ∀ (n : Nat) (st2 : SortSt), SB a0 (arrOf st') (pendingOf st') lo st2 → 1 ≤ n → lo + n ≤ a0.size → Up (arrOf st2) lo (lo + n) → Al a0 lo st2 := fun n st2 c1 _ _ _ =>
      ⟨⟨c1.perm, c1.kind, c1.failed⟩, by rw [c1.pend]; exact b1.ch.like fun t _ ht => c1.low t ht⟩
    refine wpS_bind (run_ok h0 (by omega) (by omega) hSB fun m st2 c1 m1 m2 u => ?_)
    dsimp only
    have last : ∀ (n : Nat) (st2 : SortSt), Al a0 lo st2 → 1 ≤ n → lo + n ≤ a0.size → Up (arrOf st2) lo (lo + n) → Al a0 (lo + n) (setPending st2 ((pendingOf st2).push (lo, n, 0))) := fun n st2 d1 d2 d3 d4 => by
      refine ⟨⟨d1.bs.perm, d1.bs.kind, d1.bs.failed⟩, ?_⟩
      show Ch (arrOf st2) 0 ((pendingOf st2).push (lo, n, 0)).toList (lo + n)
      rw [Array.toList_push]
      exact Ch.app.mpr ⟨lo, d1.ch, rfl, d2, d4, rfl⟩
    by_cases hm : m < mr
    all_goals first | rw [if_pos hm] | rw [if_neg hm]
    · refine wpS_bind (wpS_lift (wpAny_rule ⟨rfl, ?_⟩))
      refine wpS_bind (bins_ok h0 (n := min (a0.size - lo) mr) (by omega) c1 u (by omega) fun st3 d1 d2 => ?_)
      simp only [Bool.not_true, Bool.false_eq_true, if_false]
      refine wpS_bind (wpS_get ?_)
      obtain ⟨n, hn⟩ : ∃ n, n = min (a0.size - lo) mr := ⟨_, rfl⟩
      rw [← hn] at d2 ⊢
      have n1 : 1 ≤ n := by omega
      have n2 : lo + n ≤ a0.size := by omega
      have al := nxt n st3 d1 n1 n2 d2
      cases hb : (pendingOf st3).back? with
      | none =>
        dsimp only
        exact wpS_bind (wpS_modify (wpS_pure ⟨lo + n, rfl, last n st3 al n1 n2 d2, n2, by omega⟩))
      | some e =>
        obtain ⟨s1, n3, p3⟩ := e
        dsimp only
        generalize power' a0.size (2 * s1 + n3) (2 * s1 + n3 + n3 + n) a0.size = pw
        refine wpS_bind (wpS_mono (wpS_forRange (I := fun y c st4 => c = (none, ()) ∧ Al a0 lo st4 ∧ Up (arrOf st4) lo (lo + n))
          (Q := fun c st4 => c = (none, ()) ∧ Al a0 lo st4 ∧ Up (arrOf st4) lo (lo + n)) ?a (fun _ _ z => z) ⟨rfl, al, d2⟩) ?b)
        case a =>
          rintro y c st4 _ _ ⟨rfl, e1, e2⟩
          refine wpS_bind (wpS_get ?_)
          by_cases hp : (pendingOf st4).size > 1
          · rw [if_pos hp]
            have hg : (pendingOf st4)[(pendingOf st4).size - 2]? = some (pendingOf st4)[(pendingOf st4).size - 2] := getElem?_pos _ _ (by omega)
            rw [hg]
            dsimp only
            split
            · exact wpS_pure ⟨rfl, e1, e2⟩
            · refine wpS_bind (mg_ok h0 e1 (by omega) (by omega) fun st5 f1 _ f3 => ?_)
              simp only [Bool.not_true, Bool.false_eq_true, if_false]
              refine wpS_pure ⟨rfl, f1, fun i j i1 i2 i3 => ?_⟩
              rw [f3 i i1, f3 j (by omega)]
              exact e2 i j i1 i2 i3
          · rw [if_neg hp]
            exact wpS_pure ⟨rfl, e1, e2⟩
        case b =>
          rintro c st4 ⟨rfl, e1, e2⟩
          dsimp only
          refine wpS_bind (wpS_modify (wpS_bind (wpS_modify (wpS_pure ⟨lo + n, rfl, last n _ ⟨⟨e1.bs.perm, e1.bs.kind, e1.bs.failed⟩, ?_⟩ n1 n2 e2, n2, by omega⟩))))
          show Ch (arrOf st4) 0 ((pendingOf st4).modify ((pendingOf st4).size - 1) _).toList lo
          rw [Array.toList_modify]
          exact Ch.pow _ (fun s n p => ⟨_, rfl⟩) _ e1.ch
    · refine wpS_bind (wpS_get ?_)
      have n2 : lo + m ≤ a0.size := by omega
      have al := nxt m st2 c1 m1 n2 u
      cases hb : (pendingOf st2).back? with
      | none =>
        dsimp only
        exact wpS_bind (wpS_modify (wpS_pure ⟨lo + m, rfl, last m st2 al m1 n2 u, n2, by omega⟩))
      | some e =>
        obtain ⟨s1, n3, p3⟩ := e
        dsimp only
        generalize power' a0.size (2 * s1 + n3) (2 * s1 + n3 + n3 + m) a0.size = pw
        refine wpS_bind (wpS_mono (wpS_forRange (I := fun y c st4 => c = (none, ()) ∧ Al a0 lo st4 ∧ Up (arrOf st4) lo (lo + m))
          (Q := fun c st4 => c = (none, ()) ∧ Al a0 lo st4 ∧ Up (arrOf st4) lo (lo + m)) ?a (fun _ _ z => z) ⟨rfl, al, u⟩) ?b)
        case a =>
          rintro y c st4 _ _ ⟨rfl, e1, e2⟩
          refine wpS_bind (wpS_get ?_)
          by_cases hp : (pendingOf st4).size > 1
          · rw [if_pos hp]
            have hg : (pendingOf st4)[(pendingOf st4).size - 2]? = some (pendingOf st4)[(pendingOf st4).size - 2] := getElem?_pos _ _ (by omega)
            rw [hg]
            dsimp only
            split
            · exact wpS_pure ⟨rfl, e1, e2⟩
            · refine wpS_bind (mg_ok h0 e1 (by omega) (by omega) fun st5 f1 _ f3 => ?_)
              simp only [Bool.not_true, Bool.false_eq_true, if_false]
              refine wpS_pure ⟨rfl, f1, fun i j i1 i2 i3 => ?_⟩
              rw [f3 i i1, f3 j (by omega)]
              exact e2 i j i1 i2 i3
          · rw [if_neg hp]
            exact wpS_pure ⟨rfl, e1, e2⟩
        case b =>
          rintro c st4 ⟨rfl, e1, e2⟩
          dsimp only
          refine wpS_bind (wpS_modify (wpS_bind (wpS_modify (wpS_pure ⟨lo + m, rfl, last m _ ⟨⟨e1.bs.perm, e1.bs.kind, e1.bs.failed⟩, ?_⟩ m1 n2 e2, n2, by omega⟩))))
          show Ch (arrOf st4) 0 ((pendingOf st4).modify ((pendingOf st4).size - 1) _).toList lo
          rw [Array.toList_modify]
          exact Ch.pow _ (fun s n p => ⟨_, rfl⟩) _ e1.ch
  case post =>
    rintro c st' ⟨rfl, b1⟩
    dsimp only
    have hp0 : (pendingOf st').size ≤ a0.size := by have := b1.ch.le; rw [Array.length_toList] at this; omega
    refine wpS_bind (wpS_mono (wpS_forRange (I := fun x c st2 => c = (none, ()) ∧ Al a0 a0.size st2 ∧ ((pendingOf st2).size + x ≤ a0.size ∨ (pendingOf st2).size ≤ 1))
      (Q := fun c st2 => c = (none, ()) ∧ Al a0 a0.size st2 ∧ (pendingOf st2).size ≤ 1) ?a ?b ⟨rfl, b1, .inl (by omega)⟩) ?c)
    case b =>
      rintro c st2 ⟨hc, d1, d2⟩
      exact ⟨hc, d1, by omega⟩
    case a =>
      rintro x c st2 _ hx ⟨rfl, d1, d2⟩
      refine wpS_bind (wpS_get ?_)
      by_cases hs : (pendingOf st2).size ≤ 1
      · rw [if_pos hs]
        exact wpS_pure ⟨rfl, d1, hs⟩
      rw [if_neg hs]
      refine wpS_bind (mg_ok h0 d1 (Nat.le_refl _) (ite_lt (by omega)) fun st5 f1 f2 _ => ?_)
      simp only [Bool.not_true, Bool.false_eq_true, if_false]
      exact wpS_pure ⟨rfl, f1, by omega⟩
    case c =>
      rintro c st2 ⟨rfl, d1, d2⟩
      refine wpS_pure (h st2 d1.bs.perm d1.bs.failed ?_)
      have hc := d1.ch
      rw [← Array.length_toList] at d2
      match hl : (pendingOf st2).toList with
      | [] => rw [hl] at hc; unfold Ch at hc; omega
      | [(z, n, p)] =>
        rw [hl] at hc
        obtain ⟨e1, e2, e3, e4⟩ := hc
        unfold Ch at e4
        rw [Nat.zero_add] at e3 e4
        subst e4
        exact e3
      | _ :: _ :: _ => rw [hl] at d2; simp at d2
end
end SR
namespace SR
open PySem PyProof.Rows
section
variable {prog : Program} {w : World} {A : Around} {E : Value → Shared → Prop} {s : Shared}
theorem ups {xs : Array Keyed} {n : Nat} (h : Up xs 0 n) : SortedTo xs n := fun i j i1 i2 => h i j (Nat.zero_le _) i1 i2
theorem sort_all {a : Addr} {vs : List Value} {ns : List Int} {n : Nat} {P : Fin → Shared → Prop} (ho : s.heap.get? a = some (seqObj "list" vs.toArray n)) (hI : IntsAre vs ns) (hz : vs.length ≤ sizeLine)
    (h : ∀ (out : Array Value) (ns' : List Int), IntsAre out.toList ns' → ns'.Perm ns → ns'.Pairwise (· ≤ ·) → P (.done (.ret .none)) { s with heap := sortedHeap s.heap a vs out }) : wpAny (model prog w) A (Builtin.«list.sort» ⟨[.ref a], []⟩) P E s := by
  by_cases h64 : vs.length < 64
  · exact list_sort_tree ho hI h64 h
  rw [list_sort_plain]
  have lt := Heap.lt_size ho
  refine wpAny_bind (listItems_at ho rfl (wpAny_bind (listUpdate_at ho rfl ?_ (hsz := by simpa using hz) (hsz2 := by simp))))
  obtain ⟨ep, g1⟩ : ∃ ep, (s.heap.update a (Obj.mapSeq fun _ => #[])).get? a = some (seqObj "list" #[] ep) := ⟨_, get?_update_seq ho (fun _ => #[])⟩
  refine wpAny_bind (seqEpoch_at g1 rfl (wpAny_bind (wpAny_newTuple (wpAny_bind (wpAny_newList (wpAny_holding ?_))) (by simpa using hz))))
  have g2 : (((s.heap.update a (Obj.mapSeq fun _ => #[])).push (seqObj "tuple" vs.toArray 0)).push (seqObj "list" #[] 0)).get? a = some (seqObj "list" #[] ep) := by
    have z1 : (s.heap.update a (Obj.mapSeq fun _ => #[])).objs.size = s.heap.objs.size := Heap.size_update ..
    rw [Heap.get?_push_ne _ _ _ (by rw [size_push', z1]; exact Nat.ne_of_lt (Nat.lt_succ_of_lt lt)), Heap.get?_push_ne _ _ _ (by rw [z1]; exact Nat.ne_of_lt lt), g1]
  have big : ¬ vs.toArray.size < 2 := by simp; omega
  dsimp only
  rw [if_neg big, if_neg big]
  match vs, hI, hz, h64 with
  | [], _, _, h64 => exact absurd (by decide) h64
  | [_], _, _, h64 => exact absurd (by simp) h64
  | v1 :: v2 :: vs, hI, hz, h64 =>
    rw [keyKind_ints hI]
    refine wpAny_bind (wpAny_pure (wpAny_bind (wpAny_mono (all_ok (a0 := pairsOf (v1 :: v2 :: vs)) (st := SortSt.mk' oneType' ((v1 :: v2 :: vs).toArray.zip (v1 :: v2 :: vs).toArray) #[] 7 none)
      (Q := fun _ st' => (arrOf st').Perm (pairsOf (v1 :: v2 :: vs)) ∧ failedOf st' = none ∧ SortedTo (arrOf st') (pairsOf (v1 :: v2 :: vs)).size)
      hI.intKeys ⟨Array.Perm.refl _, rfl, rfl⟩ rfl (by rw [pairsOf_size]; simp) fun st' b1 b2 b3 => ⟨b1, b2, ups b3⟩) ?_ fun _ _ e => e)))
    rintro ⟨⟨⟩, st'⟩ s' ⟨rfl, b1, b2, b3⟩
    have hsz : ((arrOf st').map (·.2)).size = (v1 :: v2 :: vs).length := (Array.size_map ..).trans (b1.size_eq.trans (pairsOf_size _))
    obtain ⟨ns', c1, c2, c3⟩ := sorted_out hI b1 b3
    refine wpAny_bind (seqEpoch_at g2 rfl (wpAny_bind (listUpdate_at g2 rfl ?_ (hsz := by simp) (hsz2 := by rw [hsz]; omega))))
    rw [b2]
    simp only [bne_self_eq_false, Bool.false_eq_true, if_false]
    exact wpAny_pure (h _ ns' c1 c2 c3)
end
end SR
namespace SQ
open PySem PySem.Spec PyProof.Rows
section
variable {prog : Program} {w : World} {A : Around} {E : Value → Shared → Prop} {s : Shared}
theorem sortedHeap_ok {h : Heap} {a : Addr} {vs : List Value} {n : Nat} {out : Array Value} (ho : h.get? a = some (seqObj "list" vs.toArray n)) : (∃ n', (sortedHeap h a vs out).get? a = some (seqObj "list" out n')) ∧ ∀ b o, b ≠ a → h.get? b = some o → (sortedHeap h a vs out).get? b = some o := by
  unfold sortedHeap
  obtain ⟨k, g⟩ : ∃ k, (h.update a (Obj.mapSeq fun _ => #[])).get? a = some (seqObj "list" #[] k) := ⟨_, get?_update_seq ho _⟩
  refine ⟨⟨_, get?_update_seq (Heap.get?_push_of_some _ (Heap.get?_push_of_some _ g)) _⟩, fun b o hb e => ?_⟩
  exact ((Heap.SameBut.update ..).2 b hb).trans (Heap.get?_push_of_some _ (Heap.get?_push_of_some _ (((Heap.SameBut.update ..).2 b hb).trans e)))
theorem sorted_tail {s : Shared} {vs : List Value} {ns : List Int} {Q : Value → Shared → Prop} (hI : IntsAre vs ns) (hz : vs.length ≤ sizeLine)
    (h : ∀ (h' : Heap) (out : Array Value) (ns' : List Int) (n : Nat), (∀ b o, s.heap.get? b = some o → h'.get? b = some o) → h'.get? s.heap.objs.size = some (seqObj "list" out n) → IntsAre out.toList ns' → ns'.Perm ns → ns'.Pairwise (· ≤ ·) → Q (.ref s.heap.objs.size) { s with heap := h' }) :
    wpAny (model prog w) A (do
      let l ← newList vs
      let _ ← holding [l] (call (.builtin "list.sort") [l] [])
      ret l) (fun fin s' => ∃ v, fin = .done (.ret v) ∧ Q v s') E s := by
  refine wpAny_bind (wpAny_newList ?_ hz)
  have g : (s.heap.push (seqObj "list" vs.toArray 0)).get? s.heap.objs.size = some (seqObj "list" vs.toArray 0) := Heap.get?_push_size _ rfl
  refine wpAny_bind (wpAny_holding (wpAny_call_entry slot_list_sort ⟨_, g, rfl⟩ entry_list_sort (SR.sort_all g hI hz fun out ns' a1 a2 a3 => ⟨_, rfl, ?_⟩) (args_list_sort _)))
  obtain ⟨⟨n, g1⟩, g2⟩ := sortedHeap_ok (out := out) g
  exact wpAny_pure ⟨_, rfl, h _ out ns' n (fun b o e => g2 b o (Nat.ne_of_lt (Heap.lt_size e)) (Heap.get?_push_of_some _ e)) g1 a1 a2 a3⟩
theorem sorted_seq {k : Bool} {l : Addr} {vs : List Value} {ns : List Int} {Q : Value → Shared → Prop} (hl : Is k s.heap l vs.toArray) (hI : IntsAre vs ns) (hz : vs.length ≤ sizeLine)
    (h : ∀ (a : Addr) (h' : Heap) (out : Array Value) (ns' : List Int) (n : Nat), s.heap.objs.size ≤ a → (∀ b o, s.heap.get? b = some o → h'.get? b = some o) → h'.get? a = some (seqObj "list" out n) → IntsAre out.toList ns' → ns'.Perm ns → ns'.Pairwise (· ≤ ·) → Q (.ref a) { s with heap := h' }) :
    wpAny (model prog w) A (call (.builtin "sorted") [.ref l]) Q E s := by
  refine Calls.call_function_entry kind_sorted plain_sorted entry_sorted (args_sorted1 _) ?_
  unfold Builtin.«sorted»
  refine wpAny_bind (m := checkCount "sorted" 1 1 _) (wpAny_pure ?_)
  refine wpAny_bind (collects hl ?_ hz)
  have kp : ∀ b o, s.heap.get? b = some o → ((s.heap.push (seqObj "list" #[] 0)).update s.heap.objs.size (Obj.mapSeq (· ++ vs.toArray))).get? b = some o := fun b o e =>
    ((Heap.SameBut.update ..).2 b (Nat.ne_of_lt (Heap.lt_size e))).trans (Heap.get?_push_of_some _ e)
  refine sorted_tail (s := { s with heap := (s.heap.push (seqObj "list" #[] 0)).update s.heap.objs.size (Obj.mapSeq (· ++ vs.toArray)) }) hI hz fun h' out ns' n k1 k2 a1 a2 a3 => h _ h' out ns' n ?_ (fun b o e => k1 b o (kp b o e)) k2 a1 a2 a3
  show s.heap.objs.size ≤ ((s.heap.push (seqObj "list" #[] 0)).update s.heap.objs.size (Obj.mapSeq (· ++ vs.toArray))).objs.size
  rw [Heap.size_update, size_push']; exact Nat.le_succ _
theorem sorted_src {T : String} {r d : Addr} {n : Nat} {P : Nat → Value → Prop} {OK : Heap → Prop} {ns : List Int} {Q : Value → Shared → Prop} (K : PySem.W.KdlSrc prog w T r d n P OK) (hh : A.handled = none) (hok : OK s.heap) (hn : n ≤ sizeLine)
    (hI : ∀ vs : List Value, vs.length = n → (∀ j v, vs[j]? = some v → P j v) → IntsAre vs ns)
    (h : ∀ (h1 : Heap) (tk : Nat), (∀ b o, s.heap.get? b = some o → h1.get? b = some o) → ∀ (h2 : Heap) (out : Array Value) (ns' : List Int) (n : Nat), (∀ b o, h1.get? b = some o → h2.get? b = some o) → h2.get? h1.objs.size = some (seqObj "list" out n) → IntsAre out.toList ns' → ns'.Perm ns → ns'.Pairwise (· ≤ ·) → Q (.ref h1.objs.size) { s with heap := h2, toks := tk }) :
    wpAny (model prog w) A (call (.builtin "sorted") [.ref r]) Q E s := by
  refine Calls.call_function_entry kind_sorted plain_sorted entry_sorted (args_sorted1 _) ?_
  unfold Builtin.«sorted»
  refine wpAny_bind (m := checkCount "sorted" 1 1 _) (wpAny_pure ?_)
  refine wpAny_bind (PySem.W.kdu_collect (A := A.in1) K hh hok hn fun h' tk acc hk hacc => ?_)
  have hl : acc.toList.length = n := by rw [Array.length_toList]; exact hacc.1
  have hi := hI acc.toList hl fun j v e => hacc.2 j v (by rw [← Array.getElem?_toList]; exact e)
  refine sorted_tail (s := { s with heap := h', toks := tk }) hi (by omega) fun h2 out ns' n k1 k2 a1 a2 a3 => h h' tk hk h2 out ns' n k1 k2 a1 a2 a3
end
end SQ
namespace PD
open PySem PySem.Spec PyProof.Rows L2
def kints : List (KD × D) → Option (List Int)
  | [] => some []
  | (.inl i, _) :: r => (kints r).map (i :: ·)
  | _ => none
def srtOf (S : Sto) (d : D) : Option (List Int) := match seqOf S d with
  | some a => intsOf a
  | none => match dicOf S d with
    | some kvs => kints kvs
    | none => none
def fSrt : Sto → List D → Option D
  | S, [d] => match srtOf S d with
    | some ns => if ns.length ≤ sizeLine then some (.lst ((sortZ ns).map .int)) else none
    | none => none
  | _, _ => none
section
variable {X : Cx} {E : XK}
theorem kints_len : ∀ {kvs : List (KD × D)} {ns : List Int}, kints kvs = some ns → ns.length = kvs.length
  | [], _, h => by unfold kints at h; cases h; rfl
  | (.inl i, _) :: r, ns, h => by
    unfold kints at h
    cases e : kints r with
    | none => rw [e] at h; cases h
    | some m => rw [e] at h; cases h; simp [kints_len e]
  | (.inr i, _) :: r, ns, h => by unfold kints at h; cases h
theorem kints_at : ∀ {kvs : List (KD × D)} {ns : List Int}, kints kvs = some ns → ∀ (j : Nat) (k : KD) (d : D), kvs[j]? = some (k, d) → ∃ i, ns[j]? = some i ∧ k = .inl i
  | [], _, h, j, k, d, e => by simp at e
  | (.inl i, x) :: r, ns, h, j, k, d, e => by
    unfold kints at h
    cases e' : kints r with
    | none => rw [e'] at h; cases h
    | some m =>
      rw [e'] at h; cases h
      cases j with
      | zero => simp at e; exact ⟨i, rfl, e.1.symm⟩
      | succ j => exact kints_at e' j k d (by simpa using e)
  | (.inr i, _) :: r, ns, h, j, k, d, e => by unfold kints at h; cases h
theorem ints_of_at : ∀ (vs : List Value) (ns : List Int), vs.length = ns.length → (∀ (j : Nat) (v : Value), vs[j]? = some v → ∃ i t, ns[j]? = some i ∧ v = .int i t) → IntsAre vs ns
  | [], [], _, _ => .nil
  | v :: vs, n :: ns, hl, h => by
    obtain ⟨i, t, e, rfl⟩ := h 0 v rfl
    cases e
    exact .cons _ _ (ints_of_at vs ns (by simpa using hl) fun j v e => h (j + 1) v (by simpa using e))
  | [], _ :: _, hl, _ => by simp at hl
  | _ :: _, [], hl, _ => by simp at hl
theorem RDk.at {K : PySem.W.Frag} {w : Wd} {H : Hp} : ∀ {ds : List (KD × D)} {us : List (Key × V)}, RDk K w H ds us → ∀ (j : Nat) (k : Key) (v : V), us[j]? = some (k, v) → ∃ d, ds[j]? = some (k, d)
  | [], _, h, j, k, v, e => by rw [h.nil_inv] at e; simp at e
  | (k0, d) :: ds, _, h, j, k, v, e => by
    obtain ⟨v0, r, rfl, _, t⟩ := h.cons_inv
    cases j with
    | zero => simp at e; exact ⟨d, by simp [e.1]⟩
    | succ j => exact t.at j k v (by simpa using e)
theorem xc_srt (hc : X.calm = true) : CallR X (.builtin "sorted") (xC X.K E fSrt) := by
  rintro pins s σ H xs us Q I r ⟨w, S, ds, hS, qs, p⟩
  obtain ⟨z, hz, p'⟩ := p.of
  clear p
  unfold fSrt at hz
  split at hz
  · rename_i d
    obtain ⟨v, rfl, q⟩ := qs.one_inv
    split at hz
    · rename_i ns hns
      split at hz
      · rename_i hlt
        cases hz
        -- the list that comes
        have last : ∀ (s1 : Shared) (a : Addr) (h2 : Heap) (tk : Nat) (out : Array Value) (ns' : List Int) (n : Nat), Inv X pins σ H s1 → s1.heap.objs.size ≤ a → (∀ b o, s1.heap.get? b = some o → h2.get? b = some o) → h2.get? a = some (seqObj "list" out n) → IntsAre out.toList ns' → ns'.Perm ns → ns'.Pairwise (· ≤ ·) → EP X pins σ Q (.ref a) { s1 with heap := h2, toks := tk } := fun s1 a h2 tk out ns' n I1 la k1 k2 a1 a2 a3 => by
          have en : ns' = sortZ ns := sorted_uniq (a2.trans (sortZ_perm ns).symm) a3 (sortZ_sorted ns)
          subst en
          have hf : H a = none := I1.hok.fresh la
          have hz : ((sortZ ns).map V.int).length ≤ sizeLine := by rw [List.length_map, (sortZ_perm ns).length_eq]; exact hlt
          refine ⟨.ref a, _, I1.laid (t' := tk) (a := a) (o := .lst ((sortZ ns).map V.int)) k1 la ⟨hz, out.toList, n, vals_of a1, by rw [Array.toArray_toList]; exact k2⟩, rfl, ?_⟩
          exact p'.at (Ext.new hf) (RD.newLst hS hf (rds_ints _)) (hS.new hf)
        unfold srtOf at hns
        split at hns
        · rename_i a ha
          obtain ⟨pa, vs, rfl, sq, ra⟩ := seq_ok hS q ha
          obtain ⟨u, rfl, rx⟩ := vals1 r
          cases rx
          have main : ∀ (k : Bool) (its : List Value), Vals vs its → SQ.Is k s.heap pa its.toArray → wpAny (model X.prog X.w) X.A (call (.builtin "sorted") [.ref pa]) (EP X pins σ Q) X.xe s := fun k its rv pl => by
            have hI := ints_are ra rv hns
            have hl : its.length = ns.length := hI.length
            exact SQ.sorted_seq pl hI (by omega) fun a h' out ns' n la k1 k2 a1 a2 a3 => last s a h' s.toks out ns' n I la k1 k2 a1 a2 a3
          rcases sq with hq | hq
          · obtain ⟨its, r', pl, hz⟩ := I.list hq
            exact main false its r' pl.isList
          · obtain ⟨its, r', pl, hz⟩ := I.tuple hq
            exact main true its r' pl
        · split at hns
          · rename_i kvs hd
            obtain ⟨pp, us', rfl, rd, rk⟩ := dic_at hS q hd
            obtain ⟨u, rfl, rx⟩ := vals1 r
            cases rx
            obtain ⟨hl, hm, vs, rel, dd⟩ := dk_rd I.hok rd
            obtain ⟨ep, hat⟩ := dd.dictAt
            have e1 := rel.length
            have e2 := rk.length
            have e3 := kints_len hns
            refine SQ.sorted_src (ns := ns) (PySem.W.kdl_dict (knd := mixKind X.prog X.w) (kvs := vs) (ep := ep) hm) (I.ok.hd hc) hat (by omega) (fun ws hw hv => ?_) fun h1 tk hk h2 out ns' n k1 k2 a1 a2 a3 => ?_
            · refine ints_of_at ws ns (by omega) fun j u hu => ?_
              obtain ⟨k, x, hx, hkey⟩ := hv j u hu
              obtain ⟨y, hy⟩ : ∃ y, us'[j]? = some (k, y) := by
                have e := congrArg (fun l : List Key => l[j]?) rel.keys
                simp only [List.getElem?_map, hx, Option.map_some] at e
                cases hu' : us'[j]? with
                | none => rw [hu'] at e; cases e
                | some q => rw [hu'] at e; cases e; exact ⟨q.2, rfl⟩
              obtain ⟨d', hd'⟩ := rk.at j k y hy
              obtain ⟨i, hi, rfl⟩ := kints_at hns j k d' hd'
              have := kV_of_is hkey
              obtain ⟨t, rfl⟩ : ∃ t, u = .int i t := this
              exact ⟨i, t, hi, rfl⟩
            · exact last { s with heap := h1, toks := tk } _ h2 tk out ns' n (I.kept (t' := tk) hk) (Nat.le_refl _) k1 k2 a1 a2 a3
          · cases hns
      · cases hz
    · cases hz
  · cases hz
end
end PD
namespace PD
open PySem PySem.Spec PyProof.Rows L2
section
variable {prog : Program} {w : World} {A : Around} {R : Result → Shared → Prop} {I : Addr} {fp wr : List Addr} {n : Nat} {P : Nat → Value → Prop} {St : Nat → Heap → Prop} {h0 : Heap} {bt : Nat → Nat → Bool} {S : Addr} {kw : List (Str × Value)}
end
section
variable {prog : Program} {w : World} {A : Around} {E : Value → Shared → Prop} {s : Shared}
end
section
variable {X : Cx} {E : XK}
end
end PD
namespace L2
open PySem PySem.Spec PyProof.Rows
theorem Inv.freezeL {X : Cx} {pins : List (Addr × Obj)} {σ : St} {H : Hp} {s : Shared} {a : Addr} {vs : List V} (I : Inv X pins σ H s) (h : H a = some (.lst vs)) : ∃ o, Inv X pins σ (upd H a (.frz o (.lst vs))) s := by
  obtain ⟨z, its, n, r, e⟩ : ObjOk X.prog X.w H s.heap a (.lst vs) := I.hok a _ h
  have I2 : Inv X pins σ (upd H a (.frz _ (.lst vs))) { s with heap := s.heap, toks := s.toks } := I.write (x := a) (e := a) (by rw [h]; exact True.intro) (.inl rfl) (fun b u _ q => q) ⟨_, e⟩ ⟨e, z, its, n, r, e⟩
  exact ⟨_, I2⟩
section
variable {X : Cx} {tg : Expr}
def iFrz (K : PySem.W.Frag) (td : TE) : TI := fun σ H R => td σ H fun x H1 => ∃ a vs, x = .ref a ∧ ((H1 a = some (.lst vs) ∧ ∀ o, R (Itl K a) (upd H1 a (.frz o (.lst vs)))) ∨ ∃ o, H1 a = some (.frz o (.lst vs)) ∧ R (Itl K a) H1)
theorem pi_frz {d : Expr} {td : TE} (hd : PE X d td) : PI X tg d (iFrz X.K td) := by
  intro pins s σ H R I h
  refine thn (hd pins s σ H _ I h) fun u s1 ⟨x, H1, I1, rx, a, vs, ex, q1⟩ => ?_
  subst ex
  obtain rfl : u = Value.ref a := rx
  have main : ∀ (H2 : Hp) (o : Obj), Inv X pins σ H2 s1 → H2 a = some (.frz o (.lst vs)) → R (Itl X.K a) H2 → wpAny (model X.prog X.w) X.A (pyIter (.ref a)) (PIE X pins σ tg R) X.xe s1 := fun H2 o I2 hH2 q => by
    obtain ⟨its, rv, p, hz⟩ := I2.list (xs := vs) (.inl (.inr ⟨o, hH2⟩))
    refine wpAny_pyIter_list p.isList ?_
    refine ⟨s1.heap.objs.size, [s1.heap.objs.size], _, _, H2, rfl, I2.kept (t' := s1.toks) fun b o e => Heap.get?_push_of_some _ e, turn_list a _, ⟨_, Heap.get?_push_size _ rfl, rfl, rfl⟩, fun b hb => ?_, q⟩
    have e : b = s1.heap.objs.size := by simpa using hb
    subst e
    exact I2.fpOk (Nat.le_refl _) (I2.hok.fresh (Nat.le_refl _))
  rcases q1 with ⟨hH, q⟩ | ⟨o, hH, q⟩
  · obtain ⟨o, I2⟩ := I1.freezeL hH
    exact main _ o I2 upd_same (q o)
  · exact main _ o I1 hH q
end
end L2
namespace PD
open PySem PySem.Spec PyProof.Rows L2
def aFrz (m : EM) : AM := fun r S => (m r S).bind fun d S1 => match d with
  | .ref n => match S1[n]? with
    | some (.lst xs) => .ok xs (S1.set n (.flst xs))
    | some (.flst xs) => .ok xs S1
    | _ => .bad
  | _ => .bad
theorem ri_frz {K : PySem.W.Frag} {w : Wd} {H : Hp} {a : Addr} {o : Obj} {ds : List D} {vs : List V} (hst : ∀ w' H', Ext w H w' H' → H' a = some (.frz o (.lst vs))) (q : RDs K w H ds vs) : RI K w H ds (Itl K a) := by
  intro i w' H' x'
  have q' := RDs.ext x' _ _ q
  have sq : SqL K H' a vs := .inl (.inr ⟨o, hst w' H' x'⟩)
  refine ⟨fun hi => ⟨⟨vs, vs[i]'(by rw [q.length]; exact hi), sq, List.getElem?_eq_getElem _⟩, fun x H'' y => ?_⟩, fun hi => ⟨vs, sq, by rw [q.length]; exact hi⟩⟩
  obtain ⟨rfl, y⟩ := y
  refine ⟨.inl rfl, fun S _ => ⟨ds[i], List.getElem?_eq_getElem hi, ?_⟩⟩
  obtain ⟨v, e, rv⟩ := q'.get (List.getElem?_eq_getElem hi)
  rw [y vs sq] at e
  cases e
  exact rv
section
variable {X : Cx} {E : XK}
theorem si_frz {tg : Expr} {d : Expr} {md : EM} (ha : SE X E d md) : SI X E tg d (aFrz md) := ⟨
  pi_weak (pi_frz ha.out) fun s H Q ⟨w, r, S, hr, hS, hp⟩ => ⟨w, r, S, hr, hS, hp.bind hS fun d S1 w1 H1 v x1 q1 s1 p1 => by
    cases d with
    | ref m =>
      obtain ⟨pp, rfl, hp⟩ := q1.refI
      have hm : pp ∈ w1.st := List.mem_of_getElem? hp
      cases e : S1[m]? with
      | none => simp only [e] at p1; exact p1.elim
      | some ob =>
        obtain ⟨p', hp', ro⟩ := s1.obj _ _ e
        rw [hp] at hp'; cases hp'
        cases ob with
        | lst xs =>
          simp only [e] at p1
          obtain ⟨vs, hv, rk⟩ := ro
          refine ⟨pp, vs, rfl, .inl ⟨hv, fun o => ?_⟩⟩
          have rk' := RDs.ext (Ext.mut hm hv (o := .frz o (.lst vs))) _ _ rk
          exact Post.at p1 (Ext.mut hm hv) (ri_frz (fun w' H' x' => x'.frz _ _ _ upd_same) rk') (s1.mut hp hv ⟨o, vs, upd_same, rk'⟩)
        | flst xs =>
          simp only [e] at p1
          obtain ⟨o, vs, hv, rk⟩ := ro
          exact ⟨pp, vs, rfl, .inr ⟨o, hv, Post.ret p1 (ri_frz (fun w' H' x' => x'.frz _ _ _ hv) rk) s1⟩⟩
        | dic xs => simp only [e] at p1; exact p1.elim
        | fdic xs => simp only [e] at p1; exact p1.elim
        | ins c fs => simp only [e] at p1; exact p1.elim
    | _ => exact p1.elim⟩⟩
end
end PD
namespace PD
open PySem PySem.Spec PyProof.Rows L2
section
variable {X : Cx} {E : XK}
end
end PD
namespace PD
open PySem PySem.Spec PyProof.Rows L2
section
variable {X : Cx} {E : XK} {a : Expr} {ma : EM}
end
end PD
namespace PySem
open PyProof.Rows
namespace F
end F
section
variable {prog : Program} {w : World} {A : Around} {E : Value → Shared → Prop} {s : Shared}
open AutoSeq1 (wpAny_loadPart')
end
end PySem
namespace L2
open PySem PySem.Spec PyProof.Rows
section
variable {X : Cx}
end
end L2
namespace PD
open PySem PySem.Spec PyProof.Rows L2
section
variable {X : Cx} {E : XK} {a : Expr}
end
end PD
namespace L2
open PySem PySem.Spec PyProof.Rows
section
variable {X : Cx}
end
end L2
namespace PD
open PySem PySem.Spec PyProof.Rows L2
section
variable {X : Cx} {E : XK}
end
end PD
namespace PySem
section
variable {M : Model} {A : Around} {E : Value → Shared → Prop} {s : Shared} {env : Env}
end
end PySem
namespace L2
open PySem PySem.Spec PyProof.Rows
section
variable {X : Cx} {pins : List (Addr × Obj)} {σ : St} {H : Hp} {s : Shared}
end
end L2
namespace PD
open PySem PySem.Spec PyProof.Rows L2
section
variable {X : Cx} {E : XK}
end
end PD
namespace PD
open PySem PySem.Spec PyProof.Rows L2
section
variable {X : Cx} {E : XK}
end
end PD
namespace PD
open PySem PySem.Spec PyProof.Rows L2
section
variable {prog : Program} {w : World} {A : Around} {Ex : Value → Shared → Prop} {s : Shared}
end
section
variable {X : Cx} {E : XK}
end
end PD
namespace L2
open PySem PySem.Spec PyProof.Rows
abbrev intsV (n : Nat) : List V := (List.range n).map fun (i : Nat) => V.int i
theorem vals_up : ∀ (l : List Value) (k : Nat), (∀ i v, l[i]? = some v → ∃ t, v = Value.int ((k + i : Nat) : Int) t) → Vals ((List.range' k l.length).map fun (i : Nat) => V.int i) l
  | [], k, _ => .nil
  | v :: l, k, h => by
    have h0 := h 0 v rfl
    have ih := vals_up l (k + 1) fun i u e => by
      obtain ⟨t, z⟩ := h (i + 1) u e
      exact ⟨t, by rw [z]; congr 1; omega⟩
    exact .cons h0 ih
section
variable {X : Cx}
def tLrg (ta : TA) : TE := fun σ H Q => ta σ H fun vs H1 => ∃ j : Int, vs = [.int j] ∧ -100000 ≤ j ∧ j ≤ 100000 ∧ ∀ q, H1 q = none → Q (.ref q) (upd H1 q (.lst (intsV j.toNat)))
theorem pe_lrg {a : Expr} {ta : TA} {p0 p1 pos0 pos1 : Pos} (hc : X.calm = true) (hg0 : Gl X "list") (hm0 : X.mg "list" = none) (hg : Gl X "range") (hm : X.mg "range" = none) (ha : PA X [a] ta) (hs : starEach [a] X.env = [(false, eval a X.env)])
    (hs0 : starEach [.Call (.Name "range" p1) [a] [] pos1] X.env = [(false, eval (.Call (.Name "range" p1) [a] [] pos1) X.env)]) : PE X (.Call (.Name "list" p0) [.Call (.Name "range" p1) [a] [] pos1] [] pos0) (tLrg ta) := by
  intro pins s σ H Q I h
  refine Call_ (ld_blt I hg0 hm0 boot_list (PyProof.Rows.callWith_type1 ?_ hs0 rfl))
  rw [hs0]
  show wpAny _ _ (spliced ((false, eval (.Call (.Name "range" p1) [a] [] pos1) X.env) :: backTo pos0 [])) _ _ s
  refine Calls.spliced_cons (Call_ (ld_blt I hg hm boot_range (PyProof.Rows.callWith_type1 (thn (ha pos1 pins s σ H _ I h) fun us s1 hv => ?_) hs rfl)))
  obtain ⟨vs, H1, I1, r1, j, rfl, j0, j1, q⟩ := hv
  obtain ⟨u, rfl, t, rfl⟩ := vals1 r1
  refine call_range_1 ?_
  refine Calls.spliced_nil ?_
  have hz : j.toNat ≤ 2 ^ 24 := by have : (100000 : Nat) ≤ 2 ^ 24 := by decide
                                   omega
  have hz2 : j.toNat ≤ sizeLine := by have : (100000 : Nat) ≤ sizeLine := by decide
                                      omega
  refine call_list_range (n := j.toNat) (I1.ok.hd hc) (IsRange.new ..) (small_one (by omega) (by omega) (by omega) (by omega)) (by rw [rangeSize_one]; split <;> omega) hz fun h' tk acc c' hk hS hacc => ?_
  have I2 := I1.kept (h' := s1.heap.push { cls := .type "range", data := .fields #[.int 0 s1.toks, .int j t, .int 1 (s1.toks + 1)] }) (t' := s1.toks + 1 + 1) fun b o e => Heap.get?_push_of_some _ e
  have rv : Vals (intsV j.toNat) acc.toList := by
    have z := vals_up acc.toList 0 fun i v e => by
      obtain ⟨t, z⟩ := hacc.2 i v (by rw [← Array.getElem?_toList]; exact e)
      exact ⟨t, by rw [z]; congr 1; omega⟩
    rw [Array.length_toList, hacc.1, ← List.range_eq_range'] at z
    exact z
  refine ⟨.ref _, _, I2.laid (t' := tk) hk (Nat.le_refl _) (show ObjOk X.prog X.w _ h' _ (.lst (intsV j.toNat)) from ⟨by rw [List.length_map, List.length_range]; exact hz2, acc.toList, c', rv, hS⟩), rfl, q _ (I2.hok.fresh (Nat.le_refl _))⟩
end
end L2
namespace PD
open PySem PySem.Spec PyProof.Rows L2
abbrev intsD (n : Nat) : List D := (List.range n).map fun (i : Nat) => D.int i
theorem ints_rds {K : PySem.W.Frag} {w : Wd} {H : Hp} : ∀ (l : List Nat), RDs K w H (l.map fun (i : Nat) => D.int i) (l.map fun (i : Nat) => V.int i)
  | [] => .nil
  | i :: l => .cons RD.mkI (ints_rds l)
def fLrg : Sto → List D → Option D
  | _, [.int j] => if -100000 ≤ j ∧ j ≤ 100000 then some (.lst (intsD j.toNat)) else none
  | _, _ => none
def fLrgR : Sto → List D → R D
  | S, [.int j] => if -100000 ≤ j ∧ j ≤ 100000 then .ok (.ref S.length) (S ++ [.lst (intsD j.toNat)]) else .bad
  | _, _ => .bad
section
variable {X : Cx} {E : XK} {a : Expr}
theorem se_lrg {ms : AM} {p0 p1 pos0 pos1 : Pos} (hc : X.calm = true) (hg0 : Gl X "list") (hm0 : X.mg "list" = none) (hg : Gl X "range") (hm : X.mg "range" = none) (ha : SA X E [a] ms) (hs : starEach [a] X.env = [(false, eval a X.env)] := by kernel_rfl)
    (hs0 : starEach [.Call (.Name "range" p1) [a] [] pos1] X.env = [(false, eval (.Call (.Name "range" p1) [a] [] pos1) X.env)] := by kernel_rfl) : SE X E (.Call (.Name "list" p0) [.Call (.Name "range" p1) [a] [] pos1] [] pos0) (eB fLrg ms) := ⟨
  pe_weak (pe_lrg hc hg0 hm0 hg hm ha.out hs hs0) fun s H Q ⟨w, r, S, hr, hS, hp⟩ => ⟨w, r, S, hr, hS, hp.bind hS fun ds S1 w1 H1 vs x1 q1 s1 p1 => by
    obtain ⟨z, hz, p⟩ := p1.of
    unfold fLrg at hz
    split at hz
    · rename_i j
      split at hz
      · rename_i hj
        cases hz
        obtain ⟨v, rfl, q2⟩ := q1.one_inv
        cases q2.int
        exact ⟨j, rfl, hj.1, hj.2, fun t ht => p.at (Ext.new ht) (RD.newLst s1 ht (ints_rds _)) (s1.new ht)⟩
      · cases hz
    · cases hz⟩⟩
theorem se_lrgR {ms : AM} {p0 p1 pos0 pos1 : Pos} (hc : X.calm = true) (hg0 : Gl X "list") (hm0 : X.mg "list" = none) (hg : Gl X "range") (hm : X.mg "range" = none) (ha : SA X E [a] ms) (hs : starEach [a] X.env = [(false, eval a X.env)] := by kernel_rfl)
    (hs0 : starEach [.Call (.Name "range" p1) [a] [] pos1] X.env = [(false, eval (.Call (.Name "range" p1) [a] [] pos1) X.env)] := by kernel_rfl) : SE X E (.Call (.Name "list" p0) [.Call (.Name "range" p1) [a] [] pos1] [] pos0) (eBR fLrgR ms) := ⟨
  pe_weak (pe_lrg hc hg0 hm0 hg hm ha.out hs hs0) fun s H Q ⟨w, r, S, hr, hS, hp⟩ => ⟨w, r, S, hr, hS, hp.bind hS fun ds S1 w1 H1 vs x1 q1 s1 p1 => by
    unfold fLrgR at p1
    split at p1
    · rename_i j
      split at p1
      · rename_i hj
        obtain ⟨v, rfl, q2⟩ := q1.one_inv
        cases q2.int
        exact ⟨j, rfl, hj.1, hj.2, fun t ht => Post.at p1 (Ext.alloc ht) s1.lastRef (s1.alloc ht ⟨_, upd_same, ints_rds _⟩)⟩
      · exact p1.elim
    · exact p1.elim⟩⟩
end
end PD
namespace PySem
open PyProof.Rows
open Sem (wp)
namespace F
theorem ul_plain : plainId "dict.update.loop" = true := by decide +kernel
theorem ul_entry : entryFor table "dict.update.loop" = some Builtin.«dict.update.loop» := entryFor_of_tree (by kernel_rfl)
theorem list_no_keys : typeLookup (.type "list") "keys" = pure none := by rw [typeLookup_type, builtinLookup_eq_fast]; kernel_rfl
end F
section
variable {prog : Program} {w : World} {A : Around} {E : Value → Shared → Prop}
theorem list_keys_none {s : Shared} {l : Addr} {sl : Array (Option Value)} {xs : Array Value} {n : Nat} {Q : Option Value → Shared → Prop} (hl : s.heap.get? l = some { cls := .type "list", dict := none, data := .seq xs n, slots := sl }) (hA : A.handled = none)
    (q : ∀ h' tk, (∀ b ob, s.heap.get? b = some ob → h'.get? b = some ob) → Q none { s with heap := h', toks := tk }) : wpAny (model prog w) A (getAttr? (.ref l) "keys") Q E s := by
  obtain ⟨hp, gs, dr, k0, os⟩ := s
  have ty : ∀ k, (⟨hp, gs, dr, k, os⟩ : Shared).TypeIs (.ref l) "list" := fun _ => ⟨_, hl, rfl⟩
  have a1 := sub_AttributeError; have a2 := F.slot_list_getattribute.lookup; have a3 := F.slot_list_getattribute.bind (.ref l); have a4 := am_list_getattr_none
  have nm : (["__module__", "__name__", "__qualname__", "__doc__", "__annotations__"] : List Str).contains "keys" = false := by decide +kernel
  unfold getAttr? getAttrBy? getAttrBy
  repeat (any_goals (first | assumption | exact ty _ | ((with_reducible show wpAny _ _ (call (Value.builtin "list.__getattribute__") _ _) _ _ _); refine call_meets F.slot_list_getattribute (ty _) am_entry_list_getattribute (F.args_list_getattribute_2 _ _) (meets_getattribute_miss_list l xs n sl "keys" _ F.list_no_keys nm (by size_fits)) ⟨hl, hA, fun h' tk' e x => ?_⟩) | wp_step))
  obtain ⟨_, _, he⟩ := x.there
  show wpAny _ _ (getattributeRaised _ _ _ _ _ _ _) _ _ _
  unfold getattributeRaised
  repeat (any_goals (first | assumption | wp_step))
  exact q h' tk' x.keeps
end
section
variable {prog : Program} {w : World} {K : Type} [DecidableEq K] {knd : KeyKind prog w K} {A : Around} {R : Result → Shared → Prop}
def PairIs (knd : KeyKind prog w K) (h : Heap) (d I : Addr) (kv : K × Value) (v : Value) : Prop := ∃ p key, v = .ref p ∧ knd.is kv.1 key = true ∧ h.IsTuple p #[key, kv.2] ∧ p ≠ d ∧ p ≠ I
theorem PairIs.keep {h h' : Heap} {d I : Addr} {kv : K × Value} {v : Value} (x : PairIs knd h d I kv v) (hk : ∀ b o, b ≠ I → b ≠ d → h.get? b = some o → h'.get? b = some o) : PairIs knd h' d I kv v := by
  obtain ⟨p, key, e, z, ⟨o, ho, r⟩, n1, n2⟩ := x
  exact ⟨p, key, e, z, ⟨o, hk p o n2 n1 ho, r⟩, n1, n2⟩
theorem stored_len (a : List (K × Value)) (k : K) (v : Value) : (stored a k v).length ≤ a.length + 1 := by
  unfold stored
  split
  · rw [List.length_map]; omega
  · rw [List.length_append]; exact Nat.le_refl _
theorem dict_loop {I l d : Addr} (hne : l ≠ I) (hd1 : d ≠ I) (hd2 : d ≠ l) (hh : A.handled = none) (items : Array Value) :
    ∀ (kvs : List (K × Value)) (vs : List Value) (j : Nat) (s : Shared) (acc : List (K × Value)), items.toList.drop j = vs → vs.length = kvs.length → (∀ (i : Nat) kv v, kvs[i]? = some kv → vs[i]? = some v → PairIs knd s.heap d I kv v) →
      s.heap.IsListIter I l j → s.heap.IsList l items → s.heap.DictOf knd d acc → acc.length + kvs.length ≤ sizeLine →
      (∀ h' tk, h'.DictOf knd d (merged acc kvs) → (∀ b o, b ≠ I → b ≠ d → s.heap.get? b = some o → h'.get? b = some o) → R (.ok (.ret .none)) { s with heap := h', toks := tk }) →
      codeAny (model prog w) A (.builtin "dict.update.loop" ⟨[.ref d, .ref I, rawInt j, .none], []⟩) R s
  | [], vs, j, s, acc, hv, hl, _, st, il, hm, _, hR => by
    have W := Walks.list (prog := prog) (w := w) (A := A.in1) hh I l hne items
    have e0 : vs = [] := List.length_eq_zero_iff.mp hl
    have hj : items.size ≤ j := by
      have := congrArg List.length hv
      rw [e0, List.length_drop, Array.length_toList] at this
      exact Nat.le_of_sub_eq_zero this
    refine codeAny_builtin F.ul_entry ?_
    rw [Around.under_plainId F.ul_plain _]
    show wpAny _ A.in1 (pyNext (.ref I) >>= _) _ _ s
    refine wpAny_bind (wpAny_pyNext_list_end (A := A.in1) hh st il (by simpa using hj) fun h' he => ?_)
    show wpAny _ A.in1 (Builtin.Dict.addKeywords d [] >>= fun _ => ret .none) _ _ _
    refine wpAny_bind (wpAny_pure (wpAny_pure ?_))
    exact hR h' s.toks (by obtain ⟨o, es, ep, ho, r⟩ := hm; exact ⟨o, es, ep, he d o hd1 ho, r⟩) fun b o b1 b2 e => he b o b1 e
  | kv :: kvs, vs, j, s, acc, hv, hl, hp, st, il, hm, hz, hR => by
    obtain ⟨v, vs', rfl⟩ : ∃ v vs', vs = v :: vs' := by
      cases vs with
      | nil => cases hl
      | cons v vs' => exact ⟨v, vs', rfl⟩
    have hjl : j < items.size := by
      have := congrArg List.length hv
      rw [List.length_drop, Array.length_toList, List.length_cons] at this
      omega
    have hit : items[j]? = some v := by
      have := congrArg (fun l : List Value => l[0]?) hv
      simp only [List.getElem?_drop, Nat.add_zero, List.getElem?_cons_zero, Array.getElem?_toList] at this
      exact this
    have hv' : items.toList.drop (j + 1) = vs' := by rw [← List.drop_drop, hv]; rfl
    rw [List.length_cons] at hz
    obtain ⟨p, key, rfl, hkey, ⟨o, ho, hc, n, hdat⟩, n1, n2⟩ := hp 0 kv v rfl rfl
    refine codeAny_builtin F.ul_entry ?_
    rw [Around.under_plainId F.ul_plain _]
    show wpAny _ A.in1 (pyNext (.ref I) >>= _) _ _ s
    refine wpAny_bind (wpAny_pyNext_list_item (A := A.in1) st il (x := .ref p) hit fun h' st' hs => ?_)
    have k1 : ∀ b ob, b ≠ I → s.heap.get? b = some ob → h'.get? b = some ob := fun b ob hb e => hs.extBut b ob hb e
    have ho1 := k1 p o n2 ho
    have hm1 : h'.DictOf knd d acc := by obtain ⟨o', es, ep, ho', r⟩ := hm; exact ⟨o', es, ep, k1 d o' hd1 ho', r⟩
    have il1 : h'.IsList l items := by obtain ⟨o', ho', r⟩ := il; exact ⟨o', k1 l o' hne ho', r⟩
    show wpAny _ A.in1 (holding [.ref p] _ >>= _) _ _ _
    refine wpAny_bind (wpAny_holding ?_)
    refine wpAny_bind (wpAny_tryCatch ?_)
    unfold Builtin.Dict.pairItems
    refine wpAny_bind (wpAny_typeOf (show Shared.TypeIs { s with heap := h' } (.ref p) "tuple" from ⟨o, ho1, hc⟩) ?_)
    rw [if_pos (by decide)]
    refine wpAny_bind (wpAny_seqItems ho1 hdat (wpAny_pure ?_))
    show wpAny _ A.in1 (holding [key, kv.2] (dictSet d key kv.2)) _ _ _
    refine wpAny_holding (wpAny_dictSet_pairs hkey hm1 (fun h2 hm2 hs2 => ?_) (by omega))
    refine wpAny_pure ⟨plainId_quiet F.ul_plain _, ?_⟩
    have k2 : ∀ b ob, b ≠ I → b ≠ d → s.heap.get? b = some ob → h2.get? b = some ob := fun b ob b1 b2 e => (hs2.2 b b2).trans (k1 b ob b1 e)
    have hlen := stored_len acc kv.1 kv.2
    refine dict_loop hne hd1 hd2 hh items kvs vs' (j + 1) _ (stored acc kv.1 kv.2) hv' (by simpa using hl) (fun i kv' v' e1 e2 => (hp (i + 1) kv' v' e1 e2).keep k2) ?_ ?_ hm2 (by omega) fun h3 tk hm3 k3 => ?_
    · obtain ⟨o', ho', r⟩ := st'; exact ⟨o', (hs2.2 I (Ne.symm hd1)).trans ho', r⟩
    · obtain ⟨o', ho', r⟩ := il1; exact ⟨o', (hs2.2 l (Ne.symm hd2)).trans ho', r⟩
    · exact hR h3 tk hm3 fun b ob b1 b2 e => k3 b ob b1 b2 (k2 b ob b1 b2 e)
end
section
variable {prog : Program} {w : World} {K : Type} [DecidableEq K] {knd : KeyKind prog w K} {A : Around} {E : Value → Shared → Prop} {s : Shared}
theorem call_dict_pairs {l : Addr} {items : Array Value} {n : Nat} {sl : Array (Option Value)} {kvs : List (K × Value)} {Q : Value → Shared → Prop} (hh : A.handled = none) (hl : s.heap.get? l = some { cls := .type "list", dict := none, data := .seq items n, slots := sl }) (hn : items.size = kvs.length)
    (hp : ∀ (i : Nat) kv v, kvs[i]? = some kv → items[i]? = some v → ∃ p key, v = .ref p ∧ knd.is kv.1 key = true ∧ s.heap.IsTuple p #[key, kv.2]) (hz : kvs.length ≤ sizeLine)
    (q : ∀ h' tk, h'.DictOf knd s.heap.objs.size (merged [] kvs) → (∀ b o, s.heap.get? b = some o → h'.get? b = some o) → Q (.ref s.heap.objs.size) { s with heap := h', toks := tk }) : wpAny (model prog w) A (call (.type "dict") [.ref l]) Q E s := by
  refine callType_codes (Q₁ := fun z t => z = .ref s.heap.objs.size ∧ t = { s with heap := s.heap.push { cls := .type "dict", data := .dict #[] } }) F.kt_called_dict (F.kt_typeCall_dict_1 _) F.entry_dict_init (kt_code_dict_new _ ⟨rfl, rfl⟩) ?_
  rintro z t ⟨rfl, rfl⟩
  have hm : (s.heap.push { cls := .type "dict", data := .dict #[] }).DictOf knd s.heap.objs.size [] := Heap.DictOf.new s.heap
  have k0 : ∀ b o, s.heap.get? b = some o → (s.heap.push { cls := .type "dict", data := .dict #[] }).get? b = some o := fun b o e => Heap.get?_push_of_some _ e
  have hl0 := k0 l _ hl
  refine ⟨hm.typeIs, F.args_dict_init_2 _ _, ?_⟩
  unfold Builtin.«dict.__init__»
  refine wpAny_bind ?_
  unfold Builtin.Dict.selfAndRest
  refine wpAny_bind (wpAny_notOrdered_dict hm.typeIs ?_)
  show wpAny _ _ (pure (s.heap.objs.size, [Value.ref l])) _ _ _
  refine wpAny_pure ?_
  show wpAny _ _ (Builtin.Dict.updateFrom "dict.__init__" s.heap.objs.size (.ref l) [] .none) _ _ _
  unfold Builtin.Dict.updateFrom
  refine wpAny_bind (wpAny_typeOf (show Shared.TypeIs { s with heap := s.heap.push { cls := .type "dict", data := .dict #[] } } (.ref l) "list" from ⟨_, hl0, rfl⟩) ?_)
  rw [if_pos (by decide)]
  refine wpAny_bind (list_keys_none (A := A.in1.in1) hl0 hh fun h1 tk1 k1 => ?_)
  rw [if_pos (show (none : Option Value).isNone = true from rfl)]
  have hl1 := k1 l _ hl0
  have il1 : h1.IsList l items := ⟨_, hl1, rfl, n, rfl⟩
  refine wpAny_bind (wpAny_rule (wpAny_bind (wpAny_pyIter_list il1 ?_)))
  have k2 : ∀ b o, s.heap.get? b = some o → (h1.push { cls := .type "list_iterator", data := .fields #[.ref l, .int 0 0] }).get? b = some o := fun b o e => Heap.get?_push_of_some _ (k1 b o (k0 b o e))
  have e1 := Heap.lt_size hl
  have e2 : s.heap.objs.size < h1.objs.size := by obtain ⟨o, es, ep, ho, r⟩ := hm; exact Heap.lt_size (k1 _ o ho)
  refine wpAny_pure ⟨plainId_quiet F.ul_plain _, ?_⟩
  refine dict_loop (A := A.in1) (knd := knd) (l := l) (I := h1.objs.size) (Nat.ne_of_lt (Nat.lt_trans e1 e2)) (Nat.ne_of_lt e2) (Nat.ne_of_gt e1) hh items kvs items.toList 0 _ [] rfl (by rw [Array.length_toList]; exact hn) (fun i kv v p1 p2 => ?_) ⟨_, Heap.get?_push_size _ rfl, rfl, rfl⟩ ⟨_, k2 l _ hl, rfl, n, rfl⟩ (by obtain ⟨o, es, ep, ho, r⟩ := hm; exact ⟨o, es, ep, Heap.get?_push_of_some _ (k1 _ o ho), r⟩) (by simpa using hz) fun h' tk hm' k3 => ⟨rfl, q h' tk hm' fun b o e => ?_⟩
  · obtain ⟨p, key, ev, z, ⟨o, ho, r⟩⟩ := hp i kv v p1 (by rw [← Array.getElem?_toList]; exact p2)
    have e3 := Heap.lt_size ho
    exact ⟨p, key, ev, z, ⟨o, k2 p o ho, r⟩, Nat.ne_of_lt e3, Nat.ne_of_lt (Nat.lt_trans e3 e2)⟩
  · have e3 := Heap.lt_size e
    exact k3 b o (Nat.ne_of_lt (Nat.lt_trans e3 e2)) (Nat.ne_of_lt e3) (k2 b o e)
end
end PySem
namespace L2
open PySem PySem.Spec PyProof.Rows
theorem putK_len (a : List (Key × V)) (k : Key) (v : V) : (putK a k v).length ≤ a.length + 1 := by
  unfold putK
  split
  · rw [List.length_map]; omega
  · rw [List.length_append]; exact Nat.le_refl _
theorem mergeK_len : ∀ (more acc : List (Key × V)), (mergeK acc more).length ≤ acc.length + more.length
  | [], acc => Nat.le_refl _
  | kv :: more, acc => by
    have h1 := mergeK_len more (putK acc kv.1 kv.2)
    have h2 := putK_len acc kv.1 kv.2
    show (mergeK (putK acc kv.1 kv.2) more).length ≤ acc.length + (more.length + 1)
    omega
def PrV (K : PySem.W.Frag) (H : Hp) : List V → List (Key × V) → Prop
  | [], kvs => kvs = []
  | y :: ys, kvs => ∃ kv r p, kvs = kv :: r ∧ y = .ref p ∧ SqT K H p [kV kv.1, kv.2] ∧ PrV K H ys r
section
variable {X : Cx}
theorem prs_read {pins : List (Addr × Obj)} {σ : St} {H : Hp} {s : Shared} (I : Inv X pins σ H s) : ∀ {ys : List V} {kvs : List (Key × V)} {its : List Value}, PrV X.K H ys kvs → Vals ys its → ∃ ks : List (Key × Value), KV kvs ks ∧ its.length = ks.length ∧ ∀ (i : Nat) kv v, ks[i]? = some kv → its[i]? = some v → ∃ pp key, v = .ref pp ∧ (mixKind X.prog X.w).is kv.1 key = true ∧ s.heap.IsTuple pp #[key, kv.2]
  | [], kvs, _, h, .nil => by
    cases (show kvs = [] from h)
    exact ⟨[], .nil, rfl, fun i kv v e => by cases e⟩
  | y :: ys, kvs, _, h, .cons ry rr => by
    obtain ⟨kv, r, p, rfl, rfl, sq, hr⟩ := h
    obtain ⟨ks, h1, h2, h3⟩ := prs_read I hr rr
    obtain ⟨its2, r2, it, _⟩ := I.tuple sq
    obtain ⟨key, u, rfl, rk, ru⟩ := vals2 r2
    cases ry
    refine ⟨(kv.1, u) :: ks, .cons ⟨rfl, ru⟩ h1, by rw [List.length_cons, List.length_cons, h2], fun i kv' v e1 e2 => ?_⟩
    cases i with
    | zero =>
      cases e1; cases e2
      exact ⟨p, key, rfl, kV_is rk, it⟩
    | succ i => exact h3 i kv' v e1 e2
theorem call_dict_prs (hc : X.calm = true) : CallR X (.type "dict") (fun xs H Q => ∃ p ys kvs, xs = [.ref p] ∧ SqL X.K H p ys ∧ PrV X.K H ys kvs ∧ ∀ q, H q = none → Q (.ref q) (upd H q (.dK (mergeK [] kvs)))) := by
  intro pins s σ H xs us Q I r h
  obtain ⟨p, ys, kvs, rfl, hq, hp, q⟩ := h
  obtain ⟨u, rfl, rx⟩ := vals1 r
  cases rx
  obtain ⟨its, r', ⟨o, n, ho, hcl, hdc, hdt⟩, hz⟩ := I.list hq
  obtain ⟨ks, h1, h2, h3⟩ := prs_read I hp r'
  obtain ⟨c, dc, dt, sl⟩ := o
  simp only at hcl hdc hdt
  subst hcl hdc hdt
  have l1 := r'.length
  have l2 := h1.length
  refine call_dict_pairs (knd := mixKind X.prog X.w) (items := its.toArray) (kvs := ks) (I.ok.hd hc) ho (by simpa using h2) (fun i kv v e1 e2 => h3 i kv v e1 (by simpa using e2)) (by omega) fun h' tk hm hk => ?_
  have lz := mergeK_len kvs []
  refine ⟨.ref s.heap.objs.size, _, I.laid (t' := tk) hk (Nat.le_refl _) (show ObjOk X.prog X.w _ h' _ (.dK (mergeK [] kvs)) from ⟨by simp only [List.length_nil] at lz; omega, ?_, _, KV.merge h1 .nil, hm⟩), rfl, q _ (I.hok.fresh (Nat.le_refl _))⟩
  have := I.big
  exact beq_eq_false_iff_ne.mpr (Nat.ne_of_gt this)
end
end L2
namespace PD
open PySem PySem.Spec PyProof.Rows L2
def prsD : List D → Option (List (KD × D))
  | [] => some []
  | .tup [k, v] :: r => match keyD k, prsD r with
    | some k', some r' => some ((k', v) :: r')
    | _, _ => none
  | _ => none
def fDcp : Sto → List D → R D
  | S, [d] => match isLst S d with
    | some a => match prsD a with
      | some kvs => .ok (.ref S.length) (S ++ [.dic (mergeD [] kvs)])
      | none => .bad
    | none => .bad
  | _, _ => .bad
section
variable {X : Cx} {E : XK}
theorem prs_ok {w : Wd} {H : Hp} : ∀ {a : List D} {vs : List V} {kvs : List (KD × D)}, RDs X.K w H a vs → prsD a = some kvs → ∃ us, PrV X.K H vs us ∧ RDk X.K w H kvs us
  | [], vs, kvs, q, h => by
    cases h
    rw [q.nil_inv]
    exact ⟨[], rfl, .nil⟩
  | d :: a, vs, kvs, q, h => by
    unfold prsD at h
    split at h
    · rename_i e; cases e
    · rename_i k v r e
      cases e
      split at h
      · rename_i k' r' e1 e2
        cases h
        obtain ⟨y, ys, rfl, q1, q2⟩ := q.cons_inv
        obtain ⟨us, p1, p2⟩ := prs_ok q2 e2
        obtain ⟨p, zs, rfl, sq, qz⟩ := q1.tupI
        obtain ⟨z1, z2, rfl, qk, qv⟩ := qz.two_inv
        have ek := keyD_ok qk e1
        subst ek
        exact ⟨(k', z2) :: us, ⟨(k', z2), us, p, rfl, rfl, SqT_of sq, p1⟩, .cons qv p2⟩
      · cases h
    · cases h
theorem xc_dcp (hc : X.calm = true) : CallR X (.type "dict") (xCR X.K E fDcp) := by
  rintro pins s σ H xs us Q I r ⟨w, S, ds, hS, qs, p⟩
  unfold fDcp at p
  split at p
  · rename_i d
    obtain ⟨v, rfl, q⟩ := qs.one_inv
    split at p
    · rename_i a ha
      split at p
      · rename_i kvs hk
        obtain ⟨pa, vs, rfl, sq, ra⟩ := lst_at hS q ha
        obtain ⟨uk, p1, p2⟩ := prs_ok ra hk
        exact call_dict_prs hc pins s σ H _ us Q I r ⟨pa, vs, uk, rfl, sq, p1, fun t ht => Post.at p (Ext.alloc ht) hS.lastRef (hS.alloc ht ⟨_, upd_same, RDk.ext (Ext.alloc ht) _ _ (RDk.merge p2 .nil)⟩)⟩
      · exact p.elim
    · exact p.elim
  · exact p.elim
end
end PD
namespace L2
open PySem PySem.Spec PyProof.Rows
section
variable {X : Cx}
end
end L2
namespace PD
open PySem PySem.Spec PyProof.Rows L2
section
variable {X : Cx} {E : XK}
variable {d : Expr} {md : EM} {x : Str} {p pos0 apos pos : Pos}
end
section
variable {X : Cx} {E : XK}
end
end PD
namespace PD
open PySem PySem.Spec PyProof.Rows L2
section
variable {K : PySem.W.Frag} {w w' : Wd} {H H' : Hp}
end
section
variable {X : Cx} {E : XK} {c f m x : Str} {a b o v : Expr} {ma mo mv : EM} {es : List Expr} {ms : AM} {k n : Nat} {F : FM} {p pos apos tpos : Pos}
end
section
variable {P : Program} {w : World} {K : PySem.W.Frag} {mg : Str → Option Value} {base : Heap}
end
end PD
namespace PD
open PySem PySem.Spec PyProof.Rows L2
section
variable {X : Cx} {E : XK} {o : Expr} {mo : EM} {apos cpos : Pos}
end
end PD
namespace PD
open PySem PySem.Spec PyProof.Rows L2
section
variable {X : Cx} {E : XK} {a b c : Expr} {ma mb mc : EM} {pos : Pos}
end
end PD
namespace PD
open PySem PySem.Spec PyProof.Rows L2
section
variable {X : Cx} {E : XK}
end
end PD
namespace PD
open PySem PySem.Spec PyProof.Rows L2
open AutoSeq1 (wpAny_loadPart')
open MeetsSeq MeetsSeq2 MeetsSeq3 SeqRoads2 PySem.SeqAt
section
variable {X : Cx} {E : XK} {pins : List (Addr × Obj)} {σ : L2.St} {H : Hp} {s : Shared}
end
section
variable {X : Cx} {E : XK}
end
section
variable {X : Cx} {E : XK}
variable {d : Expr} {md : EM} {x : Str} {p pos0 apos pos : Pos}
end
end PD
namespace PD
open PySem PySem.Spec PyProof.Rows L2
section
variable {X : Cx} {E : XK} {a b : Expr} {pos : Pos}
end
end PD
namespace PySem
open PyProof.Rows
section
variable {prog : Program} {w : World} {A : Around} {E : Value → Shared → Prop} {s : Shared} {K : Type} [DecidableEq K] {knd : KeyKind prog w K}
theorem dict_eq_body {a b : Addr} {vs vs' : List (K × Value)} {ep ep' : Nat} {Q : Value → Shared → Prop} (ha : (a == sysModules) = false) (hb : (b == sysModules) = false) (dA : s.heap.DictAt knd a vs ep) (dB : s.heap.DictAt knd b vs' ep')
    (iA : ∀ kv ∈ vs, ∃ n t, kv.2 = .int n t) (iB : ∀ kv ∈ vs', ∃ n t, kv.2 = .int n t) (h : Q (.bool (samePs vs vs')) s) : wpAny (model prog w) A (Builtin.«dict.__eq__» ⟨[.ref a, .ref b], []⟩) (fun fin s' => ∃ v, fin = .done (.ret v) ∧ v ≠ .notImplemented ∧ Q v s') E s := by
  have hT := dA.dictOf.typeIs
  have hT' := dB.dictOf.typeIs
  show wpAny _ A (Builtin.Dict.dictSlotArgs "__eq__" ⟨[.ref a, .ref b], []⟩ >>= _) _ _ s
  unfold Builtin.Dict.dictSlotArgs
  refine wpAny_bind (wpAny_bind (wpAny_notOrdered_dict hT ?_))
  refine wpAny_bind (wpAny_of_eq (a := (Value.ref a, [Value.ref b])) rfl ?_)
  refine wpAny_pure ?_
  refine wpAny_bind (wpAny_isInstance hT' (b := true) F.sub_dict_dict ?_)
  rw [if_neg (by decide)]
  refine wpAny_bind (wpAny_of_eq (a := a) rfl ?_)
  refine wpAny_bind (wpAny_of_eq (a := b) rfl ?_)
  refine wpAny_bind (same_pairs ha hb dA dB iA iB ?_)
  refine wpAny_pure ⟨_, rfl, (fun z => by cases z), ?_⟩
  have e : (samePs vs vs' == true) = samePs vs vs' := by cases samePs vs vs' <;> rfl
  first | exact h | (rw [e]; exact h)
theorem dict_eq {a b : Addr} {vs vs' : List (K × Value)} {ep ep' : Nat} {Q : Value → Shared → Prop} (ha : (a == sysModules) = false) (hb : (b == sysModules) = false) (dA : s.heap.DictAt knd a vs ep) (dB : s.heap.DictAt knd b vs' ep')
    (iA : ∀ kv ∈ vs, ∃ n t, kv.2 = .int n t) (iB : ∀ kv ∈ vs', ∃ n t, kv.2 = .int n t) (hu : A.units < cLine) (h : Q (.bool (samePs vs vs')) s) : wpAny (model prog w) A (compareOp .Eq (.ref a) (.ref b)) Q E s := by
  have hT : s.TypeIs (.ref a) "dict" := dA.dictOf.typeIs
  have hT' : s.TypeIs (.ref b) "dict" := dB.dictOf.typeIs
  have hc : wpAny (model prog w) A (call (.builtin "dict.__eq__") [.ref a, .ref b]) (fun v s' => v ≠ .notImplemented ∧ Q v s') E s := wpAny_call_entry F.slot_dict_eq hT F.entry_dict_eq (dict_eq_body ha hb dA dB iA iB h) (F.args_dict_eq_2 _ _)
  have hr : wpAny (model prog w) A (richCompare .Eq (.ref a) (.ref b)) Q E s := wpAny_richCompare_same_room (op := .Eq) (T := "dict") (id := "dict.__eq__") hT hT' F.slot_dict_eq hc hu
  exact hr
end
end PySem
namespace PD
open PySem PySem.Spec PyProof.Rows L2
def oEqD : Sto → D → D → Option D := fun S x y => match dicOf S x, dicOf S y with
  | some k1, some k2 => match intsT k1, intsT k2 with
    | some T1, some T2 => some (.bl (sameT T1 T2))
    | _, _ => none
  | _, _ => oEqP S x y
section
variable {X : Cx} {E : XK}
theorem xo_eqD {k : Nat} (hr : Room k X.A) : OpR X (compareOp .Eq) (xO X.K E oEqD) := by
  rintro pins s σ H x y v u Q I rx ry ⟨w, S, d, e, hS, qd, qe, p⟩
  obtain ⟨z, hz, p'⟩ := p.of
  unfold oEqD at hz
  split at hz
  · rename_i k1 k2 h1 h2
    split at hz
    · rename_i T1 T2 t1 t2
      cases hz
      obtain ⟨pp, us, rfl, rd, rk⟩ := dic_at hS qd h1
      obtain ⟨pp2, us2, rfl, rd2, rk2⟩ := dic_at hS qe h2
      cases rx
      cases ry
      obtain ⟨zl, hs1, vs, rel, ⟨o, es, ep, ho⟩⟩ := rd.ok I.hok
      obtain ⟨zl2, hs2, vs2, rel2, ⟨o2, es2, ep2, ho2⟩⟩ := rd2.ok I.hok
      have v1 := vt_of t1 rk rel
      have v2 := vt_of t2 rk2 rel2
      refine dict_eq (knd := mixKind X.prog X.w) hs1 hs2 ⟨o, es, ho⟩ ⟨o2, es2, ho2⟩ v1.ints v2.ints (by have := hr.units; omega) ?_
      rw [v1.same v2]
      exact ⟨.bl _, H, I, rfl, p'.ret RD.mkB hS⟩
    · cases hz
  · rename_i hnn
    exact xo_eqP hr pins s σ H x y v u Q I rx ry ⟨w, S, d, e, hS, qd, qe, by
      have : oEqD S d e = oEqP S d e := by
        unfold oEqD
        split
        · rename_i k1 k2 h1 h2
          exact (hnn k1 k2 h1 h2).elim
        · rfl
      rw [← this]; exact p⟩
end
end PD
namespace L2
open PySem PySem.Spec PyProof.Rows
section
variable {X : Cx}
theorem call_dict_dict : CallR X (.type "dict") (fun xs H Q => ∃ p kvs, xs = [.ref p] ∧ Rd H p (.dK kvs) ∧ ∀ q, H q = none → Q (.ref q) (upd H q (.dK kvs))) := by
  intro pins s σ H xs us Q I r h
  obtain ⟨p, kvs, rfl, rd, q⟩ := h
  obtain ⟨u, rfl, rx⟩ := vals1 r
  cases rx
  obtain ⟨z, hdd, vs, rel, dd⟩ := dk_rd I.hok rd
  refine kt_call_dict (knd := mixKind X.prog X.w) hdd dd (by rw [← rel.length]; exact z) fun h' d' hs => ?_
  have keep : ∀ b o, s.heap.get? b = some o → h'.get? b = some o := fun b o e => by
    rw [hs.2 b (Nat.ne_of_lt (Heap.lt_size e))]
    exact Heap.get?_push_of_some _ e
  exact ⟨.ref _, _, I.laid (t' := s.toks) (a := s.heap.objs.size) keep (Nat.le_refl _) (dk_new z (beq_eq_false_iff_ne.mpr (Ne.symm (Nat.ne_of_lt I.big))) rel d'), rfl, q _ (I.hok.fresh (Nat.le_refl _))⟩
end
end L2
namespace PD
open PySem PySem.Spec PyProof.Rows L2
def fDcd : Sto → List D → R D
  | S, [d] => match dicOf S d with
    | some kvs => .ok (.ref S.length) (S ++ [.dic kvs])
    | none => .bad
  | _, _ => .bad
def fIsiF : Sto → List D → Option D
  | S, [.ref n, .ty T] => match S[n]? with
    | some (.fdic _) => if T ∈ isiTys then some (.bl ("dict" == T || ("dict" == "bool" && T == "int"))) else none
    | _ => fIsi S [.ref n, .ty T]
  | S, ds => fIsi S ds
section
variable {X : Cx} {E : XK} {d : Expr} {md : EM} {apos pos : Pos}
theorem xc_dcd : CallR X (.type "dict") (xCR X.K E fDcd) := by
  rintro pins s σ H xs us Q I r ⟨w, S, ds, hS, qs, p⟩
  unfold fDcd at p
  split at p
  · rename_i d
    obtain ⟨v, rfl, q⟩ := qs.one_inv
    split at p
    · rename_i kvs hk
      obtain ⟨pp, uk, rfl, rd, rk⟩ := dic_at hS q hk
      exact call_dict_dict pins s σ H _ us Q I r ⟨pp, uk, rfl, rd, fun t ht => Post.at p (Ext.alloc ht) hS.lastRef (hS.alloc ht ⟨_, upd_same, RDk.ext (Ext.alloc ht) _ _ rk⟩)⟩
    · exact p.elim
  · exact p.elim
theorem xc_isiF : CallR X (.builtin "isinstance") (xC X.K E fIsiF) := by
  rintro pins s σ H xs us Q I r ⟨w, S, ds, hS, qs, p⟩
  obtain ⟨z, hz, p'⟩ := p.of
  by_cases hf : ∃ n T kvs, ds = [.ref n, .ty T] ∧ S[n]? = some (.fdic kvs)
  · obtain ⟨n, T, kvs, rfl, hn⟩ := hf
    unfold fIsiF at hz
    simp only [hn] at hz
    split at hz
    · rename_i hT
      cases hz
      obtain ⟨v, u, rfl, q, q'⟩ := qs.two_inv
      unfold RD at q'
      subst q'
      obtain ⟨v1, v2, rfl, rv, rt⟩ := vals2 r
      cases (show v2 = Value.type T from rt)
      obtain ⟨pp, rfl, hpp⟩ := q.refI
      obtain ⟨p1, hp1, o, uk, hv, ra⟩ := hS.obj _ _ hn
      rw [hpp] at hp1; cases hp1
      cases (show v1 = Value.ref pp from rv)
      obtain ⟨zz, hdd, vs, rel, ⟨ob, es, ep, ho, hcl, _⟩⟩ := dk_rd I.hok (.inr ⟨o, hv⟩ : Rd H pp (.dK uk))
      have kk := kit_ok X.K (t := "dict") (T := T) (by simp) hT
      exact PySem.W.kia_one PySem.W.kitx_dict I.kIn ⟨ob, ho, hcl.1⟩ kk (fun z => nomatch z) fun tk => ⟨.bl _, H, I.tok tk, rfl, p'.ret RD.mkB hS⟩
    · cases hz
  · have e : fIsiF S ds = fIsi S ds := by
      unfold fIsiF
      split
      · rename_i n T
        split
        · rename_i kvs hn
          exact (hf ⟨n, T, kvs, rfl, hn⟩).elim
        · rfl
      · rfl
    exact xc_isi pins s σ H xs us Q I r ⟨w, S, ds, hS, qs, by rw [← e]; exact p⟩
end
section
variable {X : Cx} {E : XK}
end
end PD
namespace PD
open PySem PySem.Spec PyProof.Rows L2
section
variable {X : Cx} {E : XK}
end
end PD
namespace L2
open PySem PySem.Spec PyProof.Rows
section
variable {X : Cx}
end
end L2
namespace PD
open PySem PySem.Spec PyProof.Rows L2
section
variable {X : Cx} {E : XK}
end
section
variable {X : Cx} {E : XK}
end
end PD
namespace PD
open PySem PySem.Spec PyProof.Rows L2
end PD
namespace Lw
open PySem PySem.Spec PyProof.Rows L2 PD
def raisedX : List Str := []
def askedX : List Str := []
def isaX (c k : Str) : Bool := c == k || k == "PlusError"
def top (i : Nat) : Stmt := PySem.Challenge.pw_plusless_k75_whole_rows_and_tables.main.body.getD i (.Pass ⟨0, 0, 0, 0⟩)
abbrev st__law_box : Stmt := top 47
noncomputable def m__law_box : SM := (sSeq (sSet 2 (eOp oAdd (eOp oMul (eC (.int 7919)) (eVar 1)) (eC (.int 13)))) (sSeq (sIf (tV (eOp oLt (eVar 1) (eB fLen (aCons (eVar 0) aNil)))) (sSet 2 (eOp oIx (eVar 0) (eVar 1))) sSkip) (sSeq (sIf (tV (eOp oEqP (eOp oMod (eVar 2) (eC (.int 2))) (eC (.int 0)))) (sRet (eNew (aCons (eOp oFdiv (eVar 2) (eC (.int 2))) aNil))) sSkip) (sSeq (sSet 3 (eC (.int 0))) (sSeq (sFor (aRange1 (aCons (eC (.int 16)) aNil)) (.nm 4) (sSeq (sSet 5 (eOp oMod (eOp oAdd (eOp oAdd (eOp oMul (eOp oMod (eVar 2) (eC (.int 2147483647))) (eC (.int 48271))) (eOp oMul (eC (.int 7919)) (eVar 4))) (eC (.int 1))) (eC (.int 2147483647)))) (sSeq (sSet 5 (eOp oMod (eOp oMul (eVar 5) (eVar 5)) (eC (.int 2147483629)))) (sSet 3 (eOp oAdd (eOp oMul (eVar 3) (eC (.int 2147483647))) (eOp oMod (eOp oMul (eVar 5) (eOp oAdd (eVar 5) (eC (.int 13)))) (eC (.int 2147483647)))))))) (sRet (eNew (aCons (eVar 3) aNil))))))))
noncomputable def F__law_box : FM := fnM 6 m__law_box
abbrev st__law_take : Stmt := top 48
noncomputable def m__law_take : SM := (sSeq (sAsg (.tp [(.nm 2), (.nm 3)]) (eB fDivmod (aCons (eOp oIx (eVar 0) (eC (.int 0))) (aCons (eVar 1) aNil)))) (sSeq (sPut fPut (eVar 2) (eVar 0) (eC (.int 0))) (sRet (eVar 3))))
noncomputable def F__law_take : FM := fnM 4 m__law_take
abbrev st__law_order : Stmt := top 50
noncomputable def m__law_order : SM := (sSeq (sSet 2 (eBR fLrgR (aCons (eVar 1) aNil))) (sRet (eB fTuple (aCons (eComp (aRange1 (aCons (eVar 1) aNil)) 1 [2, 0] (.nm 0) tTrue (eMtL mPopAt (eVar 1) (aCons (eCall F__law_take (aCons (eVar 2) (aCons (eB fLen (aCons (eVar 1) aNil)) aNil))) aNil))) aNil))))
noncomputable def F__law_order : FM := fnM 3 m__law_order
abbrev st_is_whole : Stmt := top 9
noncomputable def m_is_whole : SM := (sRet (eAnd (eB fIsi (aCons (eVar 0) (aCons (eC (.ty "int")) aNil))) (eNot (eB fIsi (aCons (eVar 0) (aCons (eC (.ty "bool")) aNil))))))
noncomputable def F_is_whole : FM := fnM 1 m_is_whole
abbrev st_is_table : Stmt := top 22
noncomputable def m_is_table : SM := (sSeq (sIf (PD.tOr (PD.tNot (tV (eB fIsiF (aCons (eVar 0) (aCons (eC (.ty "dict")) aNil))))) (tV (eOp oEqD (eVar 0) (eDic [])))) (sRet (eC (.bl false))) sSkip) (sRet (eB fAll (aCons (eComp (aItems (eVar 0)) 2 [] (.tp [(.nm 0), (.nm 1)]) tTrue (eAnd (eCall F_is_whole (aCons (eVar 0) aNil)) (eAnd (eCall F_is_whole (aCons (eVar 1) aNil)) (eOp oGe (eVar 1) (eC (.int 1)))))) aNil))))
noncomputable def F_is_table : FM := fnM 1 m_is_table
abbrev st_need_table_n : Stmt := top 23
noncomputable def m_need_table_n : SM := (sIf (PD.tNot (tV (eCall F_is_table (aCons (eVar 0) aNil)))) sBad sSkip)
noncomputable def F_need_table_n : FM := fnM 1 m_need_table_n
abbrev st_multiplied_n : Stmt := top 24
noncomputable def m_multiplied_n : SM := (sSeq (sDrop (eCall F_need_table_n (aCons (eVar 0) aNil))) (sSeq (sDrop (eCall F_need_table_n (aCons (eVar 1) aNil))) (sSeq (sSet 2 eDicE) (sSeq (sFor (aItems (eVar 0)) (.tp [(.nm 3), (.nm 4)]) (sFor (aItems (eVar 1)) (.tp [(.nm 5), (.nm 6)]) (sSeq (sSet 7 (eOp oAdd (eVar 3) (eVar 5))) (sPut fPutD (eOp oAdd (eGet2 (eVar 2) (eVar 7) (eC (.int 0))) (eOp oMul (eVar 4) (eVar 6))) (eVar 2) (eVar 7))))) (sRet (eVar 2))))))
noncomputable def F_multiplied_n : FM := fnM 8 m_multiplied_n
abbrev st_is_row : Stmt := top 11
noncomputable def m_is_row : SM := (sSeq (sIf (PD.tOr (PD.tNot (tV (eB fIsi (aCons (eVar 0) (aCons (eC (.ty "tuple")) aNil))))) (tV (eOp oGt (eB fLen (aCons (eVar 0) aNil)) (eC (.int (16)))))) (sRet (eC (.bl false))) sSkip) (sRet (eB fAll (aCons (eComp (aSeq (eVar 0) itSeq) 1 [] (.nm 0) tTrue (eAnd (eCall F_is_whole (aCons (eVar 0) aNil)) (eOp oGe (eVar 0) (eC (.int 1))))) aNil))))
noncomputable def F_is_row : FM := fnM 1 m_is_row
abbrev st_need_row_n : Stmt := top 12
noncomputable def m_need_row_n : SM := (sIf (PD.tNot (tV (eCall F_is_row (aCons (eVar 0) aNil)))) sBad sSkip)
noncomputable def F_need_row_n : FM := fnM 1 m_need_row_n
abbrev st_need_few_n : Stmt := top 34
noncomputable def m_need_few_n : SM := (sSeq (sDrop (eCall F_need_row_n (aCons (eVar 0) aNil))) (sIf (tV (eOp oGt (eB fLen (aCons (eVar 0) aNil)) (eC (.int (10))))) sBad sSkip))
noncomputable def F_need_few_n : FM := fnM 1 m_need_few_n
abbrev st_stepped : Stmt := top 35
noncomputable def m_stepped : SM := (sSeq (sSet 3 eDicE) (sSeq (sFor (aItems (eVar 0)) (.tp [(.nm 4), (.nm 5)]) (sFor (aSeq (eVar 2) itSeq) (.nm 6) (sSeq (sSet 7 (eOp oAdd (eVar 4) (eOp oMul (eVar 6) (eVar 1)))) (sPut fPutD (eOp oAdd (eGet2 (eVar 3) (eVar 7) (eC (.int 0))) (eVar 5)) (eVar 3) (eVar 7))))) (sRet (eVar 3))))
noncomputable def F_stepped : FM := fnM 8 m_stepped
abbrev st_table_of : Stmt := top 36
noncomputable def m_table_of : SM := (sSeq (sSet 2 (eDicN [((eC (.int 0)), (eC (.int 1)))])) (sSeq (sFor (aSeq (eVar 0) itSeq) (.nm 3) (sSet 2 (eCall F_stepped (aCons (eVar 2) (aCons (eVar 3) (aCons (eVar 1) aNil)))))) (sRet (eVar 2))))
noncomputable def F_table_of : FM := fnM 4 m_table_of
abbrev st_part_table_n : Stmt := top 38
noncomputable def m_part_table_n : SM := (sSeq (sDrop (eCall F_need_few_n (aCons (eVar 0) aNil))) (sRet (eCall F_table_of (aCons (eVar 0) (aCons (eC (.tup (([(-1), (0), (1)] : List Int).map .int))) aNil)))))
noncomputable def F_part_table_n : FM := fnM 1 m_part_table_n
abbrev st_divided : Stmt := top 27
noncomputable def m_divided : SM := (sSeq (sSet 3 (eBR fDcd (aCons (eVar 0) aNil))) (sSeq (sSet 4 eDicE) (sSeq (sFor (aSeq (eB fSrt (aCons (eVar 0) aNil)) itSeq) (.nm 5) (sSeq (sSet 6 (eOp oIxD (eVar 3) (eVar 5))) (sIf (tV (eOp oGt (eVar 6) (eC (.int 0)))) (sSeq (sPut fPutD (eVar 6) (eVar 4) (eOp oAdd (eVar 5) (eVar 1))) (sFor (aSeq (eVar 2) itSeq) (.nm 7) (sSeq (sIf (tV (eOp oLt (eGet2 (eVar 3) (eOp oAdd (eVar 5) (eVar 7)) (eC (.int 0))) (eVar 6))) (sRet (eC .non)) sSkip) (sPut fPutD (eOp oSub (eOp oIxD (eVar 3) (eOp oAdd (eVar 5) (eVar 7))) (eVar 6)) (eVar 3) (eOp oAdd (eVar 5) (eVar 7)))))) sSkip))) (sRet (eVar 4)))))
noncomputable def F_divided : FM := fnM 8 m_divided
abbrev st_need_number_n : Stmt := top 13
noncomputable def m_need_number_n : SM := (sIf (PD.tNot (tV (eCall F_is_whole (aCons (eVar 0) aNil)))) sBad sSkip)
noncomputable def F_need_number_n : FM := fnM 1 m_need_number_n
abbrev st_need_number_from_n : Stmt := top 14
noncomputable def m_need_number_from_n : SM := (sSeq (sDrop (eCall F_need_number_n (aCons (eVar 1) aNil))) (sIf (tV (eOp oLt (eVar 1) (eVar 0))) sBad sSkip))
noncomputable def F_need_number_from_n : FM := fnM 2 m_need_number_from_n
abbrev st_need_table_and_number_n : Stmt := top 26
noncomputable def m_need_table_and_number_n : SM := (sSeq (sDrop (eCall F_need_table_n (aCons (eVar 0) aNil))) (sDrop (eCall F_need_number_from_n (aCons (eC (.int 1)) (aCons (eVar 1) aNil)))))
noncomputable def F_need_table_and_number_n : FM := fnM 2 m_need_table_and_number_n
abbrev st_part_taken_out_n : Stmt := top 29
noncomputable def m_part_taken_out_n : SM := (sSeq (sDrop (eCall F_need_table_and_number_n (aCons (eVar 0) (aCons (eVar 1) aNil)))) (sRet (eCall F_divided (aCons (eVar 0) (aCons (eVar 1) (aCons (eTup (aCons (eVar 1) (aCons (eOp oMul (eC (.int 2)) (eVar 1)) aNil))) aNil))))))
noncomputable def F_part_taken_out_n : FM := fnM 2 m_part_taken_out_n
abbrev st_sign_table_n : Stmt := top 37
noncomputable def m_sign_table_n : SM := (sSeq (sDrop (eCall F_need_few_n (aCons (eVar 0) aNil))) (sRet (eCall F_table_of (aCons (eVar 0) (aCons (eC (.tup (([(-1), (1)] : List Int).map .int))) aNil)))))
noncomputable def F_sign_table_n : FM := fnM 1 m_sign_table_n
abbrev st_taken_out_n : Stmt := top 28
noncomputable def m_taken_out_n : SM := (sSeq (sDrop (eCall F_need_table_and_number_n (aCons (eVar 0) (aCons (eVar 1) aNil)))) (sRet (eCall F_divided (aCons (eVar 0) (aCons (eVar 1) (aCons (eTup (aCons (eOp oMul (eC (.int 2)) (eVar 1)) aNil)) aNil))))))
noncomputable def F_taken_out_n : FM := fnM 2 m_taken_out_n
abbrev st_without_n : Stmt := top 21
noncomputable def m_without_n : SM := (sSeq (sDrop (eCall F_need_row_n (aCons (eVar 0) aNil))) (sSeq (sDrop (eCall F_need_number_from_n (aCons (eC (.int 0)) (aCons (eVar 1) aNil)))) (sSeq (sIf (tV (eOp oGe (eVar 1) (eB fLen (aCons (eVar 0) aNil)))) sBad sSkip) (sRet (eOp oAdd (eSl fSlT (eVar 0) oNo (oPart (eVar 1))) (eSl fSlT (eVar 0) (oPart (eOp oAdd (eVar 1) (eC (.int 1)))) oNo))))))
noncomputable def F_without_n : FM := fnM 2 m_without_n
abbrev st__law_place_right_n : Stmt := top 51
noncomputable def m__law_place_right_n : SM := (sSeq (sPar 2 3 (aCons (eOp oIx (eVar 0) (eVar 1)) (aCons (eCall F_without_n (aCons (eVar 0) (aCons (eVar 1) aNil))) aNil))) (sSeq (sPar 4 5 (aCons (eCall F_taken_out_n (aCons (eCall F_sign_table_n (aCons (eVar 0) aNil)) (aCons (eVar 2) aNil))) (aCons (eCall F_part_taken_out_n (aCons (eCall F_part_table_n (aCons (eVar 0) aNil)) (aCons (eVar 2) aNil))) aNil))) (sSeq (sIf (PD.tOr (tV (eOp oNeD (eVar 4) (eCall F_sign_table_n (aCons (eVar 3) aNil)))) (tV (eOp oNeD (eVar 5) (eCall F_part_table_n (aCons (eVar 3) aNil))))) (sRet (eC (.bl false))) sSkip) (sSeq (sSet 6 (eDicN [((eVar 2), (eC (.int 1)))])) (sSeq (sPut fPutD (eC (.int 1)) (eVar 6) (eOp oSub (eC (.int 0)) (eVar 2))) (sSeq (sIf (tV (eOp oNeD (eThaw 6 (eCall F_multiplied_n (aCons (eVar 4) (aCons (eVar 6) aNil)))) (eCall F_sign_table_n (aCons (eVar 0) aNil)))) (sRet (eC (.bl false))) sSkip) (sSeq (sPut fPutD (eC (.int 1)) (eVar 6) (eC (.int 0))) (sRet (eOp oEqD (eCall F_multiplied_n (aCons (eVar 5) (aCons (eVar 6) aNil))) (eCall F_part_table_n (aCons (eVar 0) aNil)))))))))))
noncomputable def F__law_place_right_n : FM := fnM 7 m__law_place_right_n
abbrev st__law_row : Stmt := top 49
noncomputable def m__law_row : SM := (sSeq (sSet 2 (eCall F__law_take (aCons (eVar 0) (aCons (eOp oAdd (eVar 1) (eC (.int 1))) aNil)))) (sSeq (sSet 3 (eCall F__law_take (aCons (eVar 0) (aCons (eC (.int 6)) aNil)))) (sSeq (sSet 4 (eOp oAdd (eC (.int 1)) (eCall F__law_take (aCons (eVar 0) (aCons (eC (.int 9)) aNil))))) (sSeq (sSet 5 (eNew aNil)) (sSeq (sFor (aRange1 (aCons (eVar 2) aNil)) (.nm 6) (sSeq (sSet 7 (eOp oAdd (eC (.int 1)) (eCall F__law_take (aCons (eVar 0) (aCons (eC (.int 12)) aNil))))) (sDrop (eMtL mAppend (eVar 5) (aCons (eOp oIx (eLst (aCons (eVar 7) (aCons (eVar 7) (aCons (eVar 4) (aCons (eOp oShl (eC (.int 1)) (eVar 6)) (aCons (eOp oAdd (eVar 4) (eOp oMul (eVar 6) (eVar 7))) (aCons (eOp oAdd (eOp oMul (eOp oPow (eC (.int 10)) (eC (.int 12))) (eVar 7)) (eVar 4)) aNil))))))) (eVar 3)) aNil))))) (sRet (eB fTuple (aCons (eVar 5) aNil))))))))
noncomputable def F__law_row : FM := fnM 8 m__law_row
abbrev st_grown_n : Stmt := top 18
noncomputable def m_grown_n : SM := (sSeq (sDrop (eCall F_need_row_n (aCons (eVar 0) aNil))) (sSeq (sDrop (eCall F_need_number_from_n (aCons (eC (.int 1)) (aCons (eVar 1) aNil)))) (sRet (eB fTuple (aCons (eComp (aSeq (eVar 0) itSeq) 1 [1] (.nm 0) tTrue (eOp oMul (eVar 0) (eVar 1))) aNil)))))
noncomputable def F_grown_n : FM := fnM 2 m_grown_n
abbrev st_joined_n : Stmt := top 17
noncomputable def m_joined_n : SM := (sSeq (sDrop (eCall F_need_row_n (aCons (eVar 0) aNil))) (sSeq (sDrop (eCall F_need_row_n (aCons (eVar 1) aNil))) (sSeq (sIf (tV (eOp oGt (eOp oAdd (eB fLen (aCons (eVar 0) aNil)) (eB fLen (aCons (eVar 1) aNil))) (eC (.int (16))))) sBad sSkip) (sRet (eOp oAdd (eVar 0) (eVar 1))))))
noncomputable def F_joined_n : FM := fnM 2 m_joined_n
abbrev st_are_whole : Stmt := top 10
noncomputable def m_are_whole : SM := (sRet (eAnd (eB fIsi (aCons (eVar 0) (aCons (eC (.ty "tuple")) aNil))) (eAnd (eOp oEqP (eB fLen (aCons (eVar 0) aNil)) (eVar 1)) (eB fAll (aCons (eComp (aSeq (eVar 0) itSeq) 1 [] (.nm 0) tTrue (eCall F_is_whole (aCons (eVar 0) aNil))) aNil)))))
noncomputable def F_are_whole : FM := fnM 2 m_are_whole
abbrev st_is_order : Stmt := top 19
noncomputable def m_is_order : SM := (sRet (eAnd (eCall F_are_whole (aCons (eVar 0) (aCons (eB fLen (aCons (eVar 1) aNil)) aNil))) (eOp oEqP (eB fSrt (aCons (eVar 0) aNil)) (eB fLrg (aCons (eB fLen (aCons (eVar 1) aNil)) aNil)))))
noncomputable def F_is_order : FM := fnM 2 m_is_order
abbrev st_mixed_n : Stmt := top 20
noncomputable def m_mixed_n : SM := (sSeq (sDrop (eCall F_need_row_n (aCons (eVar 0) aNil))) (sSeq (sIf (PD.tNot (tV (eCall F_is_order (aCons (eVar 1) (aCons (eVar 0) aNil))))) sBad sSkip) (sRet (eB fTuple (aCons (eComp (aSeq (eVar 1) itSeq) 1 [0] (.nm 0) tTrue (eOp oIx (eVar 1) (eVar 0))) aNil)))))
noncomputable def F_mixed_n : FM := fnM 2 m_mixed_n
abbrev st_shifted_n : Stmt := top 25
noncomputable def m_shifted_n : SM := (sSeq (sDrop (eCall F_need_table_n (aCons (eVar 0) aNil))) (sSeq (sDrop (eCall F_need_number_n (aCons (eVar 1) aNil))) (sRet (eBR fDcp (aCons (eComp (aItems (eVar 0)) 2 [1] (.tp [(.nm 0), (.nm 1)]) tTrue (eTup (aCons (eOp oAdd (eVar 0) (eVar 2)) (aCons (eVar 1) aNil)))) aNil)))))
noncomputable def F_shifted_n : FM := fnM 2 m_shifted_n
abbrev st_need_row_and_number_n : Stmt := top 15
noncomputable def m_need_row_and_number_n : SM := (sSeq (sDrop (eCall F_need_row_n (aCons (eVar 0) aNil))) (sDrop (eCall F_need_number_n (aCons (eVar 1) aNil))))
noncomputable def F_need_row_and_number_n : FM := fnM 2 m_need_row_and_number_n
abbrev st_halves_of : Stmt := top 40
noncomputable def m_halves_of : SM := (sSeq (sSet 1 (eOp oFdiv (eB fLen (aCons (eVar 0) aNil)) (eC (.int 2)))) (sRet (eTup (aCons (eSl fSlT (eVar 0) oNo (oPart (eVar 1))) (aCons (eSl fSlT (eVar 0) (oPart (eVar 1)) oNo) aNil)))))
noncomputable def F_halves_of : FM := fnM 2 m_halves_of
abbrev st_half_worths_n : Stmt := top 41
noncomputable def m_half_worths_n : SM := (sSeq (sDrop (eCall F_need_row_n (aCons (eVar 0) aNil))) (sRet (eB fTuple (aCons (eComp (aSeq (eCall F_halves_of (aCons (eVar 0) aNil)) itSeq) 1 [] (.nm 0) tTrue (eB fTuple (aCons (eB fSrt (aCons (eCall F_table_of (aCons (eVar 0) (aCons (eC (.tup (([(-1), (1)] : List Int).map .int))) aNil))) aNil)) aNil))) aNil))))
noncomputable def F_half_worths_n : FM := fnM 1 m_half_worths_n
abbrev st_walk_n : Stmt := top 42
noncomputable def m_walk_n : SM := (sSeq (sSet 2 (eCall F_half_worths_n (aCons (eVar 0) aNil))) (sSeq (sSet 3 (eNew aNil)) (sSeq (sSet 4 (eC (.int 0))) (sSeq (sSet 5 (eOp oSub (eB fLen (aCons (eOp oIx (eVar 2) (eC (.int 1))) aNil)) (eC (.int 1)))) (sSeq (sWh (PD.tAnd (tV (eOp oLt (eVar 4) (eB fLen (aCons (eOp oIx (eVar 2) (eC (.int 0))) aNil)))) (tV (eOp oGe (eVar 5) (eC (.int 0))))) (sSeq (sSet 6 (eOp oAdd (eOp oIx (eOp oIx (eVar 2) (eC (.int 0))) (eVar 4)) (eOp oIx (eOp oIx (eVar 2) (eC (.int 1))) (eVar 5)))) (sSeq (sDrop (eMtL mAppend (eVar 3) (aCons (eTup (aCons (eVar 4) (aCons (eVar 5) (aCons (eVar 6) aNil)))) aNil))) (sIf (tV (eOp oLt (eVar 6) (eVar 1))) (sSet 4 (eOp oAdd (eVar 4) (eC (.int 1)))) (sSet 5 (eOp oSub (eVar 5) (eC (.int 1)))))))) (sRet (eVar 3)))))))
noncomputable def F_walk_n : FM := fnM 7 m_walk_n
abbrev st_above_n : Stmt := top 43
noncomputable def m_above_n : SM := (sSeq (sDrop (eCall F_need_row_and_number_n (aCons (eVar 0) (aCons (eVar 1) aNil)))) (sRet (eB fMinD (aCons (eComp (aFrz (eCall F_walk_n (aCons (eVar 0) (aCons (eVar 1) aNil)))) 3 [1] (.tp [(.nm 0), (.nm 1), (.nm 2)]) (tV (eOp oGe (eVar 2) (eVar 3))) (eVar 2)) aNil))))
noncomputable def F_above_n : FM := fnM 2 m_above_n
abbrev st_unevenness_n : Stmt := top 45
noncomputable def m_unevenness_n : SM := (sRet (eCall F_above_n (aCons (eVar 0) (aCons (eC (.int 0)) aNil))))
noncomputable def F_unevenness_n : FM := fnM 1 m_unevenness_n
abbrev st_law : Stmt := top 52
noncomputable def m_law : SM := (sSeq (sFor (aRange1 (aCons (eB fMax (aCons (eC (.int 1)) (aCons (eB fMin (aCons (eB fLen (aCons (eVar 0) aNil)) (aCons (eC (.int 3)) aNil))) aNil))) aNil)) (.nm 1) (sSeq (sSet 2 (eCall F__law_box (aCons (eVar 0) (aCons (eVar 1) aNil)))) (sSeq (sPar 3 4 (aCons (eCall F__law_row (aCons (eVar 2) (aCons (eC (.int 5)) aNil))) (aCons (eCall F__law_row (aCons (eVar 2) (aCons (eC (.int 5)) aNil))) aNil))) (sSeq (sSet 5 (eCall F_joined_n (aCons (eVar 3) (aCons (eVar 4) aNil)))) (sSeq (sIf (tV (eOp oNeD (eCall F_sign_table_n (aCons (eVar 5) aNil)) (eCall F_multiplied_n (aCons (eCall F_sign_table_n (aCons (eVar 3) aNil)) (aCons (eCall F_sign_table_n (aCons (eVar 4) aNil)) aNil))))) (sRet (eC (.bl false))) sSkip) (sSeq (sIf (PD.tAnd (tV (eOp oLt (eB fLen (aCons (eVar 5) aNil)) (eC (.int 8)))) (tV (eOp oNeD (eCall F_part_table_n (aCons (eVar 5) aNil)) (eCall F_multiplied_n (aCons (eCall F_part_table_n (aCons (eVar 3) aNil)) (aCons (eCall F_part_table_n (aCons (eVar 4) aNil)) aNil)))))) (sRet (eC (.bl false))) sSkip) (sSeq (sIf (tV (eOp oNeD (eCall F_sign_table_n (aCons (eCall F_mixed_n (aCons (eVar 5) (aCons (eCall F__law_order (aCons (eVar 2) (aCons (eB fLen (aCons (eVar 5) aNil)) aNil))) aNil))) aNil)) (eCall F_sign_table_n (aCons (eVar 5) aNil)))) (sRet (eC (.bl false))) sSkip) (sSeq (sSet 6 (eOp oAdd (eC (.int 1)) (eCall F__law_take (aCons (eVar 2) (aCons (eC (.int 9)) aNil))))) (sSeq (sSet 7 (eCall F_sign_table_n (aCons (eVar 3) aNil))) (sSeq (sIf (tV (eOp oNeD (eCall F_sign_table_n (aCons (eCall F_grown_n (aCons (eVar 3) (aCons (eVar 6) aNil))) aNil)) (eBR fDcp (aCons (eThaw 7 (eComp (aKeys (eVar 7)) 1 [6, 7] (.nm 0) tTrue (eTup (aCons (eOp oMul (eVar 0) (eVar 1)) (aCons (eOp oIxD (eVar 2) (eVar 0)) aNil))))) aNil)))) (sRet (eC (.bl false))) sSkip) (sSeq (sIf (PD.tOr (tV (eOp oNeP (eCall F_unevenness_n (aCons (eCall F_grown_n (aCons (eVar 5) (aCons (eVar 6) aNil))) aNil)) (eOp oMul (eVar 6) (eCall F_unevenness_n (aCons (eVar 5) aNil))))) (tV (eOp oNeD (eCall F_shifted_n (aCons (eCall F_shifted_n (aCons (eVar 7) (aCons (eVar 6) aNil))) (aCons (eOp oSub (eC (.int 0)) (eVar 6)) aNil))) (eVar 7)))) (sRet (eC (.bl false))) sSkip) (sIf (PD.tAnd (tV (eOp oNeP (eVar 3) (eTup aNil))) (PD.tNot (tV (eCall F__law_place_right_n (aCons (eVar 3) (aCons (eCall F__law_take (aCons (eVar 2) (aCons (eB fLen (aCons (eVar 3) aNil)) aNil))) aNil)))))) (sRet (eC (.bl false))) sSkip)))))))))))) (sRet (eC (.bl true))))
noncomputable def F_law : FM := fnM 8 m_law
structure Gr (b : Nat) (S S' : Sto) : Prop where
  bx : ∃ n, S'[b]? = some (.lst [.int n])
  oth : ∀ i, i ≠ b → i < S.length → S'[i]? = S[i]?
  len : S.length ≤ S'.length
theorem Gr.trans {b : Nat} {S S1 S2 : Sto} (x : Gr b S S1) (y : Gr b S1 S2) : Gr b S S2 :=
  ⟨y.bx, fun i h l => (y.oth i h (Nat.lt_of_lt_of_le l x.len)).trans (x.oth i h l), Nat.le_trans x.len y.len⟩
theorem Gr.self {b : Nat} {S S1 : Sto} (x : Gr b S S1) : Gr b S1 S1 := ⟨x.bx, fun _ _ _ => rfl, Nat.le_refl _⟩
theorem Gr.more {b : Nat} {S S1 : Sto} (x : Gr b S S1) (l : Sto) : Gr b S (S1 ++ l) := by
  obtain ⟨n, hn⟩ := x.bx
  have hb : b < S1.length := (List.getElem?_eq_some_iff.mp hn).1
  refine ⟨⟨n, by rw [List.getElem?_append_left hb]; exact hn⟩, fun i h hl => ?_, by rw [List.length_append]; have := x.len; omega⟩
  rw [List.getElem?_append_left (Nat.lt_of_lt_of_le hl x.len)]
  exact x.oth i h hl
theorem take_eq {S : Sto} {b : Nat} {n many : Int} (h : S[b]? = some (.lst [.int n])) (h0 : 0 < many) (h1 : many < 1073741824) : F__law_take [.ref b, .int many] S = .ok (.int (n % many)) (S.set b (.lst [.int (n / many)])) := by
  simp [F__law_take, fnM, m__law_take, sSeq, sAsg, sPut, sRet, eB, eOp, eVar, eC, aCons, aNil, R.bind, R.of, oIx, seqOf, h, atI, ixN, fDivmod, h0, h1, G.put, G.puts, fPut]
theorem take_ok {S : Sto} {b : Nat} (h : Gr b S S) {many : Int} (h0 : 0 < many) (h1 : many < 1073741824) : ∃ q S', F__law_take [.ref b, .int many] S = .ok (.int q) S' ∧ 0 ≤ q ∧ q < many ∧ Gr b S S' := by
  obtain ⟨n, hn⟩ := h.bx
  have hb : b < S.length := (List.getElem?_eq_some_iff.mp hn).1
  refine ⟨_, _, take_eq hn h0 h1, Int.emod_nonneg _ (by omega), Int.emod_lt_of_pos _ h0, ⟨n / many, by simp [hb]⟩, fun i hi _ => ?_, by simp⟩
  rw [List.getElem?_set_ne (Ne.symm hi)]
noncomputable abbrev boxBody : SM := (sSeq (sSet 5 (eOp oMod (eOp oAdd (eOp oAdd (eOp oMul (eOp oMod (eVar 2) (eC (.int 2147483647))) (eC (.int 48271))) (eOp oMul (eC (.int 7919)) (eVar 4))) (eC (.int 1))) (eC (.int 2147483647)))) (sSeq (sSet 5 (eOp oMod (eOp oMul (eVar 5) (eVar 5)) (eC (.int 2147483629)))) (sSet 3 (eOp oAdd (eOp oMul (eVar 3) (eC (.int 2147483647))) (eOp oMod (eOp oMul (eVar 5) (eOp oAdd (eVar 5) (eC (.int 13)))) (eC (.int 2147483647)))))))
theorem box_turn (S : Sto) (a b : Option D) (h n j : Int) (r5 : Option D) : ∃ (n' : Int) (x : Int), boxBody [a, b, some (.int h), some (.int n), some (.int j), r5] S = .ok (.nx [a, b, some (.int h), some (.int n'), some (.int j), some (.int x)]) S := by
  have s1 : smallI 48271 := by decide
  have s2 : smallI 7919 := by decide
  have s3 : smallI 2147483647 := by decide
  have h1 : ∀ y : Int, smallI (y % 2147483647) := fun y => by
    have := Int.emod_nonneg y (show (2147483647 : Int) ≠ 0 by decide)
    have := Int.emod_lt_of_pos y (show (0 : Int) < 2147483647 by decide)
    exact ⟨by omega, by omega⟩
  have h2 : ∀ y : Int, smallI (y % 2147483629) := fun y => by
    have := Int.emod_nonneg y (show (2147483629 : Int) ≠ 0 by decide)
    have := Int.emod_lt_of_pos y (show (0 : Int) < 2147483629 by decide)
    exact ⟨by omega, by omega⟩
  refine ⟨n * 2147483647 + ((h % 2147483647 * 48271 + 7919 * j + 1) % 2147483647 * ((h % 2147483647 * 48271 + 7919 * j + 1) % 2147483647) % 2147483629) * ((h % 2147483647 * 48271 + 7919 * j + 1) % 2147483647 * ((h % 2147483647 * 48271 + 7919 * j + 1) % 2147483647) % 2147483629 + 13) % 2147483647, (h % 2147483647 * 48271 + 7919 * j + 1) % 2147483647 * ((h % 2147483647 * 48271 + 7919 * j + 1) % 2147483647) % 2147483629, ?_⟩
  simp only [boxBody, sSeq, sSet, eOp, eVar, eC, R.bind, R.of, oMod, oAdd, List.getElem?_cons_zero, List.getElem?_cons_succ, List.set_cons_zero, List.set_cons_succ, oMul_i (.inr s1), oMul_i (.inl s2), oMul_i (.inr s3), oMul_i (.inl (h1 _)), oMul_i (.inl (h2 _)), Int.reduceLT, if_true]
theorem box_loop (h : Int) : ∀ (l : List Nat) (S : Sto) (a b : Option D) (n : Int) (j r5 : Option D), ∃ (n' : Int) (j' r5' : Option D),
    forL (.nm 4) boxBody (l.map fun (i : Nat) => D.int i) [a, b, some (.int h), some (.int n), j, r5] S = .ok (.nx [a, b, some (.int h), some (.int n'), j', r5']) S
  | [], S, a, b, n, j, r5 => ⟨n, j, r5, rfl⟩
  | i :: l, S, a, b, n, j, r5 => by
    obtain ⟨n1, x, e1⟩ := box_turn S a b h n i r5
    obtain ⟨n', j', r5', e⟩ := box_loop h l S a b n1 (some (.int i)) (some (.int x))
    refine ⟨n', j', r5', ?_⟩
    rw [List.map_cons, forL]
    simp only [G.put, List.set_cons_zero, List.set_cons_succ, e1, R.bind_ok]
    exact e
theorem box_ok (ns : List Int) (k : Nat) (S : Sto) : ∃ v : Int, F__law_box [.fz (ns.map .int), .int k] S = .ok (.ref S.length) (S ++ [.lst [.int v]]) := by
  have hz : (1 : Nat) ≤ sizeLine := by decide
  have s2 : smallI 7919 := by decide
  have rest : ∀ c : Int, ∃ v : Int, (sSeq (sIf (tV (eOp oEqP (eOp oMod (eVar 2) (eC (.int 2))) (eC (.int 0)))) (sRet (eNew (aCons (eOp oFdiv (eVar 2) (eC (.int 2))) aNil))) sSkip) (sSeq (sSet 3 (eC (.int 0))) (sSeq (sFor (aRange1 (aCons (eC (.int 16)) aNil)) (.nm 4) boxBody) (sRet (eNew (aCons (eVar 3) aNil)))))) [some (.fz (ns.map .int)), some (.int k), some (.int c), none, none, none] S = .ok (.rt (.ref S.length)) (S ++ [.lst [.int v]]) := fun c => by
    by_cases hc : c % 2 = 0
    · refine ⟨c / 2, ?_⟩
      simp [sSeq, sSet, sIf, sRet, sSkip, tV, eNew, eB, eCall, eOp, eVar, eC, aCons, aNil, R.bind, R.of, oMod, oEqP, eqP, eqS, hc, oFdiv, hz]
    · obtain ⟨n', j', r5', e⟩ := box_loop c (List.range 16) S (some (.fz (ns.map .int))) (some (.int k)) 0 none none
      refine ⟨n', ?_⟩
      have hr : (16 : Int).toNat = 16 := rfl
      simp only [sSeq, sSet, sIf, sRet, sSkip, tV, eNew, eB, eCall, eOp, eVar, eC, aCons, aNil, R.bind, R.of, oMod, oEqP, eqP, eqS, hc, sFor, aRange1, hz, List.getElem?_cons_zero, List.getElem?_cons_succ, List.set_cons_zero, List.set_cons_succ, Int.reduceLT, if_true, decide_false, Option.map_some, Bool.false_eq_true, if_false, Int.reduceLE, and_self, Int.reducePow, Int.reduceNeg, hr, e, List.length_cons, List.length_nil, Nat.reduceAdd]
  by_cases hk : k < ns.length
  · obtain ⟨v, e⟩ := rest (ns.getD k 0)
    refine ⟨v, ?_⟩
    have hi : atI (ns.map D.int) (k : Int) = some (.int (ns.getD k 0)) := by simp [atI, ixN, hk]
    have hk' : (k : Int) < (ns.length : Int) := by omega
    unfold F__law_box fnM m__law_box
    simp only [List.map_cons, List.map_nil, List.length_cons, List.length_nil, Nat.reduceAdd, Nat.reduceSub, List.replicate, List.cons_append, List.nil_append]
    rw [sSeq]
    simp only [sSet, eOp, eVar, eC, R.bind, R.of, oAdd, oMul_i (.inl s2), List.getElem?_cons_zero, List.getElem?_cons_succ, List.set_cons_zero, List.set_cons_succ]
    rw [sSeq]
    simp only [sIf, sSet, sSkip, tV, eB, eOp, eVar, eC, aCons, aNil, R.bind, R.of, oIx, seqOf, oCmp, fLen, List.length_map, hk', decide_true, if_true, hi, List.getElem?_cons_zero, List.getElem?_cons_succ, List.set_cons_zero, List.set_cons_succ, Option.map_some]
    rw [e]
  · obtain ⟨v, e⟩ := rest (7919 * (k : Int) + 13)
    refine ⟨v, ?_⟩
    have hk' : ¬ (k : Int) < (ns.length : Int) := by omega
    unfold F__law_box fnM m__law_box
    simp only [List.map_cons, List.map_nil, List.length_cons, List.length_nil, Nat.reduceAdd, Nat.reduceSub, List.replicate, List.cons_append, List.nil_append]
    rw [sSeq]
    simp only [sSet, eOp, eVar, eC, R.bind, R.of, oAdd, oMul_i (.inl s2), List.getElem?_cons_zero, List.getElem?_cons_succ, List.set_cons_zero, List.set_cons_succ]
    rw [sSeq]
    simp only [sIf, sSet, sSkip, tV, eB, eOp, eVar, eC, aCons, aNil, R.bind, R.of, oIx, seqOf, oCmp, fLen, List.length_map, hk', decide_false, Bool.false_eq_true, if_false, List.getElem?_cons_zero, List.getElem?_cons_succ, List.set_cons_zero, List.set_cons_succ, Option.map_some]
    rw [e]
def shal : D → Bool
  | .fz _ => false
  | .ref _ => false
  | .ty _ => false
  | .exc _ => false
  | .cls _ => false
  | _ => true
def isI : D → Bool
  | .int _ => true
  | _ => false
theorem whole_eq {d : D} {S : Sto} (h : shal d = true) : F_is_whole [d] S = .ok (.bl (isI d)) S := by
  cases d <;> first | (cases h; done) | (simp [F_is_whole, fnM, m_is_whole, sRet, eAnd, eNot, eB, eVar, eC, aCons, aNil, R.bind, R.of, fIsi, tyD, isiTys, isI])
def rowOk : D → Bool
  | .int i => decide (1 ≤ i)
  | _ => false
theorem boolsOf_map {A : Type} (f : A → Bool) : ∀ xs : List A, boolsOf (xs.map fun x => D.bl (f x)) = some (xs.map f)
  | [] => rfl
  | x :: xs => by rw [List.map_cons, boolsOf, boolsOf_map f xs]; rfl
theorem comp_bool {e : EM} {f : D → Bool} {tl : Rho} : ∀ (xs : List D) (r0 : Option D) (S : Sto), (∀ x ∈ xs, e (some x :: tl) S = .ok (.bl (f x)) S) → compL (.nm 0) tTrue e xs (r0 :: tl) S = .ok (xs.map fun x => D.bl (f x)) S
  | [], _, _, _ => rfl
  | x :: xs, r0, S, h => by
    have h1 := h x List.mem_cons_self
    have h2 := comp_bool xs (some x) S fun y hy => h y (List.mem_cons_of_mem _ hy)
    rw [compL]
    simp only [G.put, List.set_cons_zero, tTrue, R.bind_ok, if_true, h1, h2, List.map_cons]
def isRow : D → Bool
  | .tup xs => decide (xs.length ≤ 16) && xs.all rowOk
  | _ => false
def Okay (d : D) : Prop := shal d = true ∧ ∀ xs, d = .tup xs → (∀ x ∈ xs, shal x = true) ∧ xs.length ≤ 1000
theorem row_el {x : D} {S : Sto} (h : shal x = true) : (eAnd (eCall F_is_whole (aCons (eVar 0) aNil)) (eOp oGe (eVar 0) (eC (.int 1)))) [some x] S = .ok (.bl (rowOk x)) S := by
  have := whole_eq (S := S) h
  cases x <;> first | (cases h; done) | (simp [eAnd, eCall, eOp, eVar, eC, aCons, aNil, R.bind, R.of, this, isI, rowOk, oCmp])
theorem isrow_eq {d : D} {S : Sto} (h : Okay d) : F_is_row [d] S = .ok (.bl (isRow d)) S := by
  cases d with
  | tup xs =>
    obtain ⟨hs, hl⟩ := h.2 xs rfl
    have hc := comp_bool (tl := []) (f := rowOk) xs none S fun x hx => row_el (hs x hx)
    have z : xs.length ≤ sizeLine := Nat.le_trans hl (by decide)
    by_cases h16 : xs.length ≤ 16
    · have h16' : ¬ (16 : Int) < (xs.length : Int) := by omega
      simp only [F_is_row, fnM, m_is_row, sSeq, sIf, sRet, sSkip, PD.tOr, PD.tNot, tV, eB, eComp, aSeq, itSeq, capOf, eOp, eVar, eC, aCons, aNil, R.bind, R.of, fIsi, tyD, fLen, seqOf, oCmp, fAll, List.map_cons, List.map_nil, List.length_cons, List.length_nil, List.replicate, List.cons_append, List.nil_append, List.append_nil, Nat.reduceAdd, Nat.reduceSub, List.getElem?_cons_zero, h16', decide_false, Bool.false_eq_true, if_false, z, if_true, hc, boolsOf_map, Option.map_some, isRow, h16, decide_true, Bool.true_and]
      simp [isiTys]
      simp [z, hc, boolsOf_map, fAll, R.of, R.bind, sRet, eB, aCons]
    · have h16' : (16 : Int) < (xs.length : Int) := by omega
      simp [F_is_row, fnM, m_is_row, sSeq, sIf, sRet, sSkip, PD.tOr, PD.tNot, tV, eB, eOp, eVar, eC, aCons, aNil, R.bind, R.of, fIsi, tyD, fLen, seqOf, oCmp, isiTys, isRow, h16, h16']
  | _ => first | (cases h.1; done) | (simp [F_is_row, fnM, m_is_row, sSeq, sIf, sRet, sSkip, PD.tOr, PD.tNot, tV, eB, eOp, eVar, eC, aCons, aNil, R.bind, R.of, fIsi, tyD, isiTys, isRow])
theorem oNeP_i {S : Sto} {i j : Int} : oNeP S (.int i) (.int j) = some (.bl (!decide (i = j))) := rfl
theorem oEqP_i {S : Sto} {i j : Int} : oEqP S (.int i) (.int j) = some (.bl (decide (i = j))) := rfl
theorem sSeq_go {a b : SM} {r r1 : Rho} {S S1 : Sto} (h : a r S = .ok (.nx r1) S1) : sSeq a b r S = b r1 S1 := by
  unfold sSeq
  rw [h]
  rfl
def Row (xs : List Int) : Prop := (∀ x ∈ xs, 1 ≤ x) ∧ xs.length ≤ 16
theorem ints_okay {xs : List Int} (h : xs.length ≤ 1000) : Okay (.tup (xs.map .int)) := ⟨rfl, fun ys e => by
  cases e
  refine ⟨fun x hx => ?_, by rw [List.length_map]; exact h⟩
  obtain ⟨i, _, rfl⟩ := List.mem_map.mp hx
  rfl⟩
theorem Row.okay {xs : List Int} (h : Row xs) : Okay (.tup (xs.map .int)) := ints_okay (by have := h.2; omega)
theorem Row.is {xs : List Int} (h : Row xs) : isRow (.tup (xs.map .int)) = true := by
  unfold isRow
  rw [Bool.and_eq_true]
  refine ⟨by rw [List.length_map]; exact decide_eq_true h.2, List.all_eq_true.mpr fun x hx => ?_⟩
  obtain ⟨i, hi, rfl⟩ := List.mem_map.mp hx
  exact decide_eq_true (h.1 i hi)
theorem sFor_go {it : AM} {g : PD.G} {b : SM} {r : Rho} {S S1 : Sto} {xs : List D} (h : it r S = .ok xs S1) : sFor it g b r S = forL g b xs r S1 := by unfold sFor; rw [h, R.bind_ok]
theorem fnM_rt {n : Nat} {b : SM} {ds : List D} {ρ : Rho} {S S1 : Sto} {d : D} (hρ : ds.map some ++ List.replicate (n - ds.length) none = ρ) (h : b ρ S = .ok (.rt d) S1) : fnM n b ds S = .ok d S1 := by unfold fnM; rw [hρ, h, R.bind_ok]
theorem fnM_nx {n : Nat} {b : SM} {ds : List D} {ρ ρ' : Rho} {S S1 : Sto} (hρ : ds.map some ++ List.replicate (n - ds.length) none = ρ) (h : b ρ S = .ok (.nx ρ') S1) : fnM n b ds S = .ok .non S1 := by unfold fnM; rw [hρ, h, R.bind_ok]
theorem sSeq_rt {a b : SM} {r : Rho} {S S1 : Sto} {d : D} (h : a r S = .ok (.rt d) S1) : sSeq a b r S = .ok (.rt d) S1 := by unfold sSeq; rw [h, R.bind_ok]
theorem sSet_go {i : Nat} {a : EM} {r : Rho} {S S1 : Sto} {d : D} (h : a r S = .ok d S1) : sSet i a r S = .ok (.nx (r.set i (some d))) S1 := by unfold sSet; rw [h, R.bind_ok]
theorem sRet_go {a : EM} {r : Rho} {S S1 : Sto} {d : D} (h : a r S = .ok d S1) : sRet a r S = .ok (.rt d) S1 := by unfold sRet; rw [h, R.bind_ok]
theorem sIf_t {t : TM} {a b : SM} {r : Rho} {S S1 : Sto} (h : t r S = .ok true S1) : sIf t a b r S = a r S1 := by unfold sIf; rw [h, R.bind_ok]; exact if_pos rfl
theorem sIf_f {t : TM} {a b : SM} {r : Rho} {S S1 : Sto} (h : t r S = .ok false S1) : sIf t a b r S = b r S1 := by unfold sIf; rw [h, R.bind_ok]; exact if_neg Bool.false_ne_true
theorem sDrop_go {a : EM} {r : Rho} {S S1 : Sto} {d : D} (h : a r S = .ok d S1) : sDrop a r S = .ok (.nx r) S1 := by unfold sDrop; rw [h, R.bind_ok]
theorem forL_cons {g : PD.G} {b : SM} {x : D} {xs : List D} {r r1 r2 : Rho} {S S1 : Sto} (hp : g.put x r = some r1) (h : b r1 S = .ok (.nx r2) S1) : forL g b (x :: xs) r S = forL g b xs r2 S1 := by rw [forL]; simp only [hp, h, R.bind_ok]
theorem eCall_go {f : FM} {t : AM} {r : Rho} {S S1 : Sto} {xs : List D} (h : t r S = .ok xs S1) : eCall f t r S = f xs S1 := by unfold eCall; rw [h, R.bind_ok]
theorem sFor_seq {a : EM} {g : PD.G} {b : SM} {r : Rho} {S S1 : Sto} {d : D} {xs : List D} (h : a r S = .ok d S1) (hi : itSeq S1 d = some xs) : sFor (aSeq a itSeq) g b r S = forL g b xs r S1 := sFor_go (by unfold aSeq; rw [h, R.bind_ok, hi]; rfl)
theorem forL_rt {g : PD.G} {b : SM} {x : D} {xs : List D} {r r1 : Rho} {S S1 : Sto} {d : D} (hp : g.put x r = some r1) (h : b r1 S = .ok (.rt d) S1) : forL g b (x :: xs) r S = .ok (.rt d) S1 := by rw [forL]; simp only [hp, h, R.bind_ok]
theorem eOp_go {f : Sto → D → D → Option D} {a b : EM} {r : Rho} {S S1 S2 : Sto} {x y z : D} (h1 : a r S = .ok x S1) (h2 : b r S1 = .ok y S2) (h3 : f S2 x y = some z) : eOp f a b r S = .ok z S2 := by unfold eOp; rw [h1, R.bind_ok, h2, R.bind_ok, h3]; rfl
theorem eB_go {f : Sto → List D → Option D} {t : AM} {r : Rho} {S S1 : Sto} {xs : List D} {z : D} (h1 : t r S = .ok xs S1) (h3 : f S1 xs = some z) : eB f t r S = .ok z S1 := by unfold eB; rw [h1, R.bind_ok, h3]; rfl
theorem aCons_go {a : EM} {t : AM} {r : Rho} {S S1 S2 : Sto} {x : D} {xs : List D} (h1 : a r S = .ok x S1) (h2 : t r S1 = .ok xs S2) : aCons a t r S = .ok (x :: xs) S2 := by unfold aCons; rw [h1, R.bind_ok, h2, R.bind_ok]
theorem tV_go {a : EM} {r : Rho} {S S1 : Sto} {b : Bool} (h : a r S = .ok (.bl b) S1) : tV a r S = .ok b S1 := by unfold tV; rw [h, R.bind_ok]
theorem tNot_go {a : TM} {r : Rho} {S S1 : Sto} {b : Bool} (h : a r S = .ok b S1) : PD.tNot a r S = .ok (!b) S1 := by unfold PD.tNot; rw [h, R.bind_ok]
theorem eMtL_go {f : Sto → D → List D → R D} {o : EM} {t : AM} {r : Rho} {S S1 S2 : Sto} {x : D} {ys : List D} (h1 : o r S = .ok x S1) (hl : isL S1 x = true) (h2 : t r S1 = .ok ys S2) : eMtL f o t r S = f S2 x ys := by unfold eMtL; rw [h1, R.bind_ok, if_pos hl, h2, R.bind_ok]
theorem big62 {n : Int} (h0 : 0 ≤ n) (h : n ≤ 100000) : n < 2 ^ 62 ∧ -(2 ^ 62) ≤ n := ⟨by omega, by omega⟩
theorem aRange1_int {t : AM} {r : Rho} {S S1 : Sto} {m : Int} (h : t r S = .ok [.int m] S1) (h0 : 0 ≤ m) (h1 : m ≤ 100000) : aRange1 t r S = .ok ((List.range m.toNat).map fun (i : Nat) => D.int i) S1 := by
  have hr := big62 h0 h1
  simp only [aRange1, h, R.bind, if_pos hr]
theorem aRange1_ok {t : AM} {r : Rho} {S S1 : Sto} {n : Nat} (h : t r S = .ok [.int (n : Int)] S1) (hn : n ≤ 100000) : aRange1 t r S = .ok ((List.range n).map fun (i : Nat) => D.int i) S1 :=
  aRange1_int h (Int.natCast_nonneg n) (Int.ofNat_le.mpr hn)
theorem intsOf_map : ∀ xs : List Int, intsOf (xs.map .int) = some xs
  | [] => rfl
  | x :: xs => by rw [List.map_cons, intsOf, intsOf_map xs]; rfl
theorem comp_map {A : Type} {enc out : A → D} {e : EM} {tl : Rho} {S : Sto} : ∀ (xs : List A) (r0 : Option D), (∀ x ∈ xs, e (some (enc x) :: tl) S = .ok (out x) S) → compL (.nm 0) tTrue e (xs.map enc) (r0 :: tl) S = .ok (xs.map out) S
  | [], _, _ => rfl
  | x :: xs, r0, h => by
    have h1 := h x List.mem_cons_self
    have h2 := comp_map (out := out) xs (some (enc x)) fun y hy => h y (List.mem_cons_of_mem _ hy)
    rw [List.map_cons, compL]
    simp only [G.put, List.set_cons_zero, tTrue, R.bind_ok, if_true, h1, h2, List.map_cons]
theorem eComp_map {A : Type} {enc out : A → D} {e : EM} {it : AM} {caps : List Nat} {tl r : Rho} {S : Sto} (xs : List A) (hi : it r S = .ok (xs.map enc) S) (hl : xs.length ≤ sizeLine) (hc : caps.map (fun i => (r[i]?).join) = tl) (h : ∀ x ∈ xs, e (some (enc x) :: tl) S = .ok (out x) S) : eComp it 1 caps (.nm 0) tTrue e r S = .ok (.lst (xs.map out)) S := by
  unfold eComp
  rw [hi, R.bind_ok, if_pos (by rw [List.length_map]; exact hl)]
  have : capOf 1 caps r = none :: tl := by unfold capOf; rw [hc]; rfl
  rw [this, comp_map (out := out) xs none h, R.bind_ok]
theorem comp_two {A : Type} {x1 x2 : A → D} {out : A → D} {e : EM} {tl : Rho} {S : Sto} : ∀ (xs : List A) (r0 r1 : Option D), (∀ x ∈ xs, e (some (x1 x) :: some (x2 x) :: tl) S = .ok (out x) S) → compL (.tp [.nm 0, .nm 1]) tTrue e (xs.map fun x => .tup [x1 x, x2 x]) (r0 :: r1 :: tl) S = .ok (xs.map out) S
  | [], _, _, _ => rfl
  | x :: xs, r0, r1, h => by
    have h1 := h x List.mem_cons_self
    have h2 := comp_two (out := out) xs (some (x1 x)) (some (x2 x)) fun y hy => h y (List.mem_cons_of_mem _ hy)
    rw [List.map_cons, compL]
    simp only [G.put, G.puts, List.set_cons_zero, List.set_cons_succ, tTrue, R.bind_ok, if_true, h1, h2, List.map_cons]
theorem it_var {i : Nat} {r : Rho} {S : Sto} {d : D} {xs : List D} (h : r[i]? = some (some d)) (hx : itSeq S d = some xs) : aSeq (eVar i) itSeq r S = .ok xs S := by
  unfold aSeq eVar
  rw [h]
  show R.bind (.ok d S) _ = _
  rw [R.bind_ok, hx]; rfl
theorem eVar_go {i : Nat} {r : Rho} {S : Sto} {d : D} (h : r[i]? = some (some d)) : eVar i r S = .ok d S := by
  unfold eVar; rw [h]
theorem eTup_go {t : AM} {r : Rho} {S S1 : Sto} {xs : List D} (h : t r S = .ok xs S1) (hl : xs.length ≤ sizeLine) : eTup t r S = .ok (.tup xs) S1 := by unfold eTup; rw [h, R.bind_ok, if_pos hl]
theorem eLst_go {t : AM} {r : Rho} {S S1 : Sto} {xs : List D} (h : t r S = .ok xs S1) (hl : xs.length ≤ sizeLine) : eLst t r S = .ok (.lst xs) S1 := by unfold eLst; rw [h, R.bind_ok, if_pos hl]
theorem eAnd_t {a b : EM} {r : Rho} {S S1 : Sto} (h : a r S = .ok (.bl true) S1) : eAnd a b r S = b r S1 := by unfold eAnd; rw [h, R.bind_ok]
theorem eAnd_f {a b : EM} {r : Rho} {S S1 : Sto} (h : a r S = .ok (.bl false) S1) : eAnd a b r S = .ok (.bl false) S1 := by unfold eAnd; rw [h, R.bind_ok]
theorem tOr_f {a b : TM} {r : Rho} {S S1 : Sto} (h : a r S = .ok false S1) : PD.tOr a b r S = b r S1 := by unfold PD.tOr; rw [h, R.bind_ok]; exact if_neg Bool.false_ne_true
theorem fAll_map {A : Type} {S : Sto} {f : A → Bool} {xs : List A} : fAll S [.lst (xs.map fun x => D.bl (f x))] = some (.bl (xs.all f)) := by
  show Option.map (fun bs => D.bl (bs.all id)) (boolsOf (xs.map fun x => D.bl (f x))) = _
  rw [boolsOf_map, Option.map_some, List.all_map]
  rfl
def Wo (K : List Int) : List Int → Int → Prop
  | [], v => v = 0
  | x :: xs, v => ∃ q ∈ K, Wo K xs (v - x * q)
abbrev KP : List Int := [-1, 0, 1]
abbrev KS : List Int := [-1, 1]
theorem sum_permI : ∀ {a b : List Int}, a.Perm b → a.sum = b.sum := fun p => by
  induction p with
  | nil => rfl
  | cons x _ ih => simp only [List.sum_cons, ih]
  | swap x y l => simp only [List.sum_cons]; omega
  | trans _ _ h1 h2 => exact h1.trans h2
def wor : List Int → List Int → Int
  | x :: xs, q :: p => x * q + wor xs p
  | _, _ => 0
def ext (K : List Int) (f : List (List Int)) : List (List Int) := f.flatMap fun p => K.map fun k => p ++ [k]
def allL (K : List Int) : Nat → List (List Int)
  | 0 => [[]]
  | n + 1 => ext K (allL K n)
theorem allL_mem {K : List Int} : ∀ (n : Nat) (p : List Int), p ∈ allL K n ↔ p.length = n ∧ ∀ q ∈ p, q ∈ K
  | 0, p => by
    simp only [allL, List.mem_singleton]
    constructor
    · rintro rfl; exact ⟨rfl, fun q h => nomatch h⟩
    · rintro ⟨h, _⟩; exact List.length_eq_zero_iff.mp h
  | n + 1, p => by
    simp only [allL, ext, List.mem_flatMap, List.mem_map]
    constructor
    · rintro ⟨p', h', k, hk, rfl⟩
      obtain ⟨h1, h2⟩ := (allL_mem n p').mp h'
      refine ⟨by simp [h1], fun q hq => ?_⟩
      rcases List.mem_append.mp hq with hq | hq
      · exact h2 q hq
      · rw [List.mem_singleton.mp hq]; exact hk
    · rintro ⟨h1, h2⟩
      have hne : p ≠ [] := fun h => by rw [h] at h1; cases h1
      refine ⟨p.dropLast, (allL_mem n _).mpr ⟨by rw [List.length_dropLast, h1]; rfl, fun q hq => h2 q ((List.dropLast_sublist p).subset hq)⟩, p.getLast hne, h2 _ (List.getLast_mem hne), List.dropLast_concat_getLast hne⟩
theorem Wo_iff {K : List Int} : ∀ (xs : List Int) (v : Int), Wo K xs v ↔ ∃ p, (p.length = xs.length ∧ ∀ q ∈ p, q ∈ K) ∧ wor xs p = v
  | [], v => by
    constructor
    · intro h; exact ⟨[], ⟨rfl, fun q h => nomatch h⟩, (show v = 0 from h).symm⟩
    · rintro ⟨p, ⟨h, _⟩, e⟩
      cases List.length_eq_zero_iff.mp h
      exact e.symm
  | x :: xs, v => by
    constructor
    · rintro ⟨q, hq, h⟩
      obtain ⟨p, ⟨h1, h2⟩, e⟩ := (Wo_iff xs _).mp h
      refine ⟨q :: p, ⟨by simp [h1], fun r hr => ?_⟩, by show x * q + wor xs p = v; omega⟩
      rcases List.mem_cons.mp hr with rfl | hr
      · exact hq
      · exact h2 r hr
    · rintro ⟨p, ⟨h1, h2⟩, e⟩
      cases p with
      | nil => cases h1
      | cons q p =>
        refine ⟨q, h2 q (.head _), (Wo_iff xs _).mpr ⟨p, ⟨by simpa using h1, fun r hr => h2 r (.tail _ hr)⟩, ?_⟩⟩
        have e' : x * q + wor xs p = v := e
        omega
theorem Wo_all {K xs : List Int} {v : Int} : Wo K xs v ↔ ∃ p ∈ allL K xs.length, wor xs p = v := by
  rw [Wo_iff]
  constructor
  · rintro ⟨p, h, e⟩; exact ⟨p, (allL_mem _ _).mpr h, e⟩
  · rintro ⟨p, h, e⟩; exact ⟨p, (allL_mem _ _).mp h, e⟩
theorem ext_len (K : List Int) : ∀ f : List (List Int), (ext K f).length = f.length * K.length
  | [] => by simp [ext]
  | p :: f => by
    have := ext_len K f
    simp only [ext, List.flatMap_cons, List.length_append, List.length_map, List.length_cons] at this ⊢
    rw [this, Nat.succ_mul]; omega
theorem allL_len (K : List Int) : ∀ n, (allL K n).length = K.length ^ n
  | 0 => rfl
  | n + 1 => by rw [allL, ext_len, allL_len K n, Nat.pow_succ]
abbrev tupI (xs : List Int) : D := .tup (xs.map .int)
theorem oAdd_t {S : Sto} {a b : List D} (h : a.length + b.length ≤ sizeLine) : oAdd S (.tup a) (.tup b) = some (.tup (a ++ b)) := if_pos h
theorem getK_some (kvs : List (KD × D)) (k : KD) : (getK kvs k).isSome = kvs.any fun kv => decide (kv.1 = k) := by
  unfold getK
  rw [Option.isSome_map, Bool.eq_iff_iff, List.find?_isSome, List.any_eq_true]
theorem eGet2_go {o a b : EM} {r : Rho} {S S1 S2 S3 : Sto} {d y z : D} {kvs kvs' : List (KD × D)} {k : KD} (ho : o r S = .ok d S1) (hd : dicOf S1 d = some kvs) (ha : a r S1 = .ok y S2) (hb : b r S2 = .ok z S3) (hd3 : dicOf S3 d = some kvs') (hk : keyD y = some k) : eGet2 o a b r S = .ok ((getK kvs' k).getD z) S3 := by
  unfold eGet2
  rw [ho, R.bind_ok]
  simp only [hd, Option.isSome_some, if_true, ha, R.bind_ok, hb, hd3, hk]
theorem sPut_go {f : Sto → D → D → D → Option Sto} {e o i : EM} {r : Rho} {S S1 S2 S3 S4 : Sto} {v x y : D} (he : e r S = .ok v S1) (ho : o r S1 = .ok x S2) (hi : i r S2 = .ok y S3) (hf : f S3 x y v = some S4) : sPut f e o i r S = .ok (.nx r) S4 := by
  unfold sPut
  rw [he, R.bind_ok, ho, R.bind_ok, hi, R.bind_ok, hf]
def fS (K : List Int) (x : Int) (f : List Int) : List Int := f.flatMap fun w => K.map fun q => w + q * x
def pT (T : List (Int × Int)) (k c : Int) : List (Int × Int) := if T.any (fun e => decide (e.1 = k)) then T.map (fun e => if e.1 = k then (e.1, c) else e) else T ++ [(k, c)]
def gT (T : List (Int × Int)) (k : Int) : Int := ((T.find? fun e => decide (e.1 = k)).map (·.2)).getD 0
def sumH (h : Int → Int) (T : List (Int × Int)) : Int := (T.map fun e => h e.1 * e.2).sum
def Keys (T : List (Int × Int)) : Prop := T.Pairwise fun a b => a.1 ≠ b.1
theorem sumH_cons (h : Int → Int) (e : Int × Int) (T : List (Int × Int)) : sumH h (e :: T) = h e.1 * e.2 + sumH h T := by simp [sumH]
theorem sumH_app (h : Int → Int) : ∀ (A B : List (Int × Int)), sumH h (A ++ B) = sumH h A + sumH h B
  | [], B => by simp [sumH]
  | e :: A, B => by rw [List.cons_append, sumH_cons, sumH_cons, sumH_app h A B]; omega
theorem no_key {T : List (Int × Int)} {k : Int} (h : T.any (fun e => decide (e.1 = k)) = false) : gT T k = 0 := by
  unfold gT
  have : (T.find? fun e => decide (e.1 = k)) = none := by
    rw [List.find?_eq_none]
    intro e he hd
    rw [List.any_eq_false] at h
    exact h e he hd
  rw [this]; rfl
theorem map_same {T : List (Int × Int)} {k c : Int} (h : ∀ e ∈ T, e.1 ≠ k) : T.map (fun e => if e.1 = k then (e.1, c) else e) = T := by
  induction T with
  | nil => rfl
  | cons e T ih =>
    rw [List.map_cons, if_neg (h e (.head _)), ih fun e he => h e (.tail _ he)]
theorem gT_cons (e : Int × Int) (T : List (Int × Int)) (k : Int) : gT (e :: T) k = if e.1 = k then e.2 else gT T k := by
  unfold gT
  rw [List.find?_cons]
  by_cases h : e.1 = k
  · simp [h]
  · simp [h]
theorem sumH_set (h : Int → Int) {k c : Int} : ∀ {T : List (Int × Int)}, Keys T → T.any (fun e => decide (e.1 = k)) = true → sumH h (T.map fun e => if e.1 = k then (e.1, c) else e) = sumH h T + h k * (c - gT T k)
  | [], _, ha => by simp at ha
  | e :: T, hk, ha => by
    have hk' := List.pairwise_cons.mp hk
    rw [List.map_cons, sumH_cons, sumH_cons, gT_cons]
    by_cases he : e.1 = k
    · rw [if_pos he, if_pos he, map_same fun e' he' h => hk'.1 e' he' (by rw [he, h])]
      simp only
      rw [he, Int.mul_sub]
      omega
    · have ha' : T.any (fun e => decide (e.1 = k)) = true := by
        simp only [List.any_cons, he, decide_false, Bool.false_or] at ha
        exact ha
      rw [if_neg he, if_neg he, sumH_set h hk'.2 ha']
      omega
theorem sumH_pT (h : Int → Int) {T : List (Int × Int)} (hk : Keys T) (k c : Int) : sumH h (pT T k (gT T k + c)) = sumH h T + h k * c := by
  unfold pT
  cases ha : T.any (fun e => decide (e.1 = k)) with
  | true =>
    rw [if_pos rfl, sumH_set h hk ha, show gT T k + c - gT T k = c by omega]
  | false =>
    rw [if_neg Bool.false_ne_true, sumH_app, no_key ha, sumH_cons]
    simp [sumH]
theorem keys_pT {T : List (Int × Int)} (hk : Keys T) (k c : Int) : Keys (pT T k c) := by
  unfold pT
  cases ha : T.any (fun e => decide (e.1 = k)) with
  | true =>
    rw [if_pos rfl]
    unfold Keys
    rw [List.pairwise_map]
    refine List.Pairwise.imp (fun {a b} h => ?_) hk
    split <;> split <;> exact h
  | false =>
    rw [if_neg Bool.false_ne_true]
    refine List.pairwise_append.mpr ⟨hk, List.pairwise_singleton _ _, fun a ha' b hb => ?_⟩
    rw [List.mem_singleton.mp hb]
    rw [List.any_eq_false] at ha
    have := ha a ha'
    simpa using this
theorem key_pT (T : List (Int × Int)) (k c v : Int) : (∃ e ∈ pT T k c, e.1 = v) ↔ (∃ e ∈ T, e.1 = v) ∨ v = k := by
  unfold pT
  cases ha : T.any (fun e => decide (e.1 = k)) with
  | true =>
    rw [if_pos rfl]
    constructor
    · rintro ⟨e, he, rfl⟩
      obtain ⟨e', he', rfl⟩ := List.mem_map.mp he
      refine .inl ⟨e', he', ?_⟩
      split <;> rfl
    · rintro (⟨e, he, rfl⟩ | rfl)
      · exact ⟨_, List.mem_map.mpr ⟨e, he, rfl⟩, by split <;> rfl⟩
      · rw [List.any_eq_true] at ha
        obtain ⟨e, he, hd⟩ := ha
        exact ⟨_, List.mem_map.mpr ⟨e, he, rfl⟩, by split <;> exact of_decide_eq_true hd⟩
  | false =>
    rw [if_neg Bool.false_ne_true]
    constructor
    · rintro ⟨e, he, rfl⟩
      rcases List.mem_append.mp he with he | he
      · exact .inl ⟨e, he, rfl⟩
      · rw [List.mem_singleton.mp he]; exact .inr rfl
    · rintro (⟨e, he, rfl⟩ | rfl)
      · exact ⟨e, List.mem_append_left _ he, rfl⟩
      · exact ⟨(v, c), List.mem_append_right _ (List.mem_singleton.mpr rfl), rfl⟩
theorem len_pT (T : List (Int × Int)) (k c : Int) : (pT T k c).length ≤ T.length + 1 := by
  unfold pT
  split <;> simp
structure Hist (T : List (Int × Int)) (f : List Int) : Prop where
  keys : Keys T
  mem : ∀ v, (∃ e ∈ T, e.1 = v) ↔ v ∈ f
  sum : ∀ h : Int → Int, sumH h T = (f.map h).sum
  len : T.length ≤ f.length
theorem Hist.zero : Hist [(0, 1)] [0] := ⟨List.pairwise_singleton _ _, fun v => by simp [eq_comm], fun h => by simp [sumH], Nat.le_refl _⟩
theorem sumI_app : ∀ (a b : List Int), (a ++ b).sum = a.sum + b.sum
  | [], b => by simp
  | x :: a, b => by rw [List.cons_append, List.sum_cons, List.sum_cons, sumI_app a b]; omega
structure HistC (T : List (Int × Int)) (L : List (Int × Int)) : Prop where
  keys : Keys T
  mem : ∀ v, (∃ e ∈ T, e.1 = v) ↔ ∃ e ∈ L, e.1 = v
  sum : ∀ h : Int → Int, sumH h T = sumH h L
  len : T.length ≤ L.length
theorem HistC.nil : HistC [] [] := ⟨List.Pairwise.nil, fun v => by simp, fun h => rfl, Nat.le_refl _⟩
theorem HistC.put {T L : List (Int × Int)} (h : HistC T L) (k c : Int) : HistC (pT T k (gT T k + c)) (L ++ [(k, c)]) := by
  refine ⟨keys_pT h.keys _ _, fun v => ?_, fun f => ?_, Nat.le_trans (len_pT _ _ _) (by have := h.len; simp; omega)⟩
  · rw [key_pT, h.mem v]
    constructor
    · rintro (⟨e, he, e1⟩ | rfl)
      · exact ⟨e, List.mem_append_left _ he, e1⟩
      · exact ⟨(v, c), List.mem_append_right _ (List.mem_singleton.mpr rfl), rfl⟩
    · rintro ⟨e, he, rfl⟩
      rcases List.mem_append.mp he with he | he
      · exact .inl ⟨e, he, rfl⟩
      · rw [List.mem_singleton.mp he]; exact .inr rfl
  · rw [sumH_pT f h.keys, h.sum f, sumH_app, sumH_cons]
    simp [sumH]
def putsOf (K : List Int) (x : Int) (T : List (Int × Int)) : List (Int × Int) := T.flatMap fun e => K.map fun q => (e.1 + q * x, e.2)
theorem sumH_puts (K : List Int) (x : Int) (h : Int → Int) : ∀ T : List (Int × Int), sumH h (putsOf K x T) = sumH (fun y => (K.map fun q => h (y + q * x)).sum) T
  | [] => rfl
  | e :: T => by
    have ih := sumH_puts K x h T
    unfold putsOf at ih ⊢
    rw [List.flatMap_cons, sumH_app, sumH_cons, ih]
    congr 1
    have : ∀ l : List Int, sumH h (l.map fun q => (e.1 + q * x, e.2)) = (l.map fun q => h (e.1 + q * x)).sum * e.2 := fun l => by
      induction l with
      | nil => simp [sumH]
      | cons q l ih => rw [List.map_cons, sumH_cons, List.map_cons, List.sum_cons, ih, Int.add_mul]
    exact this K
theorem sum_fS (K : List Int) (x : Int) (h : Int → Int) : ∀ f : List Int, ((fS K x f).map h).sum = (f.map fun y => (K.map fun q => h (y + q * x)).sum).sum
  | [] => rfl
  | w :: f => by
    have ih := sum_fS K x h f
    unfold fS at ih ⊢
    rw [List.flatMap_cons, List.map_append, sumI_app, ih, List.map_cons, List.sum_cons, List.map_map]
    rfl
theorem mem_fS {K : List Int} {x v : Int} {f : List Int} : v ∈ fS K x f ↔ ∃ w ∈ f, ∃ q ∈ K, w + q * x = v := by
  simp only [fS, List.mem_flatMap, List.mem_map]
theorem fS_len (K : List Int) (x : Int) : ∀ f : List Int, (fS K x f).length = f.length * K.length
  | [] => by simp [fS]
  | w :: f => by
    have := fS_len K x f
    simp only [fS, List.flatMap_cons, List.length_append, List.length_map, List.length_cons] at this ⊢
    rw [this, Nat.succ_mul]; omega
theorem puts_len (K : List Int) (x : Int) : ∀ T : List (Int × Int), (putsOf K x T).length = T.length * K.length
  | [] => by simp [putsOf]
  | w :: f => by
    have := puts_len K x f
    simp only [putsOf, List.flatMap_cons, List.length_append, List.length_map, List.length_cons] at this ⊢
    rw [this, Nat.succ_mul]; omega
theorem Hist.step {K : List Int} {x : Int} {T T' : List (Int × Int)} {f : List Int} (h : Hist T f) (h' : HistC T' (putsOf K x T)) : Hist T' (fS K x f) := by
  refine ⟨h'.keys, fun v => ?_, fun g => ?_, ?_⟩
  · rw [h'.mem v, mem_fS]
    simp only [putsOf, List.mem_flatMap, List.mem_map]
    constructor
    · rintro ⟨e, ⟨e0, he0, q, hq, rfl⟩, rfl⟩
      exact ⟨e0.1, (h.mem _).mp ⟨e0, he0, rfl⟩, q, hq, rfl⟩
    · rintro ⟨w, hw, q, hq, rfl⟩
      obtain ⟨e0, he0, rfl⟩ := (h.mem w).mpr hw
      exact ⟨_, ⟨e0, he0, q, hq, rfl⟩, rfl⟩
  · rw [h'.sum g, sumH_puts, h.sum, sum_fS]
  · have := h'.len
    rw [puts_len] at this
    rw [fS_len]
    exact Nat.le_trans this (Nat.mul_le_mul_right _ h.len)
theorem gT_sum {k : Int} : ∀ {T : List (Int × Int)}, Keys T → sumH (fun y => if y = k then 1 else 0) T = gT T k
  | [], _ => rfl
  | e :: T, hk => by
    have hk' := List.pairwise_cons.mp hk
    rw [sumH_cons, gT_cons]
    by_cases he : e.1 = k
    · rw [if_pos he, if_pos he, gT_sum hk'.2, no_key (by
        rw [List.any_eq_false]
        intro e' he' hd
        exact hk'.1 e' he' (by rw [he, of_decide_eq_true hd]))]
      omega
    · rw [if_neg he, if_neg he, gT_sum hk'.2]; omega
theorem sum_ind (k : Int) : ∀ f : List Int, (f.map fun y => if y = k then (1 : Int) else 0).sum = (f.filter fun y => decide (y = k)).length
  | [] => rfl
  | w :: f => by
    rw [List.map_cons, List.sum_cons, sum_ind k f, List.filter_cons]
    by_cases h : w = k
    · simp [h]; omega
    · simp [h]
theorem Hist.get {T : List (Int × Int)} {f : List Int} (h : Hist T f) (k : Int) : gT T k = ((f.filter fun y => decide (y = k)).length : Int) := by
  rw [← gT_sum h.keys, h.sum, sum_ind]
theorem wor_snoc : ∀ (xs p : List Int) (x q : Int), p.length = xs.length → wor (xs ++ [x]) (p ++ [q]) = wor xs p + q * x
  | [], [], x, q, _ => by show x * q + 0 = 0 + q * x; rw [Int.mul_comm]; omega
  | y :: xs, r :: p, x, q, h => by
    show y * r + wor (xs ++ [x]) (p ++ [q]) = y * r + wor xs p + q * x
    rw [wor_snoc xs p x q (by simpa using h)]; omega
  | [], _ :: _, _, _, h => by cases h
  | _ :: _, [], _, _, h => by cases h
def wsL (K : List Int) (xs : List Int) : List Int := (allL K xs.length).map (wor xs)
theorem wsL_snoc (K xs : List Int) (x : Int) : wsL K (xs ++ [x]) = fS K x (wsL K xs) := by
  unfold wsL fS
  rw [List.length_append, List.length_cons, List.length_nil]
  show (ext K (allL K xs.length)).map _ = _
  unfold ext
  rw [List.map_flatMap, List.flatMap_map]
  have : ∀ l : List (List Int), (∀ p ∈ l, p.length = xs.length) → (l.flatMap fun p => (K.map fun k => p ++ [k]).map (wor (xs ++ [x]))) = l.flatMap fun p => K.map fun q => wor xs p + q * x := fun l => by
    induction l with
    | nil => intro _; rfl
    | cons p l ih =>
      intro h
      rw [List.flatMap_cons, List.flatMap_cons, ih fun p hp => h p (.tail _ hp), List.map_map]
      congr 1
      refine List.map_congr_left fun k _ => ?_
      exact wor_snoc xs p x k (h p (.head _))
  exact this _ fun p hp => ((allL_mem _ p).mp hp).1
def encT (T : List (Int × Int)) : List (KD × D) := T.map fun e => (.inl e.1, .int e.2)
theorem encT_any (T : List (Int × Int)) (k : Int) : (encT T).any (fun kv => decide (kv.1 = .inl k)) = T.any fun e => decide (e.1 = k) := by
  unfold encT
  rw [List.any_map]
  congr 1
  funext e
  show decide ((Sum.inl e.1 : KD) = .inl k) = decide (e.1 = k)
  rw [decide_eq_decide]
  exact ⟨Sum.inl.inj, fun h => by rw [h]⟩
theorem encT_put (T : List (Int × Int)) (k c : Int) : putD (encT T) (.inl k) (.int c) = encT (pT T k c) := by
  unfold putD pT
  rw [encT_any]
  cases T.any fun e => decide (e.1 = k) with
  | true =>
    rw [if_pos rfl, if_pos rfl]
    unfold encT
    rw [List.map_map, List.map_map]
    refine List.map_congr_left fun e _ => ?_
    simp only [Function.comp]
    by_cases h : e.1 = k
    · rw [if_pos (by rw [h]), if_pos h]
    · rw [if_neg (fun z => h (Sum.inl.inj z)), if_neg h]
  | false =>
    rw [if_neg Bool.false_ne_true, if_neg Bool.false_ne_true]
    simp [encT]
theorem encT_get (T : List (Int × Int)) (k : Int) : (getK (encT T) (.inl k)).getD (.int 0) = .int (gT T k) := by
  unfold getK gT encT
  rw [List.find?_map]
  have e : ((fun kv : KD × D => decide (kv.1 = .inl k)) ∘ fun e : Int × Int => ((.inl e.1 : KD), D.int e.2)) = fun e => decide (e.1 = k) := by
    funext e
    show decide ((Sum.inl e.1 : KD) = .inl k) = decide (e.1 = k)
    rw [decide_eq_decide]
    exact ⟨Sum.inl.inj, fun h => by rw [h]⟩
  rw [e]
  cases T.find? fun e => decide (e.1 = k) <;> rfl
theorem encT_some (T : List (Int × Int)) (k : Int) : (getK (encT T) (.inl k)).isSome = true ↔ ∃ e ∈ T, e.1 = k := by
  rw [getK_some, encT_any, List.any_eq_true]
  constructor
  · rintro ⟨e, he, h⟩; exact ⟨e, he, of_decide_eq_true h⟩
  · rintro ⟨e, he, h⟩; exact ⟨e, he, decide_eq_true h⟩
def dAt (S : Sto) (n : Nat) (T : List (Int × Int)) : Prop := S[n]? = some (.dic (encT T)) ∨ S[n]? = some (.fdic (encT T))
theorem dAt.dic {S : Sto} {n : Nat} {T : List (Int × Int)} (h : dAt S n T) : dicOf S (.ref n) = some (encT T) := by
  rcases h with h | h <;> simp [dicOf, h]
theorem dAt.seq {S : Sto} {n : Nat} {T : List (Int × Int)} (h : dAt S n T) : seqOf S (.ref n) = none := by
  rcases h with h | h <;> simp [seqOf, h]
theorem dAt.lt {S : Sto} {n : Nat} {T : List (Int × Int)} (h : dAt S n T) : n < S.length := by
  rcases h with h | h <;> exact (List.getElem?_eq_some_iff.mp h).1
noncomputable abbrev stI : SM := (sSeq (sSet 7 (eOp oAdd (eVar 4) (eOp oMul (eVar 6) (eVar 1)))) (sPut fPutD (eOp oAdd (eGet2 (eVar 3) (eVar 7) (eC (.int 0))) (eVar 5)) (eVar 3) (eVar 7)))
noncomputable abbrev stO : SM := (sFor (aSeq (eVar 2) itSeq) (.nm 6) (sSeq (sSet 7 (eOp oAdd (eVar 4) (eOp oMul (eVar 6) (eVar 1)))) (sPut fPutD (eOp oAdd (eGet2 (eVar 3) (eVar 7) (eC (.int 0))) (eVar 5)) (eVar 3) (eVar 7))))
noncomputable abbrev tofB : SM := (sSet 2 (eCall F_stepped (aCons (eVar 2) (aCons (eVar 3) (aCons (eVar 1) aNil)))))
theorem sml {q : Int} (h : -1 ≤ q ∧ q ≤ 1) : smallI q := ⟨by omega, by omega⟩
theorem stI_ok {S : Sto} {m : Nat} {W : List (Int × Int)} {x w c q : Int} (hq : -1 ≤ q ∧ q ≤ 1) (hm : S[m]? = some (.dic (encT W))) (hz : W.length < 3000) (r0 r2 r7 : Option D) :
    stI [r0, some (.int x), r2, some (.ref m), some (.int w), some (.int c), some (.int q), r7] S = .ok (.nx [r0, some (.int x), r2, some (.ref m), some (.int w), some (.int c), some (.int q), some (.int (w + q * x))]) (S.set m (.dic (encT (pT W (w + q * x) (gT W (w + q * x) + c))))) := by
  have hd : dicOf S (.ref m) = some (encT W) := by simp [dicOf, hm]
  have z : (3000 : Nat) ≤ sizeLine := by decide
  refine (sSeq_go (sSet_go (eOp_go (eVar_go rfl) (eOp_go (eVar_go rfl) (eVar_go rfl) (oMul_i (.inl (sml hq)))) rfl))).trans ?_
  have hg : eGet2 (eVar 3) (eVar 7) (eC (.int 0)) [r0, some (.int x), r2, some (.ref m), some (.int w), some (.int c), some (.int q), some (.int (w + q * x))] S = .ok (.int (gT W (w + q * x))) S := by
    rw [← encT_get]
    exact eGet2_go (eVar_go rfl) hd (eVar_go rfl) rfl hd rfl
  refine sPut_go (eOp_go hg (eVar_go rfl) rfl) (eVar_go rfl) (eVar_go rfl) ?_
  have h1 : isDic S (.ref m) = true := by simp [isDic, hm]
  unfold fPutD
  rw [if_pos h1]
  unfold fPutK
  simp only [hm, keyD]
  rw [if_pos (by simp [encT]; omega), encT_put]
theorem stI_loop {x w c : Int} (r0 r2 : Option D) {m : Nat} : ∀ (K : List Int) (S : Sto) (W L : List (Int × Int)) (r6 r7 : Option D), (∀ q ∈ K, -1 ≤ q ∧ q ≤ 1) → S[m]? = some (.dic (encT W)) → HistC W L → L.length + K.length ≤ 3000 →
    ∃ (W' : List (Int × Int)) (r6' r7' : Option D), forL (.nm 6) stI (K.map .int) [r0, some (.int x), r2, some (.ref m), some (.int w), some (.int c), r6, r7] S = .ok (.nx [r0, some (.int x), r2, some (.ref m), some (.int w), some (.int c), r6', r7']) (S.set m (.dic (encT W'))) ∧ HistC W' (L ++ K.map fun q => (w + q * x, c))
  | [], S, W, L, r6, r7, _, hm, h, _ => ⟨W, r6, r7, by
    have hml : m < S.length := (List.getElem?_eq_some_iff.mp hm).1
    have : S.set m (.dic (encT W)) = S := by
      have e := (List.getElem?_eq_some_iff.mp hm).2
      rw [← e]; exact List.set_getElem_self hml
    rw [this]; rfl, by simpa using h⟩
  | q :: K, S, W, L, r6, r7, hK, hm, h, hz => by
    rw [List.length_cons] at hz
    have hml : m < S.length := (List.getElem?_eq_some_iff.mp hm).1
    have e1 := stI_ok (S := S) (x := x) (w := w) (c := c) (hK q (.head _)) hm (by have := h.len; omega) r0 r2 r7
    obtain ⟨W', a6, a7, e2, h2⟩ := stI_loop r0 r2 K (S.set m (.dic (encT (pT W (w + q * x) (gT W (w + q * x) + c))))) (pT W (w + q * x) (gT W (w + q * x) + c)) (L ++ [(w + q * x, c)]) (some (.int q)) (some (.int (w + q * x))) (fun q hq => hK q (.tail _ hq)) (List.getElem?_set_self hml) (h.put (w + q * x) c) (by simp; omega)
    rw [List.set_set] at e2
    refine ⟨W', a6, a7, (forL_cons (r1 := [r0, some (.int x), r2, some (.ref m), some (.int w), some (.int c), some (.int q), r7]) rfl e1).trans e2, ?_⟩
    rw [List.map_cons]
    simpa using h2
theorem stO_loop {K : List Int} {x : Int} (hK : ∀ q ∈ K, -1 ≤ q ∧ q ≤ 1) (r0 : Option D) {m : Nat} : ∀ (T : List (Int × Int)) (S : Sto) (W L : List (Int × Int)) (r4 r5 r6 r7 : Option D), S[m]? = some (.dic (encT W)) → HistC W L → L.length + T.length * K.length ≤ 3000 →
    ∃ (W' : List (Int × Int)) (r4' r5' r6' r7' : Option D), forL (.tp [.nm 4, .nm 5]) stO ((encT T).map pairD) [r0, some (.int x), some (tupI K), some (.ref m), r4, r5, r6, r7] S = .ok (.nx [r0, some (.int x), some (tupI K), some (.ref m), r4', r5', r6', r7']) (S.set m (.dic (encT W'))) ∧ HistC W' (L ++ putsOf K x T)
  | [], S, W, L, r4, r5, r6, r7, hm, h, _ => ⟨W, r4, r5, r6, r7, by
    have hml : m < S.length := (List.getElem?_eq_some_iff.mp hm).1
    have : S.set m (.dic (encT W)) = S := by
      have e := (List.getElem?_eq_some_iff.mp hm).2
      rw [← e]; exact List.set_getElem_self hml
    rw [this]; rfl, by simpa [putsOf] using h⟩
  | e :: T, S, W, L, r4, r5, r6, r7, hm, h, hz => by
    have hm2 : (e :: T).length * K.length = T.length * K.length + K.length := by rw [List.length_cons, Nat.succ_mul]
    have hml : m < S.length := (List.getElem?_eq_some_iff.mp hm).1
    obtain ⟨W1, a6, a7, e1, h1⟩ := stI_loop (x := x) (w := e.1) (c := e.2) r0 (some (tupI K)) K S W L r6 r7 hK hm h (by omega)
    obtain ⟨W2, b4, b5, b6, b7, e2, h2⟩ := stO_loop hK r0 T (S.set m (.dic (encT W1))) W1 (L ++ K.map fun q => (e.1 + q * x, e.2)) (some (.int e.1)) (some (.int e.2)) a6 a7 (List.getElem?_set_self hml) h1 (by rw [List.length_append, List.length_map]; omega)
    rw [List.set_set] at e2
    refine ⟨W2, b4, b5, b6, b7, ?_, ?_⟩
    · show forL _ _ (pairD (.inl e.1, .int e.2) :: (encT T).map pairD) _ _ = _
      exact (forL_cons (r1 := [r0, some (.int x), some (tupI K), some (.ref m), some (.int e.1), some (.int e.2), r6, r7]) rfl ((sFor_seq (eVar_go rfl) rfl).trans e1)).trans e2
    · have : putsOf K x (e :: T) = (K.map fun q => (e.1 + q * x, e.2)) ++ putsOf K x T := by simp [putsOf]
      rw [this, ← List.append_assoc]
      exact h2
theorem items_go {S : Sto} {n : Nat} {T : List (Int × Int)} {ρ : Rho} {i : Nat} (hi : ρ[i]? = some (some (.ref n))) (h : dAt S n T) : aItems (eVar i) ρ S = .ok ((encT T).map pairD) (S.set n (.fdic (encT T))) := by
  unfold aItems
  rw [eVar_go hi, R.bind_ok]
  rcases h with h | h
  · simp only [h]
  · simp only [h]
    have hnl : n < S.length := (List.getElem?_eq_some_iff.mp h).1
    have : S.set n (.fdic (encT T)) = S := by
      have e := (List.getElem?_eq_some_iff.mp h).2
      rw [← e]; exact List.set_getElem_self hnl
    rw [this]
theorem stepped_ok {K : List Int} {x : Int} {S : Sto} {n : Nat} {T : List (Int × Int)} {f : List Int} (hK : ∀ q ∈ K, -1 ≤ q ∧ q ≤ 1) (hd : dAt S n T) (h : Hist T f) (hz : f.length * K.length ≤ 3000) :
    ∃ T' : List (Int × Int), F_stepped [.ref n, .int x, tupI K] S = .ok (.ref S.length) (S.set n (.fdic (encT T)) ++ [.dic (encT T')]) ∧ Hist T' (fS K x f) := by
  have hnl := hd.lt
  have hd' : dAt (S ++ [.dic []]) n T := by
    unfold dAt
    rw [List.getElem?_append_left hnl]
    exact hd
  have hle : T.length * K.length ≤ f.length * K.length := Nat.mul_le_mul_right _ h.len
  have e0 : (S ++ [SO.dic []]).set n (.fdic (encT T)) = S.set n (.fdic (encT T)) ++ [.dic []] := List.set_append_left _ _ hnl
  obtain ⟨T', a4, a5, a6, a7, e1, h1⟩ := stO_loop (x := x) hK (some (.ref n)) (m := S.length) T (S.set n (.fdic (encT T)) ++ [.dic []]) [] [] none none none none (by simp [encT]) HistC.nil (by simp; omega)
  have e2 : (S.set n (.fdic (encT T)) ++ [SO.dic []]).set S.length (.dic (encT T')) = S.set n (.fdic (encT T)) ++ [.dic (encT T')] := by
    rw [List.set_append_right _ _ (by simp)]; simp
  rw [e2] at e1
  refine ⟨T', ?_, h.step (by simpa using h1)⟩
  exact fnM_rt (ρ := [some (.ref n), some (.int x), some (tupI K), none, none, none, none, none]) rfl ((sSeq_go (S1 := S ++ [.dic []]) (sSet_go rfl)).trans ((sSeq_go (r1 := [some (.ref n), some (.int x), some (tupI K), some (.ref S.length), a4, a5, a6, a7]) ((sFor_go (items_go rfl hd')).trans (by rw [e0]; exact e1))).trans (sRet_go (eVar_go rfl))))
structure Pre (S0 S : Sto) : Prop where
  old : ∀ i, i < S0.length → S[i]? = S0[i]?
  len : S0.length ≤ S.length
theorem Pre.trans {S0 S1 S2 : Sto} (a : Pre S0 S1) (b : Pre S1 S2) : Pre S0 S2 := ⟨fun i h => (b.old i (Nat.lt_of_lt_of_le h a.len)).trans (a.old i h), Nat.le_trans a.len b.len⟩
theorem Pre.app (S l : Sto) : Pre S (S ++ l) := ⟨fun i h => List.getElem?_append_left h, by simp⟩
theorem Pre.set {S0 S : Sto} (p : Pre S0 S) {n : Nat} (h : S0.length ≤ n) (o : SO) : Pre S0 (S.set n o) := ⟨fun i hi => by rw [List.getElem?_set_ne (by omega)]; exact p.old i hi, by rw [List.length_set]; exact p.len⟩
theorem dAt.set {S : Sto} {r n : Nat} {o : SO} {T : List (Int × Int)} (h : dAt S r T) (hn : n ≠ r) : dAt (S.set n o) r T := by
  unfold dAt
  rw [List.getElem?_set_ne hn]
  exact h
def fold (K : List Int) (xs : List Int) (f : List Int) : List Int := xs.foldl (fun f x => fS K x f) f
theorem fold_ws (K : List Int) : ∀ (xs pre : List Int), fold K xs (wsL K pre) = wsL K (pre ++ xs)
  | [], pre => by simp [fold]
  | x :: xs, pre => by
    have := fold_ws K xs (pre ++ [x])
    rw [wsL_snoc, List.append_assoc] at this
    exact this
theorem tofG_loop {K : List Int} (hk : ∀ q ∈ K, -1 ≤ q ∧ q ≤ 1) {S0 : Sto} (r0 : Option D) : ∀ (xs : List Int) (S : Sto) (n : Nat) (T : List (Int × Int)) (f : List Int) (r3 : Option D), S[n]? = some (.dic (encT T)) → Hist T f → f.length * K.length ^ xs.length ≤ 3000 → S0.length ≤ n → Pre S0 S →
    ∃ (S' : Sto) (n' : Nat) (T' : List (Int × Int)) (r3' : Option D), forL (.nm 3) tofB (xs.map .int) [r0, some (tupI K), some (.ref n), r3] S = .ok (.nx [r0, some (tupI K), some (.ref n'), r3']) S' ∧ S'[n']? = some (.dic (encT T')) ∧ S0.length ≤ n' ∧ Hist T' (fold K xs f) ∧ Pre S0 S'
  | [], S, n, T, f, r3, hd, h, _, hn, p => ⟨S, n, T, r3, rfl, hd, hn, h, p⟩
  | x :: xs, S, n, T, f, r3, hd, h, hz, hn, p => by
    rw [List.length_cons, Nat.pow_succ] at hz
    have z0 : f.length * K.length * K.length ^ xs.length ≤ 3000 := by rw [Nat.mul_assoc, Nat.mul_comm K.length]; exact hz
    have z1 : f.length * K.length ≤ 3000 := by
      by_cases c : K.length = 0
      · rw [c]; omega
      · have h2 : 1 ≤ K.length ^ xs.length := Nat.one_le_pow _ _ (by omega)
        have : f.length * K.length * 1 ≤ f.length * K.length * K.length ^ xs.length := Nat.mul_le_mul_left _ h2
        omega
    obtain ⟨T1, e1, h1⟩ := stepped_ok (x := x) hk (.inl hd) h z1
    have p1 : Pre S0 (S.set n (.fdic (encT T)) ++ [SO.dic (encT T1)]) := (p.set hn _).trans (Pre.app _ _)
    obtain ⟨S2, n2, T2, a3, e2, d2, dl2, h2, p2⟩ := tofG_loop hk r0 xs (S.set n (.fdic (encT T)) ++ [SO.dic (encT T1)]) S.length T1 (fS K x f) (some (.int x)) (by simp) h1 (by rw [fS_len]; exact z0) p.len p1
    exact ⟨S2, n2, T2, a3, (forL_cons (r1 := [r0, some (tupI K), some (.ref n), some (.int x)]) rfl (sSet_go ((eCall_go (aCons_go (eVar_go rfl) (aCons_go (eVar_go rfl) (aCons_go (eVar_go rfl) rfl)))).trans e1))).trans e2, d2, dl2, h2, p2⟩
theorem dicN_go {ρ : Rho} {S : Sto} : eDicN [((eC (.int 0)), (eC (.int 1)))] ρ S = .ok (.ref S.length) (S ++ [.dic (encT [(0, 1)])]) := rfl
theorem tableG {K xs : List Int} (hk : ∀ q ∈ K, -1 ≤ q ∧ q ≤ 1) (hz : K.length ^ xs.length ≤ 3000) (S : Sto) : ∃ (S' : Sto) (n : Nat) (T : List (Int × Int)), F_table_of [tupI xs, tupI K] S = .ok (.ref n) S' ∧ S'[n]? = some (.dic (encT T)) ∧ S.length ≤ n ∧ Hist T (wsL K xs) ∧ Pre S S' := by
  obtain ⟨S', n, T, a3, e, hd, hdl, h, p⟩ := tofG_loop hk (S0 := S) (some (tupI xs)) xs (S ++ [.dic (encT [(0, 1)])]) S.length [(0, 1)] [0] none (by simp) Hist.zero (by
    rw [List.length_singleton, Nat.one_mul]
    exact hz) (Nat.le_refl _) (Pre.app _ _)
  have hf := fold_ws K xs []
  rw [List.nil_append] at hf
  have h0 : wsL K [] = [0] := rfl
  rw [h0] at hf
  rw [hf] at h
  exact ⟨S', n, T, fnM_rt (ρ := [some (tupI xs), some (tupI K), none, none]) rfl ((sSeq_go (sSet_go dicN_go)).trans ((sSeq_go ((sFor_seq (eVar_go rfl) rfl).trans e)).trans (sRet_go (eVar_go rfl)))), hd, hdl, h, p⟩
theorem tableof_ok {K xs : List Int} (hK : K.length ≤ 3) (hk : ∀ q ∈ K, -1 ≤ q ∧ q ≤ 1) (h6 : xs.length ≤ 6) (S : Sto) : ∃ (S' : Sto) (n : Nat) (T : List (Int × Int)), F_table_of [tupI xs, tupI K] S = .ok (.ref n) S' ∧ S'[n]? = some (.dic (encT T)) ∧ S.length ≤ n ∧ Hist T (wsL K xs) ∧ Pre S S' :=
  tableG hk (Nat.le_trans (Nat.pow_le_pow_left hK _) (Nat.le_trans (Nat.pow_le_pow_right (by decide) h6) (by decide))) S
theorem need_row_ok {xs : List Int} (h : Row xs) (S : Sto) : F_need_row_n [.tup (xs.map .int)] S = .ok .non S := by
  have e := isrow_eq (S := S) h.okay
  rw [h.is] at e
  simp [F_need_row_n, fnM, m_need_row_n, sIf, sSkip, tNx, R.nx, PD.tNot, tV, eCall, eVar, aCons, aNil, R.bind, e]
def pairsT (A B : List (Int × Int)) : List (Int × Int) := A.flatMap fun e => B.map fun d => (e.1 + d.1, e.2 * d.2)
theorem sumH_row (h : Int → Int) (e : Int × Int) : ∀ B : List (Int × Int), sumH h (B.map fun d => (e.1 + d.1, e.2 * d.2)) = sumH (fun y => h (e.1 + y)) B * e.2
  | [] => by simp [sumH]
  | d :: B => by
    rw [List.map_cons, sumH_cons, sumH_cons, sumH_row h e B, Int.add_mul]
    congr 1
    show h (e.1 + d.1) * (e.2 * d.2) = h (e.1 + d.1) * d.2 * e.2
    rw [Int.mul_assoc, Int.mul_comm e.2 d.2]
theorem sumH_pairs (h : Int → Int) (B : List (Int × Int)) : ∀ A : List (Int × Int), sumH h (pairsT A B) = sumH (fun x => sumH (fun y => h (x + y)) B) A
  | [] => rfl
  | e :: A => by
    have ih := sumH_pairs h B A
    unfold pairsT at ih ⊢
    rw [List.flatMap_cons, sumH_app, sumH_cons, ih, sumH_row]
theorem pairs_mem {T A B : List (Int × Int)} {f g : List Int} (h : HistC T (pairsT A B)) (hA : Hist A f) (hB : Hist B g) (v : Int) : (∃ e ∈ T, e.1 = v) ↔ ∃ x ∈ f, ∃ y ∈ g, x + y = v := by
  rw [h.mem]
  constructor
  · rintro ⟨e, he, rfl⟩
    obtain ⟨a, ha, he⟩ := List.mem_flatMap.mp he
    obtain ⟨b, hb, rfl⟩ := List.mem_map.mp he
    exact ⟨a.1, (hA.mem _).mp ⟨a, ha, rfl⟩, b.1, (hB.mem _).mp ⟨b, hb, rfl⟩, rfl⟩
  · rintro ⟨x, hx, y, hy, rfl⟩
    obtain ⟨a, ha, rfl⟩ := (hA.mem x).mpr hx
    obtain ⟨b, hb, rfl⟩ := (hB.mem y).mpr hy
    exact ⟨_, List.mem_flatMap.mpr ⟨a, ha, List.mem_map.mpr ⟨b, hb, rfl⟩⟩, rfl⟩
theorem wor_app : ∀ (xs ys p q : List Int), p.length = xs.length → wor (xs ++ ys) (p ++ q) = wor xs p + wor ys q
  | [], ys, [], q, _ => by show wor ys q = 0 + wor ys q; omega
  | x :: xs, ys, r :: p, q, h => by
    show x * r + wor (xs ++ ys) (p ++ q) = x * r + wor xs p + wor ys q
    rw [wor_app xs ys p q (by simpa using h)]; omega
  | [], _, _ :: _, _, h => by cases h
  | _ :: _, _, [], _, h => by cases h
theorem all_split {K : List Int} {a b : Nat} {p : List Int} : p ∈ allL K (a + b) ↔ ∃ q r, p = q ++ r ∧ q ∈ allL K a ∧ r ∈ allL K b := by
  constructor
  · intro h
    obtain ⟨h1, h2⟩ := (allL_mem _ p).mp h
    exact ⟨p.take a, p.drop a, (List.take_append_drop a p).symm, (allL_mem _ _).mpr ⟨by rw [List.length_take, h1]; omega, fun y hy => h2 y (List.mem_of_mem_take hy)⟩, (allL_mem _ _).mpr ⟨by rw [List.length_drop, h1]; omega, fun y hy => h2 y (List.mem_of_mem_drop hy)⟩⟩
  · rintro ⟨q, r, rfl, hq, hr⟩
    obtain ⟨q1, q2⟩ := (allL_mem _ q).mp hq
    obtain ⟨r1, r2⟩ := (allL_mem _ r).mp hr
    refine (allL_mem _ _).mpr ⟨by rw [List.length_append, q1, r1], fun y hy => ?_⟩
    rcases List.mem_append.mp hy with hy | hy
    · exact q2 y hy
    · exact r2 y hy
theorem ws_app {K xs ys : List Int} {v : Int} : (∃ x ∈ wsL K xs, ∃ y ∈ wsL K ys, x + y = v) ↔ Wo K (xs ++ ys) v := by
  rw [Wo_all, List.length_append]
  constructor
  · rintro ⟨x, hx, y, hy, rfl⟩
    obtain ⟨p, hp, rfl⟩ := List.mem_map.mp hx
    obtain ⟨q, hq, rfl⟩ := List.mem_map.mp hy
    exact ⟨p ++ q, all_split.mpr ⟨p, q, rfl, hp, hq⟩, wor_app xs ys p q ((allL_mem _ _).mp hp).1⟩
  · rintro ⟨p, hp, rfl⟩
    obtain ⟨q, r, rfl, hq, hr⟩ := all_split.mp hp
    exact ⟨_, List.mem_map.mpr ⟨q, hq, rfl⟩, _, List.mem_map.mpr ⟨r, hr, rfl⟩, (wor_app xs ys q r ((allL_mem _ _).mp hq).1).symm⟩
theorem eSl_go {f : Sto → D → Option Int → Option Int → Option D} {a : EM} {lo hi : OM} {r : Rho} {S S1 S2 S3 : Sto} {x z : D} {l u : Option Int} (h1 : a r S = .ok x S1) (h2 : lo r S1 = .ok l S2) (h3 : hi r S2 = .ok u S3) (h4 : f S3 x l u = some z) : eSl f a lo hi r S = .ok z S3 := by unfold eSl; rw [h1, R.bind_ok, h2, R.bind_ok, h3, R.bind_ok, h4]; rfl
theorem oPart_go {a : EM} {r : Rho} {S S1 : Sto} {i : Int} (h : a r S = .ok (.int i) S1) : oPart a r S = .ok (some i) S1 := by unfold oPart; rw [h, R.bind_ok]
theorem cut_take (xs : List D) (m : Nat) (h : m ≤ xs.length) : PD.cutD xs none (some (m : Int)) = xs.take m := by
  unfold PD.cutD
  have e1 : HT.sIx xs.length 0 none = 0 := rfl
  have e2 : HT.sIx xs.length xs.length (some (m : Int)) = m := by
    rw [HT.sIx_nat]; exact Nat.min_eq_left h
  rw [e1, e2]; simp
theorem cut_drop (xs : List D) (m : Nat) (h : m ≤ xs.length) : PD.cutD xs (some (m : Int)) none = xs.drop m := by
  unfold PD.cutD
  have e1 : HT.sIx xs.length xs.length none = xs.length := rfl
  have e2 : HT.sIx xs.length 0 (some (m : Int)) = m := by
    rw [HT.sIx_nat]; exact Nat.min_eq_left h
  rw [e1, e2, List.take_of_length_le (by rw [List.length_drop]; omega)]
noncomputable abbrev halvesM : FM := fnM 2 (sSeq (sSet 1 (eOp oFdiv (eB fLen (aCons (eVar 0) aNil)) (eC (.int 2)))) (sRet (eTup (aCons (eSl fSlT (eVar 0) oNo (oPart (eVar 1))) (aCons (eSl fSlT (eVar 0) (oPart (eVar 1)) oNo) aNil)))))
theorem halves_ok (xs : List Int) (S : Sto) : halvesM [tupI xs] S = .ok (.tup [tupI (xs.take (xs.length / 2)), tupI (xs.drop (xs.length / 2))]) S := by
  have z2 : (2 : Nat) ≤ sizeLine := by decide
  have hm : xs.length / 2 ≤ (xs.map D.int).length := by rw [List.length_map]; omega
  have hl : fLen S [tupI xs] = some (.int xs.length) := by
    show some (D.int ((xs.map D.int).length : Int)) = _
    rw [List.length_map]
  have hd : oFdiv S (.int xs.length) (.int 2) = some (.int ((xs.length / 2 : Nat) : Int)) := by
    show (if (0 : Int) < 2 ∧ (2 : Int) < 1073741824 then some (D.int ((xs.length : Int) / 2)) else none) = _
    rw [if_pos (by decide)]
    rfl
  have h1 : fSlT S (tupI xs) none (some ((xs.length / 2 : Nat) : Int)) = some (tupI (xs.take (xs.length / 2))) := by
    show some (D.tup (PD.cutD (xs.map .int) _ _)) = _
    rw [cut_take _ _ hm, ← List.map_take]
  have h2 : fSlT S (tupI xs) (some ((xs.length / 2 : Nat) : Int)) none = some (tupI (xs.drop (xs.length / 2))) := by
    show some (D.tup (PD.cutD (xs.map .int) _ _)) = _
    rw [cut_drop _ _ hm, ← List.map_drop]
  exact fnM_rt (ρ := [some (tupI xs), none]) rfl ((sSeq_go (sSet_go (eOp_go (eB_go (aCons_go (eVar_go rfl) rfl) hl) rfl hd))).trans (sRet_go (eTup_go (aCons_go (eSl_go (eVar_go rfl) rfl (oPart_go (eVar_go rfl)) h1) (aCons_go (eSl_go (eVar_go rfl) (oPart_go (eVar_go rfl)) rfl h2) rfl)) z2)))
theorem gT_mem {T : List (Int × Int)} (h : Keys T) {e : Int × Int} (he : e ∈ T) : gT T e.1 = e.2 := by
  induction T with
  | nil => cases he
  | cons d T ih =>
    obtain ⟨h1, h2⟩ := List.pairwise_cons.mp h
    rw [gT_cons]
    rcases List.mem_cons.mp he with rfl | he
    · rw [if_pos rfl]
    · rw [if_neg (h1 e he)]
      exact ih h2 he
theorem ixD_ok {S : Sto} {n : Nat} {T : List (Int × Int)} (h : dAt S n T) (hk : Keys T) {e : Int × Int} (he : e ∈ T) : oIxD S (.ref n) (.int e.1) = some (.int e.2) := by
  have hs : (getK (encT T) (.inl e.1)).isSome = true := (encT_some T e.1).mpr ⟨e, he, rfl⟩
  have hg := encT_get T e.1
  rw [gT_mem hk he] at hg
  cases hq : getK (encT T) (.inl e.1) with
  | none => rw [hq] at hs; cases hs
  | some d =>
    rw [hq] at hg
    unfold oIxD
    rw [h.seq]
    simp only [Option.isSome_none, Bool.false_eq_true, if_false]
    unfold oGet
    simp only [h.dic, keyD]
    rw [hq]
    exact congrArg some hg
theorem keys_go {S : Sto} {n : Nat} {T : List (Int × Int)} {ρ : Rho} {i : Nat} (hi : ρ[i]? = some (some (.ref n))) (h : dAt S n T) : aKeys (eVar i) ρ S = .ok (T.map fun e => D.int e.1) (S.set n (.fdic (encT T))) := by
  have hm : ((encT T).map fun kv => kD kv.1) = T.map fun e => D.int e.1 := by
    unfold encT
    rw [List.map_map]; rfl
  unfold aKeys
  rw [eVar_go hi, R.bind_ok]
  rcases h with h | h
  · simp only [h, hm]
  · simp only [h, hm]
    have hnl : n < S.length := (List.getElem?_eq_some_iff.mp h).1
    have : S.set n (.fdic (encT T)) = S := by
      have e := (List.getElem?_eq_some_iff.mp h).2
      rw [← e]; exact List.set_getElem_self hnl
    rw [this]
theorem ws_len (K xs : List Int) : (wsL K xs).length = K.length ^ xs.length := by
  unfold wsL
  rw [List.length_map, allL_len]
theorem sNx_ok' {a : SM} {r : Rho} {S S1 : Sto} {f : F} (h : a r S = .ok f S1) : a r S = .ok f S1 := h
theorem comp2 {e : EM} {it : AM} {ρ : Rho} {S S1 S2 S3 : Sto} {x y u v : D} (hi : it ρ S = .ok [x, y] S1) (h1 : e [some x] S1 = .ok u S2) (h2 : e [some y] S2 = .ok v S3) : eComp it 1 [] (.nm 0) tTrue e ρ S = .ok (.lst [u, v]) S3 := by
  have z2 : (2 : Nat) ≤ sizeLine := by decide
  unfold eComp
  rw [hi, R.bind_ok, if_pos (show [x, y].length ≤ sizeLine from z2)]
  have : capOf 1 [] ρ = [none] := rfl
  rw [this]
  simp only [compL, G.put, List.set_cons_zero, tTrue, R.bind_ok, if_true, h1, h2]
theorem eComp_twoS {A : Type} {x1 x2 : A → D} {out : A → D} {e : EM} {it : AM} {caps : List Nat} {tl r : Rho} {S S1 : Sto} (xs : List A) (hi : it r S = .ok (xs.map fun x => .tup [x1 x, x2 x]) S1) (hl : xs.length ≤ sizeLine) (hc : caps.map (fun i => (r[i]?).join) = tl) (h : ∀ x ∈ xs, e (some (x1 x) :: some (x2 x) :: tl) S1 = .ok (out x) S1) : eComp it 2 caps (.tp [.nm 0, .nm 1]) tTrue e r S = .ok (.lst (xs.map out)) S1 := by
  unfold eComp
  rw [hi, R.bind_ok, if_pos (by rw [List.length_map]; exact hl)]
  have : capOf 2 caps r = none :: none :: tl := by unfold capOf; rw [hc]; rfl
  rw [this, comp_two (out := out) xs none none h, R.bind_ok]
def wlk (A B : List Int) (v : Int) : Nat → Nat → Nat → List (Nat × Nat × Int)
  | 0, _, _ => []
  | n + 1, i, j => if i < A.length ∧ 1 ≤ j then (i, j - 1, A.getD i 0 + B.getD (j - 1) 0) :: (if A.getD i 0 + B.getD (j - 1) 0 < v then wlk A B v n (i + 1) j else wlk A B v n i (j - 1)) else []
theorem rise {A : List Int} (h : A.Pairwise (· ≤ ·)) {i j : Nat} (hij : i ≤ j) (hj : j < A.length) : A.getD i 0 ≤ A.getD j 0 := by
  have hi : i < A.length := by omega
  rw [List.getD_eq_getElem?_getD, List.getD_eq_getElem?_getD, List.getElem?_eq_getElem hi, List.getElem?_eq_getElem hj]
  by_cases e : i = j
  · subst e; exact Int.le_refl _
  · exact List.pairwise_iff_getElem.mp h i j hi hj (by omega)
theorem walk_least {A B : List Int} {v : Int} (hA : A.Pairwise (· ≤ ·)) (hB : B.Pairwise (· ≤ ·)) {p q : Nat} (hp : p < A.length) (hq : q < B.length) (hv : v ≤ A.getD p 0 + B.getD q 0)
    (hm : ∀ x y, x < A.length → y < B.length → v ≤ A.getD x 0 + B.getD y 0 → A.getD p 0 + B.getD q 0 ≤ A.getD x 0 + B.getD y 0) :
    ∀ (n i j : Nat), (A.length - i) + j ≤ n → i ≤ p → q < j → j ≤ B.length → ∃ e ∈ wlk A B v n i j, e.2.2 = A.getD p 0 + B.getD q 0
  | 0, i, j, h, h1, h2, _ => by omega
  | n + 1, i, j, h, h1, h2, h3 => by
    unfold wlk
    rw [if_pos ⟨by omega, by omega⟩]
    by_cases hlt : A.getD i 0 + B.getD (j - 1) 0 < v
    · rw [if_pos hlt]
      by_cases e : i = p
      · subst e
        have := rise hB (i := q) (j := j - 1) (by omega) (by omega)
        omega
      · obtain ⟨x, hx, e2⟩ := walk_least hA hB hp hq hv hm n (i + 1) j (by omega) (by omega) h2 h3
        exact ⟨x, .tail _ hx, e2⟩
    · rw [if_neg hlt]
      by_cases e : j - 1 = q
      · rw [e] at hlt ⊢
        refine ⟨_, .head _, ?_⟩
        have a1 := rise hA h1 hp
        have a2 := hm i q (by omega) hq (by omega)
        show A.getD i 0 + B.getD q 0 = _
        omega
      · obtain ⟨x, hx, e2⟩ := walk_least hA hB hp hq hv hm n i (j - 1) (by omega) h1 (by omega) (by omega)
        exact ⟨x, .tail _ hx, e2⟩
theorem walk_mem {A B : List Int} {v : Int} : ∀ (n i j : Nat), j ≤ B.length → ∀ e ∈ wlk A B v n i j, ∃ x y, x < A.length ∧ y < B.length ∧ e = (x, y, A.getD x 0 + B.getD y 0)
  | 0, _, _, _, e, he => by cases he
  | n + 1, i, j, hj, e, he => by
    unfold wlk at he
    by_cases h : i < A.length ∧ 1 ≤ j
    · rw [if_pos h] at he
      rcases List.mem_cons.mp he with rfl | he
      · exact ⟨i, j - 1, h.1, by omega, rfl⟩
      · by_cases hlt : A.getD i 0 + B.getD (j - 1) 0 < v
        · rw [if_pos hlt] at he; exact walk_mem n (i + 1) j hj e he
        · rw [if_neg hlt] at he; exact walk_mem n i (j - 1) (by omega) e he
    · rw [if_neg h] at he; cases he
theorem walk_len {A B : List Int} {v : Int} : ∀ (n i j : Nat), (wlk A B v n i j).length ≤ n
  | 0, _, _ => Nat.le_refl _
  | n + 1, i, j => by
    unfold wlk
    split
    · rw [List.length_cons]
      split
      · have := walk_len (A := A) (B := B) (v := v) n (i + 1) j; omega
      · have := walk_len (A := A) (B := B) (v := v) n i (j - 1); omega
    · simp
theorem idx_of {A : List Int} {x : Int} (h : x ∈ A) : ∃ p, p < A.length ∧ A.getD p 0 = x := by
  obtain ⟨p, hp, e⟩ := List.mem_iff_getElem.mp h
  exact ⟨p, hp, by rw [List.getD_eq_getElem?_getD, List.getElem?_eq_getElem hp]; exact e⟩
theorem getD_mem' {A : List Int} {p : Nat} (h : p < A.length) : A.getD p 0 ∈ A := by
  rw [List.getD_eq_getElem?_getD, List.getElem?_eq_getElem h]
  exact List.getElem_mem h
def sumsL (A B : List Int) : List Int := A.flatMap fun x => B.map fun y => x + y
theorem mem_sums {A B : List Int} {s : Int} : s ∈ sumsL A B ↔ ∃ x ∈ A, ∃ y ∈ B, x + y = s := by
  simp [sumsL]
theorem least_of {l : List Int} {s : Int} (h : s ∈ l) : ∃ m ∈ l, ∀ x ∈ l, m ≤ x := by
  match l, h with
  | a :: r, _ =>
    obtain ⟨⟨h1, h2⟩, h3⟩ := minZ_le r a
    refine ⟨minZ a r, ?_, fun x hx => ?_⟩
    · rcases h3 with e | e
      · rw [e]; exact .head _
      · exact .tail _ e
    · rcases List.mem_cons.mp hx with rfl | hx
      · exact h1
      · exact h2 x hx
theorem above_walk {A B : List Int} {v : Int} (hA : A.Pairwise (· ≤ ·)) (hB : B.Pairwise (· ≤ ·)) {x y : Int} (hx : x ∈ A) (hy : y ∈ B) (h : v ≤ x + y) : ∃ e ∈ wlk A B v (A.length + B.length) 0 B.length, v ≤ e.2.2 ∧ e.2.2 ≤ x + y := by
  have hs : x + y ∈ (sumsL A B).filter fun s => decide (v ≤ s) := List.mem_filter.mpr ⟨mem_sums.mpr ⟨x, hx, y, hy, rfl⟩, by simpa using h⟩
  obtain ⟨m, hm, hle⟩ := least_of hs
  obtain ⟨hm1, hm2⟩ := List.mem_filter.mp hm
  obtain ⟨a, ha, b, hb, rfl⟩ := mem_sums.mp hm1
  obtain ⟨p, hp, rfl⟩ := idx_of ha
  obtain ⟨q, hq, rfl⟩ := idx_of hb
  have hv : v ≤ A.getD p 0 + B.getD q 0 := by simpa using hm2
  obtain ⟨e, he, ee⟩ := walk_least hA hB hp hq hv (fun i j hi hj hij => hle _ (List.mem_filter.mpr ⟨mem_sums.mpr ⟨_, getD_mem' hi, _, getD_mem' hj, rfl⟩, by simpa using hij⟩)) (A.length + B.length) 0 B.length (by omega) (Nat.zero_le _) hq (Nat.le_refl _)
  exact ⟨e, he, by rw [ee]; exact hv, by rw [ee]; exact hle _ hs⟩
def eW (e : Nat × Nat × Int) : D := .tup [.int e.1, .int e.2.1, .int e.2.2]
theorem tAnd_t {a b : TM} {r : Rho} {S S1 : Sto} (h : a r S = .ok true S1) : PD.tAnd a b r S = b r S1 := by unfold PD.tAnd; rw [h, R.bind_ok]; exact if_pos rfl
theorem tAnd_f {a b : TM} {r : Rho} {S S1 : Sto} (h : a r S = .ok false S1) : PD.tAnd a b r S = .ok false S1 := by unfold PD.tAnd; rw [h, R.bind_ok]; exact if_neg Bool.false_ne_true
noncomputable abbrev wkT : TM := (PD.tAnd (tV (eOp oLt (eVar 4) (eB fLen (aCons (eOp oIx (eVar 2) (eC (.int 0))) aNil)))) (tV (eOp oGe (eVar 5) (eC (.int 0)))))
noncomputable abbrev wkB : SM := (sSeq (sSet 6 (eOp oAdd (eOp oIx (eOp oIx (eVar 2) (eC (.int 0))) (eVar 4)) (eOp oIx (eOp oIx (eVar 2) (eC (.int 1))) (eVar 5)))) (sSeq (sDrop (eMtL mAppend (eVar 3) (aCons (eTup (aCons (eVar 4) (aCons (eVar 5) (aCons (eVar 6) aNil)))) aNil))) (sIf (tV (eOp oLt (eVar 6) (eVar 1))) (sSet 4 (eOp oAdd (eVar 4) (eC (.int 1)))) (sSet 5 (eOp oSub (eVar 5) (eC (.int 1)))))))
theorem ix_tup {S : Sto} {A : List Int} {i : Nat} (h : i < A.length) : oIx S (tupI A) (.int (i : Int)) = some (.int (A.getD i 0)) := by
  show atI (A.map D.int) (i : Int) = _
  rw [atI_nat' (by rw [List.length_map]; exact h), List.getD_eq_getElem?_getD, List.getElem?_eq_getElem h]; simp
theorem len_tup {S : Sto} {A : List Int} : fLen S [tupI A] = some (.int A.length) := by
  show some (D.int ((A.map D.int).length : Int)) = _
  rw [List.length_map]
theorem wk_test {A B : List Int} {v : Int} (r0 r3 r6 : Option D) (i j : Nat) (S : Sto) : wkT [r0, some (.int v), some (.tup [tupI A, tupI B]), r3, some (.int i), some (.int ((j : Int) - 1)), r6] S = .ok (decide (i < A.length ∧ 1 ≤ j)) S := by
  have h1 : tV (eOp oLt (eVar 4) (eB fLen (aCons (eOp oIx (eVar 2) (eC (.int 0))) aNil))) [r0, some (.int v), some (.tup [tupI A, tupI B]), r3, some (.int i), some (.int ((j : Int) - 1)), r6] S = .ok (decide ((i : Int) < A.length)) S :=
    tV_go (eOp_go (eVar_go rfl) (eB_go (aCons_go (eOp_go (x := .tup [tupI A, tupI B]) (eVar_go rfl) rfl rfl) rfl) len_tup) rfl)
  have h2 : tV (eOp oGe (eVar 5) (eC (.int 0))) [r0, some (.int v), some (.tup [tupI A, tupI B]), r3, some (.int i), some (.int ((j : Int) - 1)), r6] S = .ok (decide ((j : Int) - 1 ≥ 0)) S := tV_go (eOp_go (eVar_go rfl) rfl rfl)
  by_cases g : i < A.length
  · rw [decide_eq_true (show (i : Int) < A.length by omega)] at h1
    rw [show wkT = PD.tAnd _ _ from rfl, tAnd_t h1, h2]
    congr 1
    rw [decide_eq_decide]
    omega
  · rw [decide_eq_false (show ¬ (i : Int) < A.length by omega)] at h1
    rw [show wkT = PD.tAnd _ _ from rfl, tAnd_f h1, decide_eq_false (by omega)]
def WkC (A B : List Int) (v : Int) (r0 : Option D) (m n : Nat) : Prop := ∀ (i j : Nat) (S : Sto) (w : List D) (r6 : Option D), (A.length - i) + j ≤ n → j ≤ B.length → S[m]? = some (.lst w) → w.length + n ≤ 1000 →
    ∃ r4 r5 r6' : Option D, whileL wkT wkB (n + 1) [r0, some (.int v), some (.tup [tupI A, tupI B]), some (.ref m), some (.int i), some (.int ((j : Int) - 1)), r6] S = .ok (.nx [r0, some (.int v), some (.tup [tupI A, tupI B]), some (.ref m), r4, r5, r6']) (S.set m (.lst (w ++ (wlk A B v n i j).map eW)))
theorem wk_step {A B : List Int} {v : Int} (r0 : Option D) {m n : Nat} (ih : ∀ k, n = k + 1 → WkC A B v r0 m k) : WkC A B v r0 m n := fun i j S w r6 h1 h2 hm hz => by
    have hml : m < S.length := (List.getElem?_eq_some_iff.mp hm).1
    have same : S.set m (.lst w) = S := by
      have e := (List.getElem?_eq_some_iff.mp hm).2
      rw [← e]; exact List.set_getElem_self hml
    have ht := wk_test (A := A) (B := B) (v := v) r0 (some (.ref m)) r6 i j S
    by_cases g : i < A.length ∧ 1 ≤ j
    · rw [decide_eq_true g] at ht
      obtain ⟨k, rfl⟩ : ∃ k, n = k + 1 := ⟨n - 1, by omega⟩
      have z3 : (3 : Nat) ≤ sizeLine := by decide
      have z : (1000 : Nat) ≤ sizeLine := by decide
      have hj : ((j : Int) - 1) = ((j - 1 : Nat) : Int) := by omega
      have hL : isL S (.ref m) = true := by simp [isL, hm]
      -- the body, up to its last choice
      have hb : ∀ (k1 : SM), sSeq (sSet 6 (eOp oAdd (eOp oIx (eOp oIx (eVar 2) (eC (.int 0))) (eVar 4)) (eOp oIx (eOp oIx (eVar 2) (eC (.int 1))) (eVar 5)))) (sSeq (sDrop (eMtL mAppend (eVar 3) (aCons (eTup (aCons (eVar 4) (aCons (eVar 5) (aCons (eVar 6) aNil)))) aNil))) k1) [r0, some (.int v), some (.tup [tupI A, tupI B]), some (.ref m), some (.int i), some (.int ((j - 1 : Nat) : Int)), r6] S
          = k1 [r0, some (.int v), some (.tup [tupI A, tupI B]), some (.ref m), some (.int i), some (.int ((j - 1 : Nat) : Int)), some (.int (A.getD i 0 + B.getD (j - 1) 0))] (S.set m (.lst (w ++ [eW (i, j - 1, A.getD i 0 + B.getD (j - 1) 0)]))) := fun k1 => by
        refine (sSeq_go (sSet_go (eOp_go (eOp_go (eOp_go (x := .tup [tupI A, tupI B]) (eVar_go rfl) rfl rfl) (eVar_go rfl) (ix_tup g.1)) (eOp_go (eOp_go (x := .tup [tupI A, tupI B]) (eVar_go rfl) rfl rfl) (eVar_go rfl) (ix_tup (by omega))) rfl))).trans (sSeq_go (sDrop_go (d := .non) ((eMtL_go (ys := [eW (i, j - 1, A.getD i 0 + B.getD (j - 1) 0)]) (eVar_go rfl) hL (aCons_go (eTup_go (xs := [.int i, .int ((j - 1 : Nat) : Int), .int (A.getD i 0 + B.getD (j - 1) 0)]) rfl z3) rfl)).trans ?_)))
        unfold mAppend
        simp only [hm]
        rw [if_pos (by omega)]
      unfold whileL
      rw [ht, R.bind_ok, if_pos rfl, hj, show wkB = sSeq _ (sSeq _ _) from rfl, hb]
      have hw : wlk A B v (k + 1) i j = (i, j - 1, A.getD i 0 + B.getD (j - 1) 0) :: (if A.getD i 0 + B.getD (j - 1) 0 < v then wlk A B v k (i + 1) j else wlk A B v k i (j - 1)) := by
        rw [wlk, if_pos g]
      rw [hw]
      have hm' : (S.set m (.lst (w ++ [eW (i, j - 1, A.getD i 0 + B.getD (j - 1) 0)])))[m]? = some (.lst (w ++ [eW (i, j - 1, A.getD i 0 + B.getD (j - 1) 0)])) := List.getElem?_set_self hml
      by_cases hlt : A.getD i 0 + B.getD (j - 1) 0 < v
      · obtain ⟨r4, r5, r6', e⟩ := ih k rfl (i + 1) j _ _ (some (.int (A.getD i 0 + B.getD (j - 1) 0))) (by omega) h2 hm' (by simp; omega)
        refine ⟨r4, r5, r6', ?_⟩
        rw [if_pos hlt, (sIf_t (tV_go (eOp_go (eVar_go rfl) (eVar_go rfl) (congrArg (fun b => some (D.bl b)) (decide_eq_true hlt))))).trans (sSet_go (eOp_go (eVar_go rfl) rfl rfl)), R.bind_ok]
        rw [hj, List.set_set, List.append_assoc] at e
        exact e
      · obtain ⟨r4, r5, r6', e⟩ := ih k rfl i (j - 1) _ _ (some (.int (A.getD i 0 + B.getD (j - 1) 0))) (by omega) (by omega) hm' (by simp; omega)
        refine ⟨r4, r5, r6', ?_⟩
        rw [if_neg hlt, (sIf_f (tV_go (eOp_go (eVar_go rfl) (eVar_go rfl) (congrArg (fun b => some (D.bl b)) (decide_eq_false hlt))))).trans (sSet_go (eOp_go (eVar_go rfl) rfl rfl)), R.bind_ok]
        rw [List.set_set, List.append_assoc] at e
        exact e
    · rw [decide_eq_false g] at ht
      have hw : wlk A B v n i j = [] := by
        cases n with
        | zero => rfl
        | succ n => rw [wlk, if_neg g]
      refine ⟨some (.int i), some (.int ((j : Int) - 1)), r6, ?_⟩
      unfold whileL
      rw [ht, R.bind_ok, if_neg Bool.false_ne_true, hw, List.map_nil, List.append_nil, same]
theorem wk_loop {A B : List Int} {v : Int} (r0 : Option D) {m : Nat} : ∀ n : Nat, WkC A B v r0 m n
  | 0 => wk_step r0 fun _ e => Nat.noConfusion e
  | n + 1 => wk_step r0 fun k e => (Nat.succ.inj e) ▸ wk_loop r0 n
theorem need_rn_ok {xs : List Int} (h : Row xs) (v : Int) (S : Sto) : F_need_row_and_number_n [tupI xs, .int v] S = .ok .non S := by
  have e2 : F_need_number_n [.int v] S = .ok .non S := by
    have e := whole_eq (d := .int v) (S := S) rfl
    have e' : isI (.int v) = true := rfl
    rw [e'] at e
    simp [F_need_number_n, fnM, m_need_number_n, sIf, sSkip, tNx, R.nx, PD.tNot, tV, eCall, eVar, aCons, aNil, R.bind, e]
  refine fnM_nx (ρ := [some (tupI xs), some (.int v)]) rfl ((sSeq_go (sDrop_go ((eCall_go (aCons_go (eVar_go rfl) rfl)).trans (need_row_ok h S)))).trans (sDrop_go ((eCall_go (aCons_go (eVar_go rfl) rfl)).trans e2)))
theorem intsOf_map' : ∀ xs : List Int, intsOf (xs.map .int) = some xs := intsOf_map
theorem tNx_ok' {a : TM} {r : Rho} {S S1 : Sto} {b : Bool} (h : a r S = .ok b S1) : a r S = .ok b S1 := h
theorem kints_enc : ∀ T : List (Int × Int), kints (encT T) = some (T.map (·.1))
  | [] => rfl
  | e :: T => by
    show (kints (encT T)).map (e.1 :: ·) = _
    rw [kints_enc T]; rfl
def wsS (T : List (Int × Int)) : List Int := sortZ (T.map (·.1))
theorem srt_ok {S : Sto} {n : Nat} {T : List (Int × Int)} (h : dAt S n T) (hz : T.length ≤ 1000) : fSrt S [.ref n] = some (.lst ((wsS T).map .int)) := by
  have z : (1000 : Nat) ≤ sizeLine := by decide
  show (match srtOf S (.ref n) with | some ns => if ns.length ≤ sizeLine then some (D.lst ((sortZ ns).map .int)) else none | none => none) = _
  have e : srtOf S (.ref n) = some (T.map (·.1)) := by
    unfold srtOf
    rw [h.seq]
    simp only [h.dic, kints_enc]
  rw [e]
  dsimp only
  rw [if_pos (by rw [List.length_map]; omega)]
  rfl
theorem wsS_mem {T : List (Int × Int)} {f : List Int} (h : Hist T f) (w : Int) : w ∈ wsS T ↔ w ∈ f := by
  unfold wsS
  rw [(sortZ_perm _).mem_iff, List.mem_map, ← h.mem w]
theorem wsS_len (T : List (Int × Int)) : (wsS T).length = T.length := by unfold wsS; rw [(sortZ_perm _).length_eq, List.length_map]
theorem tup_lst {S : Sto} {l : List D} : fTuple S [.lst l] = some (.tup l) := rfl
theorem hw_ok {xs : List Int} (h12 : xs.length ≤ 12) (hr : Row xs) (S : Sto) : ∃ (S' : Sto) (A B : List (Int × Int)), F_half_worths_n [tupI xs] S = .ok (.tup [tupI (wsS A), tupI (wsS B)]) S' ∧ Pre S S' ∧ Hist A (wsL KS (xs.take (xs.length / 2))) ∧ Hist B (wsL KS (xs.drop (xs.length / 2))) ∧ A.length ≤ 64 ∧ B.length ≤ 64 := by
  have hk : ∀ q ∈ KS, -1 ≤ q ∧ q ≤ 1 := by decide
  have hl1 : (xs.take (xs.length / 2)).length ≤ 6 := by rw [List.length_take]; omega
  have hl2 : (xs.drop (xs.length / 2)).length ≤ 6 := by rw [List.length_drop]; omega
  have bnd : ∀ ys : List Int, ys.length ≤ 6 → (wsL KS ys).length ≤ 64 := fun ys h => by
    rw [ws_len]
    exact Nat.le_trans (Nat.pow_le_pow_right (by decide) h) (by decide)
  obtain ⟨S1, a, A, tA, dA, la, hA, pA⟩ := tableof_ok (K := KS) (xs := xs.take (xs.length / 2)) (by decide) hk (by omega) S
  obtain ⟨S2, b, B, tB, dB, lb, hB, pB⟩ := tableof_ok (K := KS) (xs := xs.drop (xs.length / 2)) (by decide) hk (by omega) S1
  have lA : A.length ≤ 64 := Nat.le_trans hA.len (bnd _ hl1)
  have lB : B.length ≤ 64 := Nat.le_trans hB.len (bnd _ hl2)
  refine ⟨S2, A, B, ?_, pA.trans pB, hA, hB, lA, lB⟩
  have hc : eComp (aSeq (eCall F_halves_of (aCons (eVar 0) aNil)) itSeq) 1 [] (.nm 0) tTrue (eB fTuple (aCons (eB fSrt (aCons (eCall F_table_of (aCons (eVar 0) (aCons (eC (.tup (([(-1), (1)] : List Int).map .int))) aNil))) aNil)) aNil)) [some (tupI xs)] S = .ok (.lst [tupI (wsS A), tupI (wsS B)]) S2 :=
    comp2 (S1 := S) (by unfold aSeq; rw [(eCall_go (aCons_go (eVar_go rfl) rfl)).trans (show F_halves_of [tupI xs] S = _ from halves_ok xs S), R.bind_ok]; rfl)
      (eB_go (aCons_go (eB_go (aCons_go ((eCall_go (aCons_go (eVar_go rfl) (aCons_go rfl rfl))).trans tA) rfl) (srt_ok (.inl dA) (by omega))) rfl) tup_lst)
      (eB_go (aCons_go (eB_go (aCons_go ((eCall_go (aCons_go (eVar_go rfl) (aCons_go rfl rfl))).trans tB) rfl) (srt_ok (.inl dB) (by omega))) rfl) tup_lst)
  exact fnM_rt (ρ := [some (tupI xs)]) rfl ((sSeq_go (sDrop_go ((eCall_go (aCons_go (eVar_go rfl) rfl)).trans (need_row_ok hr S)))).trans (sNx_ok' (sRet_go (eB_go (aCons_go hc rfl) tup_lst))))
abbrev wkL (A B : List (Int × Int)) (v : Int) : List (Nat × Nat × Int) := wlk (wsS A) (wsS B) v ((wsS A).length + (wsS B).length) 0 (wsS B).length
theorem walk_ok {xs : List Int} (h12 : xs.length ≤ 12) (hr : Row xs) (v : Int) (S : Sto) : ∃ (S' : Sto) (m : Nat) (A B : List (Int × Int)), F_walk_n [tupI xs, .int v] S = .ok (.ref m) S' ∧ S'[m]? = some (.lst ((wkL A B v).map eW)) ∧ Pre S S' ∧ Hist A (wsL KS (xs.take (xs.length / 2))) ∧ Hist B (wsL KS (xs.drop (xs.length / 2))) ∧ (wkL A B v).length ≤ 128 ∧ S.length ≤ m := by
  obtain ⟨S1, A, B, e1, p1, hA, hB, lA, lB⟩ := hw_ok h12 hr S
  have hlen : (wsS A).length + (wsS B).length ≤ 128 := by rw [wsS_len, wsS_len]; omega
  obtain ⟨r4, r5, r6, e2⟩ := wk_loop (A := wsS A) (B := wsS B) (v := v) (some (tupI xs)) (m := S1.length) ((wsS A).length + (wsS B).length) 0 (wsS B).length (S1 ++ [.lst []]) [] none (by omega) (Nat.le_refl _) (by simp) (by simp; omega)
  have hset : (S1 ++ [SO.lst []]).set S1.length (.lst ([] ++ (wkL A B v).map eW)) = S1 ++ [.lst ((wkL A B v).map eW)] := by simp
  refine ⟨S1 ++ [.lst ((wkL A B v).map eW)], S1.length, A, B, ?_, by simp, p1.trans (Pre.app _ _), hA, hB, Nat.le_trans (walk_len _ _ _) hlen, p1.len⟩
  have e3 : sWh wkT wkB [some (tupI xs), some (.int v), some (.tup [tupI (wsS A), tupI (wsS B)]), some (.ref S1.length), some (.int ((0 : Nat) : Int)), some (.int (((wsS B).length : Int) - 1)), none] (S1 ++ [.lst []]) = .ok (.nx [some (tupI xs), some (.int v), some (.tup [tupI (wsS A), tupI (wsS B)]), some (.ref S1.length), r4, r5, r6]) (S1 ++ [.lst ((wkL A B v).map eW)]) := by
    rw [sWh_eq _ (by rw [e2]; exact fun z => by cases z), e2, hset]
  refine fnM_rt (ρ := [some (tupI xs), some (.int v), none, none, none, none, none]) rfl ?_
  refine (sSeq_go (sSet_go ((eCall_go (aCons_go (eVar_go rfl) rfl)).trans e1))).trans ?_
  refine (sSeq_go (S1 := S1 ++ [.lst []]) (sNx_ok' (sSet_go rfl))).trans ?_
  refine (sSeq_go (sNx_ok' (sSet_go rfl))).trans ?_
  refine (sSeq_go (sNx_ok' (sSet_go (eOp_go (eB_go (aCons_go (eOp_go (x := .tup [tupI (wsS A), tupI (wsS B)]) (eVar_go rfl) rfl rfl) rfl) len_tup) rfl rfl)))).trans ?_
  exact (sSeq_go (sNx_ok' e3)).trans (sNx_ok' (sRet_go (eVar_go rfl)))
theorem frz_go {m : EM} {r : Rho} {S S1 : Sto} {n : Nat} {xs : List D} (h : m r S = .ok (.ref n) S1) (hn : S1[n]? = some (.lst xs)) : aFrz m r S = .ok xs (S1.set n (.flst xs)) := by
  unfold aFrz
  rw [h, R.bind_ok]
  simp only [hn]
theorem comp_thrF {A : Type} {x1 x2 x3 : A → D} {out : A → D} {p : A → Bool} {t : TM} {e : EM} {tl : Rho} {S : Sto} : ∀ (xs : List A) (r0 r1 r2 : Option D), (∀ x ∈ xs, t (some (x1 x) :: some (x2 x) :: some (x3 x) :: tl) S = .ok (p x) S) → (∀ x ∈ xs, p x = true → e (some (x1 x) :: some (x2 x) :: some (x3 x) :: tl) S = .ok (out x) S) → compL (.tp [.nm 0, .nm 1, .nm 2]) t e (xs.map fun x => .tup [x1 x, x2 x, x3 x]) (r0 :: r1 :: r2 :: tl) S = .ok ((xs.filter p).map out) S
  | [], _, _, _, _, _ => rfl
  | x :: xs, r0, r1, r2, ht, h => by
    have h0 := ht x List.mem_cons_self
    have h2 := comp_thrF (out := out) xs (some (x1 x)) (some (x2 x)) (some (x3 x)) (fun y hy => ht y (List.mem_cons_of_mem _ hy)) fun y hy => h y (List.mem_cons_of_mem _ hy)
    rw [List.map_cons, compL]
    cases hp : p x with
    | true =>
      have h1 := h x List.mem_cons_self hp
      rw [hp] at h0
      simp only [G.put, G.puts, List.set_cons_zero, List.set_cons_succ, R.bind_ok, if_true, h0, h1, h2, List.map_cons, List.filter_cons, hp]
    | false =>
      rw [hp] at h0
      simp only [G.put, G.puts, List.set_cons_zero, List.set_cons_succ, R.bind_ok, h0, h2, List.filter_cons, hp, Bool.false_eq_true, if_false]
theorem eComp_thrF {A : Type} {x1 x2 x3 : A → D} {out : A → D} {p : A → Bool} {t : TM} {e : EM} {it : AM} {caps : List Nat} {tl r : Rho} {S S1 : Sto} (xs : List A) (hi : it r S = .ok (xs.map fun x => .tup [x1 x, x2 x, x3 x]) S1) (hl : xs.length ≤ sizeLine) (hc : caps.map (fun i => (r[i]?).join) = tl) (ht : ∀ x ∈ xs, t (some (x1 x) :: some (x2 x) :: some (x3 x) :: tl) S1 = .ok (p x) S1) (h : ∀ x ∈ xs, p x = true → e (some (x1 x) :: some (x2 x) :: some (x3 x) :: tl) S1 = .ok (out x) S1) : eComp it 3 caps (.tp [.nm 0, .nm 1, .nm 2]) t e r S = .ok (.lst ((xs.filter p).map out)) S1 := by
  unfold eComp
  rw [hi, R.bind_ok, if_pos (by rw [List.length_map]; exact hl)]
  have : capOf 3 caps r = none :: none :: none :: tl := by unfold capOf; rw [hc]; rfl
  rw [this, comp_thrF (out := out) xs none none none ht h, R.bind_ok]
def optI : Option Int → D
  | none => .non
  | some i => .int i
def minO : List Int → Option Int
  | [] => none
  | n :: ns => some (minZ n ns)
theorem minDI (S : Sto) : ∀ l : List Int, fMinD S [.lst (l.map .int)] = some (optI (minO l))
  | [] => rfl
  | n :: ns => by
    have e := intsOf_map' (n :: ns)
    rw [List.map_cons] at e ⊢
    unfold fMinD
    have ht : tupsOf (D.int n :: ns.map D.int) = none := rfl
    simp only [isLst, ht, e]
    rfl
theorem minO_ok : ∀ {l : List Int} {u : Int}, minO l = some u → u ∈ l ∧ ∀ x ∈ l, u ≤ x
  | n :: ns, u, h => by
    cases h
    obtain ⟨⟨h1, h2⟩, h3⟩ := minZ_le ns n
    refine ⟨?_, fun x hx => ?_⟩
    · rcases h3 with e | e
      · rw [e]; exact .head _
      · exact .tail _ e
    · rcases List.mem_cons.mp hx with rfl | hx
      · exact h1
      · exact h2 x hx
def IsAb (xs : List Int) (v : Int) : Option Int → Prop
  | none => ∀ u, Wo KS xs u → u < v
  | some u => Wo KS xs u ∧ v ≤ u ∧ ∀ z, Wo KS xs z → v ≤ z → u ≤ z
theorem wo_halves {xs : List Int} {A B : List (Int × Int)} (hA : Hist A (wsL KS (xs.take (xs.length / 2)))) (hB : Hist B (wsL KS (xs.drop (xs.length / 2)))) (u : Int) : Wo KS xs u ↔ ∃ x ∈ wsS A, ∃ y ∈ wsS B, x + y = u := by
  have := ws_app (K := KS) (xs := xs.take (xs.length / 2)) (ys := xs.drop (xs.length / 2)) (v := u)
  rw [List.take_append_drop] at this
  rw [← this]
  constructor
  · rintro ⟨x, hx, y, hy, e⟩
    exact ⟨x, (wsS_mem hA x).mpr hx, y, (wsS_mem hB y).mpr hy, e⟩
  · rintro ⟨x, hx, y, hy, e⟩
    exact ⟨x, (wsS_mem hA x).mp hx, y, (wsS_mem hB y).mp hy, e⟩
theorem above_ok {xs : List Int} (h12 : xs.length ≤ 12) (hr : Row xs) (v : Int) (S : Sto) : ∃ (S' : Sto) (o : Option Int), F_above_n [tupI xs, .int v] S = .ok (optI o) S' ∧ Pre S S' ∧ IsAb xs v o := by
  obtain ⟨S1, m, A, B, e1, hm, p1, hA, hB, hlen, hml⟩ := walk_ok h12 hr v S
  have z : (1000 : Nat) ≤ sizeLine := by decide
  have hc : eComp (aFrz (eCall F_walk_n (aCons (eVar 0) (aCons (eVar 1) aNil)))) 3 [1] (.tp [(.nm 0), (.nm 1), (.nm 2)]) (tV (eOp oGe (eVar 2) (eVar 3))) (eVar 2) [some (tupI xs), some (.int v)] S = .ok (.lst (((wkL A B v).filter fun e => decide (v ≤ e.2.2)).map fun e => D.int e.2.2)) (S1.set m (.flst ((wkL A B v).map eW))) :=
    eComp_thrF (x1 := fun e : Nat × Nat × Int => .int e.1) (x2 := fun e => .int e.2.1) (x3 := fun e => .int e.2.2) (tl := [some (.int v)]) (wkL A B v) (frz_go ((eCall_go (aCons_go (eVar_go rfl) (aCons_go (eVar_go rfl) rfl))).trans e1) hm) (by omega) rfl
      (fun e he => tNx_ok' (tV_go (eOp_go (eVar_go rfl) (eVar_go rfl) rfl))) fun e he _ => eVar_go rfl
  have hl : ((wkL A B v).filter fun e => decide (v ≤ e.2.2)).map (fun e => D.int e.2.2) = (((wkL A B v).filter fun e => decide (v ≤ e.2.2)).map fun e => e.2.2).map D.int := by rw [List.map_map]; rfl
  rw [hl] at hc
  refine ⟨S1.set m (.flst ((wkL A B v).map eW)), minO (((wkL A B v).filter fun e => decide (v ≤ e.2.2)).map fun e => e.2.2), ?_, p1.set hml _, ?_⟩
  · exact fnM_rt (ρ := [some (tupI xs), some (.int v)]) rfl ((sSeq_go (sDrop_go ((eCall_go (aCons_go (eVar_go rfl) (aCons_go (eVar_go rfl) rfl))).trans (need_rn_ok hr v S)))).trans (sRet_go (eB_go (aCons_go hc rfl) (minDI _ _))))
  · have hit : ∀ u, Wo KS xs u → v ≤ u → ∃ w ∈ ((wkL A B v).filter fun e => decide (v ≤ e.2.2)).map fun e => e.2.2, w ≤ u := fun u hu hv => by
      obtain ⟨x, hx, y, hy, rfl⟩ := (wo_halves hA hB u).mp hu
      obtain ⟨e, he, h1, h2⟩ := above_walk (sortZ_sorted _) (sortZ_sorted _) hx hy hv
      exact ⟨e.2.2, List.mem_map.mpr ⟨e, List.mem_filter.mpr ⟨he, by simpa using h1⟩, rfl⟩, h2⟩
    cases ho : minO (((wkL A B v).filter fun e => decide (v ≤ e.2.2)).map fun e => e.2.2) with
    | none =>
      intro u hu
      rcases Int.lt_or_le u v with h | h
      · exact h
      · obtain ⟨w, hw, _⟩ := hit u hu h
        match hl : ((wkL A B v).filter fun e => decide (v ≤ e.2.2)).map fun e => e.2.2 with
        | [] => rw [hl] at hw; cases hw
        | n :: ns => rw [hl] at ho; cases ho
    | some u =>
      obtain ⟨h1, h2⟩ := minO_ok ho
      obtain ⟨e, he, rfl⟩ := List.mem_map.mp h1
      obtain ⟨he, hv⟩ := List.mem_filter.mp he
      obtain ⟨x, y, hx, hy, rfl⟩ := walk_mem _ _ _ (Nat.le_refl _) e he
      refine ⟨(wo_halves hA hB _).mpr ⟨_, getD_mem' hx, _, getD_mem' hy, rfl⟩, by simpa using hv, fun z hz hvz => ?_⟩
      obtain ⟨w, hw, hwz⟩ := hit z hz hvz
      exact Int.le_trans (h2 w hw) hwz
theorem set_back {S : Sto} {n : Nat} {o o' : SO} (h : S[n]? = some o) : (S.set n o').set n o = S := by
  have hl : n < S.length := (List.getElem?_eq_some_iff.mp h).1
  rw [List.set_set]
  have e := (List.getElem?_eq_some_iff.mp h).2
  rw [← e]
  exact List.set_getElem_self hl
theorem thaw_go {i n : Nat} {kvs : List (KD × D)} {ρ : Rho} {S : Sto} {m : EM} {d : D} (hi : ρ[i]? = some (some (.ref n))) (hd : S[n]? = some (.dic kvs)) (hm : m ρ S = .ok d (S.set n (.fdic kvs))) : eThaw i m ρ S = .ok d S := by
  have hnl : n < S.length := (List.getElem?_eq_some_iff.mp hd).1
  unfold eThaw
  rw [hi]
  simp only [hd]
  rw [hm, R.bind_ok]
  congr 1
  unfold thawS
  rw [List.getElem?_set_self hnl]
  exact set_back hd
theorem comp_mapS {A : Type} {enc out : A → D} {e : EM} {it : AM} {caps : List Nat} {tl r : Rho} {S S1 : Sto} (xs : List A) (hi : it r S = .ok (xs.map enc) S1) (hl : xs.length ≤ sizeLine) (hc : caps.map (fun i => (r[i]?).join) = tl) (h : ∀ x ∈ xs, e (some (enc x) :: tl) S1 = .ok (out x) S1) : eComp it 1 caps (.nm 0) tTrue e r S = .ok (.lst (xs.map out)) S1 := by
  unfold eComp
  rw [hi, R.bind_ok, if_pos (by rw [List.length_map]; exact hl)]
  have : capOf 1 caps r = none :: tl := by unfold capOf; rw [hc]; rfl
  rw [this, comp_map (out := out) xs none h, R.bind_ok]
abbrev TI := List (Int × Int)
def Sm (f : List Int) (h : Int → Int) : Int := (f.map h).sum
theorem Sm_congr {f : List Int} {h g : Int → Int} (e : ∀ x, h x = g x) : Sm f h = Sm f g := by rw [show h = g from funext e]
theorem Sm_fS (K : List Int) (x : Int) (f : List Int) (h : Int → Int) : Sm (fS K x f) h = Sm f fun y => Sm K fun q => h (y + q * x) := sum_fS K x h f
theorem Sm_add : ∀ (f : List Int) (h g : Int → Int), Sm f (fun x => h x + g x) = Sm f h + Sm f g
  | [], _, _ => rfl
  | x :: f, h, g => by
    have := Sm_add f h g
    unfold Sm at this ⊢
    simp only [List.map_cons, List.sum_cons, this]; omega
theorem Sm_zero : ∀ f : List Int, Sm f (fun _ => 0) = 0
  | [] => rfl
  | x :: f => by
    have := Sm_zero f
    unfold Sm at this ⊢
    simp only [List.map_cons, List.sum_cons, this]; rfl
theorem Sm_swap (f : List Int) (h : Int → Int → Int) : ∀ g : List Int, Sm f (fun x => Sm g fun y => h x y) = Sm g fun y => Sm f fun x => h x y
  | [] => Sm_zero f
  | y :: g => by
    have ih := Sm_swap f h g
    have e : ∀ x, Sm (y :: g) (fun y => h x y) = h x y + Sm g fun y => h x y := fun x => by unfold Sm; rw [List.map_cons, List.sum_cons]
    rw [Sm_congr e, Sm_add, ih]
    unfold Sm
    rw [List.map_cons, List.sum_cons]
theorem Sm_app (K xs : List Int) : ∀ (n : Nat) (ys : List Int) (h : Int → Int), ys.length = n → Sm (wsL K (xs ++ ys)) h = Sm (wsL K xs) fun z => Sm (wsL K ys) fun w => h (z + w)
  | 0, ys, h, hn => by
    rw [List.length_eq_zero_iff.mp hn, List.append_nil]
    refine Sm_congr fun z => ?_
    show h z = h (z + 0) + 0
    rw [Int.add_zero, Int.add_zero]
  | n + 1, ys, h, hn => by
    obtain ⟨zs, y, rfl⟩ : ∃ zs y, ys = zs ++ [y] := ⟨ys.dropLast, ys.getLast (fun z => by rw [z] at hn; cases hn), (List.dropLast_concat_getLast _).symm⟩
    rw [List.length_append] at hn
    have hl : zs.length = n := by simpa using hn
    rw [← List.append_assoc, wsL_snoc, Sm_fS, Sm_app K xs n zs _ hl]
    refine Sm_congr fun z => ?_
    rw [wsL_snoc, Sm_fS]
    refine Sm_congr fun w => Sm_congr fun q => ?_
    rw [Int.add_assoc]
def Alike (f g : List Int) : Prop := ∀ h, Sm f h = Sm g h
theorem Sm_one (K : List Int) (x : Int) (h : Int → Int) : Sm (wsL K [x]) h = Sm K fun q => h (q * x) := by
  have e := wsL_snoc K [] x
  rw [List.nil_append] at e
  rw [e, Sm_fS]
  show (Sm K fun q => h (0 + q * x)) + 0 = _
  rw [Int.add_zero]
  exact Sm_congr fun q => by rw [Int.zero_add]
theorem ws_perm (K : List Int) {a b : List Int} (p : a.Perm b) : Alike (wsL K a) (wsL K b) := by
  have cs : ∀ (x : Int) (l : List Int) h, Sm (wsL K (x :: l)) h = Sm K fun q => Sm (wsL K l) fun w => h (q * x + w) := fun x l h => by
    have := Sm_app K [x] l.length l h rfl
    rw [Sm_one] at this
    exact this
  induction p with
  | nil => exact fun h => rfl
  | cons x _ ih => exact fun h => by rw [cs, cs]; exact Sm_congr fun q => ih _
  | swap x y l =>
    intro h
    rw [cs, cs]
    have e1 : ∀ q, (Sm (wsL K (x :: l)) fun w => h (q * y + w)) = Sm K fun r => Sm (wsL K l) fun w => h (q * y + (r * x + w)) := fun q => cs x l _
    have e2 : ∀ q, (Sm (wsL K (y :: l)) fun w => h (q * x + w)) = Sm K fun r => Sm (wsL K l) fun w => h (q * x + (r * y + w)) := fun q => cs y l _
    rw [Sm_congr e1, Sm_congr e2, Sm_swap K (fun q r => Sm (wsL K l) fun w => h (q * y + (r * x + w))) K]
    exact Sm_congr fun q => Sm_congr fun r => Sm_congr fun w => by rw [show r * y + (q * x + w) = q * x + (r * y + w) by omega]
  | trans _ _ i1 i2 => exact fun h => (i1 h).trans (i2 h)
theorem mem_sm {f : List Int} {v : Int} : v ∈ f ↔ 0 < Sm f (fun y => if y = v then 1 else 0) := by
  have e : Sm f (fun y => if y = v then 1 else 0) = ((f.filter fun y => decide (y = v)).length : Int) := sum_ind v f
  rw [e]
  constructor
  · intro h
    have : 0 < (f.filter fun y => decide (y = v)).length := List.length_pos_of_mem (List.mem_filter.mpr ⟨h, decide_eq_true rfl⟩)
    omega
  · intro h
    have h' : 0 < (f.filter fun y => decide (y = v)).length := by omega
    obtain ⟨y, hy⟩ := List.exists_mem_of_length_pos h'
    obtain ⟨h1, h2⟩ := List.mem_filter.mp hy
    rw [← of_decide_eq_true h2]; exact h1
theorem sub_len {A B : List Int} (hA : A.Nodup) (h : ∀ a ∈ A, a ∈ B) : A.length ≤ B.length := by
  induction A generalizing B with
  | nil => exact Nat.zero_le _
  | cons a A ih =>
    obtain ⟨h1, h2⟩ := List.nodup_cons.mp hA
    have hb := h a (.head _)
    have := ih (B := B.erase a) h2 fun x hx => (List.mem_erase_of_ne (fun e => h1 (by rw [← e]; exact hx))).mpr (h x (.tail _ hx))
    rw [List.length_erase_of_mem hb] at this
    have hp := List.length_pos_of_mem hb
    rw [List.length_cons]
    omega
theorem keys_nd {T : TI} (h : Keys T) : (T.map (·.1)).Nodup := by
  unfold Keys at h
  rw [List.nodup_iff_pairwise_ne, List.pairwise_map]
  exact h
theorem gT_no {T : TI} {v : Int} (h : ¬ ∃ e ∈ T, e.1 = v) : gT T v = 0 := no_key (by
  rw [List.any_eq_false]
  intro e he hd
  exact h ⟨e, he, of_decide_eq_true hd⟩)
theorem mem_gT {T : TI} (h : Keys T) {v : Int} (hv : ∃ e ∈ T, e.1 = v) : (v, gT T v) ∈ T := by
  obtain ⟨e, he, rfl⟩ := hv
  rw [gT_mem h he]; exact he
abbrev lkT (T : TI) : List (KD × Int) := T.map fun e => ((.inl e.1 : KD), e.2)
theorem same_T {T T' : TI} (h : Keys T) (h' : Keys T') (hm : ∀ v, (∃ e ∈ T, e.1 = v) ↔ ∃ e ∈ T', e.1 = v) (hg : ∀ v, gT T v = gT T' v) : sameT (lkT T) (lkT T') = true := by
  have hl : T.length = T'.length := by
    have a := sub_len (keys_nd h) (B := T'.map (·.1)) fun x hx => List.mem_map.mpr ((hm x).mp (List.mem_map.mp hx))
    have b := sub_len (keys_nd h') (B := T.map (·.1)) fun x hx => List.mem_map.mpr ((hm x).mpr (List.mem_map.mp hx))
    simp only [List.length_map] at a b
    omega
  unfold sameT
  rw [Bool.and_eq_true]
  refine ⟨decide_eq_true (by rw [List.length_map, List.length_map]; exact hl), List.all_eq_true.mpr fun x hx => decide_eq_true ?_⟩
  obtain ⟨e, he, rfl⟩ := List.mem_map.mp hx
  rw [List.find?_map]
  have hfun : ((fun e' : KD × Int => decide (e'.1 = (.inl e.1 : KD))) ∘ fun e : Int × Int => ((.inl e.1 : KD), e.2)) = fun e' => decide (e'.1 = e.1) := by
    funext d
    show decide ((Sum.inl d.1 : KD) = .inl e.1) = decide (d.1 = e.1)
    rw [decide_eq_decide]
    exact ⟨Sum.inl.inj, fun z => by rw [z]⟩
  rw [hfun]
  obtain ⟨e', he', z⟩ := (hm _).mp ⟨e, he, rfl⟩
  cases hf : T'.find? fun e' => decide (e'.1 = e.1) with
  | none =>
    rw [List.find?_eq_none] at hf
    exact absurd (decide_eq_true z) (hf e' he')
  | some d =>
    have hd1 : d.1 = e.1 := by
      have := List.find?_some hf
      simpa using this
    have hd2 : d ∈ T' := List.mem_of_find?_eq_some hf
    have e1 := gT_mem h he
    have e2 := gT_mem h' hd2
    have e3 := hg e.1
    rw [← hd1] at e3
    rw [hd1] at e3 e2
    show some d.2 = some e.2
    rw [← e1, ← e2, e3]
theorem Hist.gTs {T : TI} {f : List Int} (h : Hist T f) (v : Int) : gT T v = Sm f fun y => if y = v then 1 else 0 := by
  rw [← gT_sum h.keys, h.sum]; rfl
theorem same_H {T T' : TI} {f g : List Int} (h : Hist T f) (h' : Hist T' g) (a : Alike f g) : sameT (lkT T) (lkT T') = true := same_T h.keys h'.keys (fun v => by rw [h.mem v, h'.mem v, mem_sm, mem_sm, a]) fun v => by rw [h.gTs, h'.gTs, a]
theorem sumH_same (h : Int → Int) : ∀ {T T' : TI}, Keys T → Keys T' → (∀ v, (∃ e ∈ T, e.1 = v) ↔ ∃ e ∈ T', e.1 = v) → (∀ v, gT T v = gT T' v) → sumH h T = sumH h T' := fun {T T'} k k' hm hg => by
  have nd : ∀ {T : TI}, Keys T → T.Nodup := fun {T} k => by
    rw [List.nodup_iff_pairwise_ne]
    exact List.Pairwise.imp (fun {a b} z e => z (by rw [e])) k
  have key : ∀ {T T' : TI}, Keys T → Keys T' → (∀ v, (∃ e ∈ T, e.1 = v) → ∃ e ∈ T', e.1 = v) → (∀ v, gT T v = gT T' v) → ∀ e ∈ T, e ∈ T' := fun {T T'} k k' hm hg e he => by
    have := mem_gT k' (hm e.1 ⟨e, he, rfl⟩)
    rw [← hg, gT_mem k he] at this
    exact this
  have p : T.Perm T' := (List.perm_ext_iff_of_nodup (nd k) (nd k')).mpr fun e => ⟨key k k' (fun v => (hm v).mp) hg e, key k' k (fun v => (hm v).mpr) (fun v => (hg v).symm) e⟩
  unfold sumH
  exact sum_permI (p.map _)
theorem mult_hist {P A B : TI} {f g r : List Int} (h : HistC P (pairsT A B)) (hA : Hist A f) (hB : Hist B g) (hr : ∀ k : Int → Int, Sm r k = Sm f fun x => Sm g fun y => k (x + y)) (hl : P.length ≤ r.length) : Hist P r := by
  have hs : ∀ k : Int → Int, sumH k P = Sm r k := fun k => by
    rw [h.sum, sumH_pairs, hr, hA.sum]
    exact Sm_congr fun x => hB.sum _
  refine ⟨h.keys, fun v => ?_, fun k => hs k, hl⟩
  rw [pairs_mem h hA hB, mem_sm, hr]
  have nn : ∀ (l : List Int) (k : Int → Int), (∀ x, 0 ≤ k x) → 0 ≤ Sm l k ∧ (0 < Sm l k ↔ ∃ x ∈ l, 0 < k x) := fun l k hk => by
    induction l with
    | nil => exact ⟨Int.le_refl _, ⟨fun z => absurd (show (0 : Int) < 0 from z) (by decide), fun ⟨x, hx, _⟩ => by cases hx⟩⟩
    | cons x l ih =>
      have e : Sm (x :: l) k = k x + Sm l k := by unfold Sm; rw [List.map_cons, List.sum_cons]
      have := hk x
      obtain ⟨i1, i2⟩ := ih
      rw [e]
      refine ⟨by omega, fun z => ?_, fun ⟨y, hy, q⟩ => ?_⟩
      · by_cases c : 0 < k x
        · exact ⟨x, .head _, c⟩
        · obtain ⟨y, hy, q⟩ := i2.mp (by omega)
          exact ⟨y, .tail _ hy, q⟩
      · rcases List.mem_cons.mp hy with rfl | hy
        · omega
        · have := i2.mpr ⟨y, hy, q⟩; omega
  have ind : ∀ w : Int, (0 : Int) ≤ if w = v then 1 else 0 := fun w => by split <;> decide
  rw [(nn f _ fun x => (nn g _ fun y => ind _).1).2]
  constructor
  · rintro ⟨x, hx, y, hy, e⟩
    exact ⟨x, hx, (nn g _ fun y => ind _).2.mpr ⟨y, hy, by rw [if_pos e]; decide⟩⟩
  · rintro ⟨x, hx, q⟩
    obtain ⟨y, hy, q⟩ := (nn g _ fun y => ind _).2.mp q
    exact ⟨x, hx, y, hy, Classical.byContradiction fun z => by rw [if_neg z] at q; exact absurd q (by decide)⟩
theorem wor_grow (b : Int) : ∀ (xs p : List Int), wor (xs.map (· * b)) p = wor xs p * b
  | [], p => by cases p <;> (show (0 : Int) = 0 * b; rw [Int.zero_mul])
  | x :: xs, [] => by show (0 : Int) = 0 * b; rw [Int.zero_mul]
  | x :: xs, q :: p => by
    show x * b * q + wor (xs.map (· * b)) p = (x * q + wor xs p) * b
    rw [wor_grow b xs p, Int.add_mul, Int.mul_right_comm]
theorem ws_grow (K : List Int) (b : Int) (xs : List Int) : wsL K (xs.map (· * b)) = (wsL K xs).map (· * b) := by
  unfold wsL
  rw [List.length_map, List.map_map]
  exact List.map_congr_left fun p _ => wor_grow b xs p
theorem mul_inj {x y b : Int} (h : 1 ≤ b) (e : x * b = y * b) : x = y := Int.eq_of_mul_eq_mul_right (by omega) e
def grT (b : Int) (T : TI) : TI := T.map fun e => (e.1 * b, e.2)
theorem grT_keys {b : Int} (hb : 1 ≤ b) {T : TI} (h : Keys T) : Keys (grT b T) := by
  unfold Keys grT
  rw [List.pairwise_map]
  exact List.Pairwise.imp (fun {x y} z e => z (mul_inj hb e)) h
theorem grow_hist {b : Int} (hb : 1 ≤ b) {T : TI} {f : List Int} (h : Hist T f) : Hist (grT b T) (f.map (· * b)) := by
  refine ⟨grT_keys hb h.keys, fun v => ?_, fun k => ?_, by unfold grT; rw [List.length_map, List.length_map]; exact h.len⟩
  · unfold grT
    constructor
    · rintro ⟨e, he, rfl⟩
      obtain ⟨d, hd, rfl⟩ := List.mem_map.mp he
      exact List.mem_map.mpr ⟨d.1, (h.mem _).mp ⟨d, hd, rfl⟩, rfl⟩
    · intro hv
      obtain ⟨w, hw, rfl⟩ := List.mem_map.mp hv
      obtain ⟨d, hd, rfl⟩ := (h.mem w).mpr hw
      exact ⟨_, List.mem_map.mpr ⟨d, hd, rfl⟩, rfl⟩
  · have e := h.sum fun y => k (y * b)
    unfold sumH at e ⊢
    unfold grT
    rw [List.map_map, List.map_map]
    exact e
theorem wo_grow {b : Int} {xs : List Int} {v : Int} : Wo KS (xs.map (· * b)) v ↔ ∃ u, Wo KS xs u ∧ u * b = v := by
  rw [Wo_all, List.length_map]
  constructor
  · rintro ⟨p, hp, rfl⟩
    exact ⟨wor xs p, Wo_all.mpr ⟨p, hp, rfl⟩, (wor_grow b xs p).symm⟩
  · rintro ⟨u, hu, rfl⟩
    obtain ⟨p, hp, rfl⟩ := Wo_all.mp hu
    exact ⟨p, hp, wor_grow b xs p⟩
theorem wo_sum : ∀ xs : List Int, Wo KS xs xs.sum := fun xs => by
  rw [Wo_all]
  refine ⟨List.replicate xs.length 1, (allL_mem _ _).mpr ⟨List.length_replicate, fun q hq => by rw [List.eq_of_mem_replicate hq]; decide⟩, ?_⟩
  induction xs with
  | nil => rfl
  | cons x xs ih =>
    rw [List.length_cons, List.replicate_succ]
    show x * 1 + wor xs (List.replicate xs.length 1) = _
    rw [ih, List.sum_cons]; omega
theorem sum_nn : ∀ {xs : List Int}, (∀ x ∈ xs, 1 ≤ x) → 0 ≤ xs.sum
  | [], _ => Int.le_refl _
  | x :: xs, h => by
    have := sum_nn (xs := xs) fun y hy => h y (.tail _ hy)
    have := h x (.head _)
    rw [List.sum_cons]; omega
theorem ab_some {xs : List Int} (h : ∀ x ∈ xs, 1 ≤ x) {o : Option Int} (a : IsAb xs 0 o) : ∃ u, o = some u := by
  cases o with
  | some u => exact ⟨u, rfl⟩
  | none =>
    have := a xs.sum (wo_sum xs)
    have := sum_nn h
    omega
theorem ab_grow {xs : List Int} {b u u' : Int} (hb : 1 ≤ b) (a : IsAb xs 0 (some u)) (a' : IsAb (xs.map (· * b)) 0 (some u')) : u' = b * u := by
  obtain ⟨a1, a2, a3⟩ := a
  obtain ⟨b1, b2, b3⟩ := a'
  obtain ⟨w, hw, rfl⟩ := wo_grow.mp b1
  have c1 := b3 (u * b) (wo_grow.mpr ⟨u, a1, rfl⟩) (Int.mul_nonneg a2 (by omega))
  have w0 : 0 ≤ w := Classical.byContradiction fun z => by
    have : w * b ≤ (-1) * b := Int.mul_le_mul_of_nonneg_right (by omega) (by omega)
    omega
  have c2 := a3 w hw w0
  have c3 : u * b ≤ w * b := Int.mul_le_mul_of_nonneg_right c2 (by omega)
  rw [Int.mul_comm b u]; omega
theorem hist_val {T : TI} {f : List Int} (h : Hist T f) (hf : f.length ≤ 3000) : ∀ e ∈ T, 1 ≤ e.2 ∧ e.2 ≤ 3000 := fun e he => by
  have e1 := gT_mem h.keys he
  rw [h.get] at e1
  have h1 := List.length_filter_le (fun y => decide (y = e.1)) f
  have h2 : 0 < (f.filter fun y => decide (y = e.1)).length := List.length_pos_of_mem (List.mem_filter.mpr ⟨(h.mem _).mp ⟨e, he, rfl⟩, decide_eq_true rfl⟩)
  omega
theorem ws_len' (K xs : List Int) : (wsL K xs).length = K.length ^ xs.length := by unfold wsL; rw [List.length_map, allL_len]
theorem ws_ne {K : List Int} (hK : K ≠ []) (xs : List Int) : wsL K xs ≠ [] := fun z => by
  have := ws_len' K xs
  rw [z] at this
  have h2 : 1 ≤ K.length ^ xs.length := Nat.one_le_pow _ _ (by have := List.length_pos_iff.mpr hK; omega)
  rw [← this] at h2
  exact absurd h2 (by decide)
structure Tab (T : TI) : Prop where
  keys : Keys T
  ne : T ≠ []
  len : T.length ≤ 3000
  val : ∀ e ∈ T, 1 ≤ e.2 ∧ e.2 ≤ 3000
theorem Tab.pos {T : TI} (h : Tab T) : ∀ e ∈ T, 1 ≤ e.2 := fun e he => (h.val e he).1
theorem Hist.tab {T : TI} {f : List Int} (h : Hist T f) (hn : f ≠ []) (hl : f.length ≤ 3000) : Tab T := ⟨h.keys, fun z => by
    cases f with
    | nil => exact hn rfl
    | cons x f =>
      obtain ⟨e, he, _⟩ := (h.mem x).mpr (.head _)
      rw [z] at he
      exact absurd he List.not_mem_nil, Nat.le_trans h.len hl, hist_val h hl⟩
theorem set_same {S : Sto} {m : Nat} {o : SO} (hm : S[m]? = some o) : S.set m o = S := by
  have hml : m < S.length := (List.getElem?_eq_some_iff.mp hm).1
  have e := (List.getElem?_eq_some_iff.mp hm).2
  rw [← e]; exact List.set_getElem_self hml
theorem pair_enc (T : TI) : (encT T).map PD.pairD = T.map fun e => D.tup [.int e.1, .int e.2] := by unfold encT; rw [List.map_map]; rfl
theorem whole_i (i : Int) (S : Sto) : F_is_whole [.int i] S = .ok (.bl true) S := by kernel_rfl
theorem ints_enc : ∀ T : TI, intsT (encT T) = some (lkT T)
  | [] => rfl
  | e :: T => by
    show intsT ((.inl e.1, .int e.2) :: encT T) = _
    unfold intsT
    rw [ints_enc T]; rfl
theorem isi_dic {S : Sto} {n : Nat} {T : TI} (h : dAt S n T) : fIsiF S [.ref n, .ty "dict"] = some (.bl true) := by
  rcases h with h | h
  · have e : fIsiF S [.ref n, .ty "dict"] = fIsi S [.ref n, .ty "dict"] := by
      simp only [fIsiF, h]
    rw [e]
    unfold fIsi tyD
    simp only [h]
    rfl
  · simp only [fIsiF, h]
    rfl
theorem dAt.frz {S : Sto} {n : Nat} {T : TI} (h : dAt S n T) : (S.set n (.fdic (encT T)))[n]? = some (.fdic (encT T)) := List.getElem?_set_self h.lt
theorem table_ok {S : Sto} {n : Nat} {T : TI} (h : dAt S n T) (ht : Tab T) : F_is_table [.ref n] S = .ok (.bl true) (S.set n (.fdic (encT T))) := by
  have z : (3000 : Nat) ≤ sizeLine := by decide
  have he : oEqD S (.ref n) (.dic []) = some (.bl false) := by
    have e1 : dicOf S (.dic []) = some [] := rfl
    have e2 : sameT (lkT T) [] = false := by
      unfold sameT
      rw [decide_eq_false (fun z => ht.ne (by rw [List.length_map] at z; exact List.length_eq_zero_iff.mp z))]; rfl
    unfold oEqD
    simp only [h.dic, e1, ints_enc]
    show some (D.bl (sameT (lkT T) [])) = _
    rw [e2]
  have hi := items_go (ρ := [some (.ref n)]) (i := 0) rfl h
  rw [pair_enc] at hi
  have hc : eComp (aItems (eVar 0)) 2 [] (.tp [(.nm 0), (.nm 1)]) tTrue (eAnd (eCall F_is_whole (aCons (eVar 0) aNil)) (eAnd (eCall F_is_whole (aCons (eVar 1) aNil)) (eOp oGe (eVar 1) (eC (.int 1))))) [some (.ref n)] S = .ok (.lst (T.map fun e => D.bl (decide ((1 : Int) ≤ e.2)))) (S.set n (.fdic (encT T))) :=
    eComp_twoS (x1 := fun e : Int × Int => .int e.1) (x2 := fun e => .int e.2) (tl := []) T hi (by have := ht.len; omega) rfl fun e he => (eAnd_t ((eCall_go (aCons_go (eVar_go rfl) rfl)).trans (whole_i _ _))).trans ((eAnd_t ((eCall_go (aCons_go (eVar_go rfl) rfl)).trans (whole_i _ _))).trans (eOp_go (eVar_go rfl) rfl rfl))
  have hall : fAll (S.set n (.fdic (encT T))) [.lst (T.map fun e => D.bl (decide ((1 : Int) ≤ e.2)))] = some (.bl true) := by
    rw [fAll_map]
    congr 2
    exact List.all_eq_true.mpr fun e he => decide_eq_true (ht.pos e he)
  exact fnM_rt (ρ := [some (.ref n)]) rfl ((sSeq_go ((sIf_f ((tOr_f (tNot_go (b := true) (tV_go (eB_go (aCons_go (eVar_go rfl) (aCons_go rfl rfl)) (isi_dic h))))).trans (tV_go (eOp_go (eVar_go rfl) rfl he)))).trans rfl)).trans (sRet_go (eB_go (aCons_go hc rfl) hall)))
theorem need_ok {S : Sto} {n : Nat} {T : TI} (h : dAt S n T) (ht : Tab T) : F_need_table_n [.ref n] S = .ok .non (S.set n (.fdic (encT T))) := fnM_nx (ρ := [some (.ref n)]) rfl ((sIf_f (tNot_go (b := true) (tV_go ((eCall_go (aCons_go (eVar_go rfl) rfl)).trans (table_ok h ht))))).trans rfl)
theorem put_go {S : Sto} {p : Nat} {W : TI} (hp : S[p]? = some (.dic (encT W))) (hz : W.length < 3000) (k c : Int) : fPutD S (.ref p) (.int k) (.int c) = some (S.set p (.dic (encT (pT W k c)))) := by
  have z : (3000 : Nat) ≤ sizeLine := by decide
  have h1 : isDic S (.ref p) = true := by simp [isDic, hp]
  unfold fPutD
  rw [if_pos h1]
  unfold fPutK
  simp only [hp, keyD]
  rw [if_pos (by simp [encT]; omega), encT_put]
theorem get_go {S : Sto} {p : Nat} {W : TI} (hp : S[p]? = some (.dic (encT W))) {m k : EM} {ρ : Rho} {v : Int} (hm : m ρ S = .ok (.ref p) S) (hk : k ρ S = .ok (.int v) S) : eGet2 m k (eC (.int 0)) ρ S = .ok (.int (gT W v)) S := by
  have hd : dicOf S (.ref p) = some (encT W) := by simp [dicOf, hp]
  rw [← encT_get]
  exact eGet2_go hm hd hk rfl hd rfl
structure Fz (S S' : Sto) : Prop where
  len : S.length ≤ S'.length
  old : ∀ i, i < S.length → S'[i]? = S[i]? ∨ ∃ T, S[i]? = some (.dic (encT T)) ∧ S'[i]? = some (.fdic (encT T))
theorem Fz.refl (S : Sto) : Fz S S := ⟨Nat.le_refl _, fun _ _ => .inl rfl⟩
theorem Fz.trans {S S1 S2 : Sto} (a : Fz S S1) (b : Fz S1 S2) : Fz S S2 := ⟨Nat.le_trans a.len b.len, fun i h => by
  have h1 := Nat.lt_of_lt_of_le h a.len
  rcases a.old i h with x | ⟨T, x1, x2⟩
  · rcases b.old i h1 with y | ⟨T, y1, y2⟩
    · exact .inl (y.trans x)
    · exact .inr ⟨T, x ▸ y1, y2⟩
  · rcases b.old i h1 with y | ⟨T', y1, _⟩
    · exact .inr ⟨T, x1, y.trans x2⟩
    · rw [x2] at y1; cases y1⟩
theorem Pre.fz {S S' : Sto} (p : Pre S S') : Fz S S' := ⟨p.len, fun i h => .inl (p.old i h)⟩
theorem Fz.app (S l : Sto) : Fz S (S ++ l) := (Pre.app S l).fz
theorem Fz.set {S : Sto} {n : Nat} {T : TI} (h : dAt S n T) : Fz S (S.set n (.fdic (encT T))) := ⟨by rw [List.length_set]; exact Nat.le_refl _, fun i hi => by
  by_cases c : n = i
  · subst c
    rcases h with h | h
    · exact .inr ⟨T, h, List.getElem?_set_self hi⟩
    · exact .inl (by rw [List.getElem?_set_self hi]; exact h.symm)
  · exact .inl (List.getElem?_set_ne c)⟩
theorem Fz.dat {S S' : Sto} (a : Fz S S') {n : Nat} {T : TI} (h : dAt S n T) : dAt S' n T := by
  rcases a.old n h.lt with x | ⟨T', x1, x2⟩
  · unfold dAt; rw [x]; exact h
  · rcases h with h | h
    · rw [h] at x1
      have e : encT T = encT T' := SO.dic.inj (Option.some.inj x1)
      exact .inr (by rw [x2, e])
    · rw [h] at x1; cases x1
theorem Fz.fdic {S S' : Sto} (a : Fz S S') {n : Nat} {T : TI} (h : S[n]? = some (.fdic (encT T))) : S'[n]? = some (.fdic (encT T)) := by
  rcases a.old n (List.getElem?_eq_some_iff.mp h).1 with x | ⟨T', x1, _⟩
  · rw [x]; exact h
  · rw [h] at x1; cases x1
theorem Fz.gr {S S' : Sto} (a : Fz S S') {b : Nat} (g : Gr b S S) : Gr b S' S' := by
  obtain ⟨v, hv⟩ := g.bx
  rcases a.old b (List.getElem?_eq_some_iff.mp hv).1 with x | ⟨T', x1, _⟩
  · exact ⟨⟨v, x.trans hv⟩, fun _ _ _ => rfl, Nat.le_refl _⟩
  · rw [hv] at x1; cases x1
theorem val_small {c : Int} (h : 1 ≤ c ∧ c ≤ 3000) : smallI c := ⟨by omega, by omega⟩
noncomputable abbrev muI : SM := (sSeq (sSet 7 (eOp oAdd (eVar 3) (eVar 5))) (sPut fPutD (eOp oAdd (eGet2 (eVar 2) (eVar 7) (eC (.int 0))) (eOp oMul (eVar 4) (eVar 6))) (eVar 2) (eVar 7)))
theorem muI_loop {p : Nat} {x c : Int} (hc : 1 ≤ c ∧ c ≤ 3000) (r0 r1 : Option D) : ∀ (l : TI) (S : Sto) (W L : TI) (r5 r6 r7 : Option D), S[p]? = some (.dic (encT W)) → HistC W L → L.length + l.length < 3000 →
    ∃ (W' : TI) (a5 a6 a7 : Option D), forL (.tp [.nm 5, .nm 6]) muI (l.map fun e => D.tup [.int e.1, .int e.2]) [r0, r1, some (.ref p), some (.int x), some (.int c), r5, r6, r7] S = .ok (.nx [r0, r1, some (.ref p), some (.int x), some (.int c), a5, a6, a7]) (S.set p (.dic (encT W'))) ∧ HistC W' (L ++ l.map fun d => (x + d.1, c * d.2))
  | [], S, W, L, r5, r6, r7, hp, h, _ => ⟨W, r5, r6, r7, by rw [set_same hp]; rfl, by simpa using h⟩
  | d :: l, S, W, L, r5, r6, r7, hp, h, hz => by
    rw [List.length_cons] at hz
    have hpl : p < S.length := (List.getElem?_eq_some_iff.mp hp).1
    have h1 := h.put (x + d.1) (c * d.2)
    have e1 : muI [r0, r1, some (.ref p), some (.int x), some (.int c), some (.int d.1), some (.int d.2), r7] S = .ok (.nx [r0, r1, some (.ref p), some (.int x), some (.int c), some (.int d.1), some (.int d.2), some (.int (x + d.1))]) (S.set p (.dic (encT (pT W (x + d.1) (gT W (x + d.1) + c * d.2))))) :=
      (sSeq_go (sSet_go (eOp_go (eVar_go rfl) (eVar_go rfl) rfl))).trans (sPut_go (eOp_go (get_go hp (eVar_go rfl) (eVar_go rfl)) (eOp_go (eVar_go rfl) (eVar_go rfl) (oMul_i (.inl (val_small hc)))) rfl) (eVar_go rfl) (eVar_go rfl) (put_go hp (by have := h.len; omega) _ _))
    generalize pT W (x + d.1) (gT W (x + d.1) + c * d.2) = W1 at e1 h1
    obtain ⟨W', a5, a6, a7, e2, h2⟩ := muI_loop (x := x) hc r0 r1 l (S.set p (.dic (encT W1))) W1 (L ++ [(x + d.1, c * d.2)]) (some (.int d.1)) (some (.int d.2)) (some (.int (x + d.1))) (List.getElem?_set_self hpl) h1 (by simp; omega)
    rw [List.set_set] at e2
    refine ⟨W', a5, a6, a7, ?_, ?_⟩
    · rw [List.map_cons]
      exact (forL_cons (r1 := [r0, r1, some (.ref p), some (.int x), some (.int c), some (.int d.1), some (.int d.2), r7]) rfl e1).trans e2
    · rw [List.map_cons]
      simpa using h2
noncomputable abbrev muO : SM := (sFor (aItems (eVar 1)) (.tp [(.nm 5), (.nm 6)]) (sSeq (sSet 7 (eOp oAdd (eVar 3) (eVar 5))) (sPut fPutD (eOp oAdd (eGet2 (eVar 2) (eVar 7) (eC (.int 0))) (eOp oMul (eVar 4) (eVar 6))) (eVar 2) (eVar 7))))
theorem muO_loop {p n : Nat} {B : TI} (hnp : p ≠ n) (r0 : Option D) : ∀ (l : TI) (S : Sto) (W L : TI) (r3 r4 r5 r6 r7 : Option D), (∀ e ∈ l, 1 ≤ e.2 ∧ e.2 ≤ 3000) → S[n]? = some (.fdic (encT B)) → S[p]? = some (.dic (encT W)) → HistC W L → L.length + l.length * B.length < 3000 →
    ∃ (W' : TI) (a3 a4 a5 a6 a7 : Option D), forL (.tp [.nm 3, .nm 4]) muO (l.map fun e => D.tup [.int e.1, .int e.2]) [r0, some (.ref n), some (.ref p), r3, r4, r5, r6, r7] S = .ok (.nx [r0, some (.ref n), some (.ref p), a3, a4, a5, a6, a7]) (S.set p (.dic (encT W'))) ∧ HistC W' (L ++ pairsT l B)
  | [], S, W, L, r3, r4, r5, r6, r7, _, _, hp, h, _ => ⟨W, r3, r4, r5, r6, r7, by rw [set_same hp]; rfl, by simpa [pairsT] using h⟩
  | e :: l, S, W, L, r3, r4, r5, r6, r7, hv, hn, hp, h, hz => by
    rw [List.length_cons, Nat.succ_mul] at hz
    have hpl : p < S.length := (List.getElem?_eq_some_iff.mp hp).1
    obtain ⟨W1, a5, a6, a7, e1, h1⟩ := muI_loop (x := e.1) (hv e (.head _)) r0 (some (.ref n)) B S W L r5 r6 r7 hp h (by omega)
    obtain ⟨W2, b3, b4, b5, b6, b7, e2, h2⟩ := muO_loop hnp r0 l (S.set p (.dic (encT W1))) W1 (L ++ B.map fun d => (e.1 + d.1, e.2 * d.2)) (some (.int e.1)) (some (.int e.2)) a5 a6 a7 (fun d hd => hv d (.tail _ hd)) (by rw [List.getElem?_set_ne hnp]; exact hn) (List.getElem?_set_self hpl) h1 (by rw [List.length_append, List.length_map]; omega)
    rw [List.set_set] at e2
    have hi := items_go (ρ := [r0, some (.ref n), some (.ref p), some (.int e.1), some (.int e.2), r5, r6, r7]) (i := 1) rfl (.inr hn)
    rw [pair_enc, set_same hn] at hi
    refine ⟨W2, b3, b4, b5, b6, b7, ?_, ?_⟩
    · rw [List.map_cons]
      exact (forL_cons (r1 := [r0, some (.ref n), some (.ref p), some (.int e.1), some (.int e.2), r5, r6, r7]) rfl ((sFor_go hi).trans e1)).trans e2
    · have : pairsT (e :: l) B = (B.map fun d => (e.1 + d.1, e.2 * d.2)) ++ pairsT l B := by simp only [pairsT, List.flatMap_cons]
      rw [this, ← List.append_assoc]
      exact h2
theorem pairs_len (B : TI) : ∀ A : TI, (pairsT A B).length = A.length * B.length := fun A => by
  induction A with
  | nil => simp [pairsT]
  | cons e A ih =>
    unfold pairsT at ih ⊢
    rw [List.flatMap_cons, List.length_append, ih, List.length_map, List.length_cons, Nat.add_mul]; omega
theorem mult_ok {S : Sto} {m n : Nat} {A B : TI} (hA : dAt S m A) (hB : dAt S n B) (tA : Tab A) (tB : Tab B) (hz : A.length * B.length < 3000) : ∃ (P : TI) (S' : Sto) (a : Nat), F_multiplied_n [.ref m, .ref n] S = .ok (.ref a) S' ∧ S'[a]? = some (.dic (encT P)) ∧ S.length ≤ a ∧ HistC P (pairsT A B) ∧ P.length ≤ A.length * B.length ∧ Fz S S' := by
  have n1 := need_ok hA tA
  have f1 := Fz.set hA
  have hA1 := hA.frz
  have l1 : (S.set m (.fdic (encT A))).length = S.length := List.length_set
  generalize S.set m (.fdic (encT A)) = S1 at n1 f1 hA1 l1
  have hB1 := f1.dat hB
  have n2 := need_ok hB1 tB
  have f2 := Fz.set hB1
  have hB2 := hB1.frz
  have hA2 := f2.fdic hA1
  have l2 : (S1.set n (.fdic (encT B))).length = S.length := List.length_set.trans l1
  have f12 := f1.trans f2
  generalize S1.set n (.fdic (encT B)) = S2 at n2 f2 hB2 hA2 l2 f12
  have hml : m < S2.length := (List.getElem?_eq_some_iff.mp hA2).1
  have hnl : n < S2.length := (List.getElem?_eq_some_iff.mp hB2).1
  have hA3 : (S2 ++ [SO.dic []])[m]? = some (.fdic (encT A)) := by rw [List.getElem?_append_left hml]; exact hA2
  have hB3 : (S2 ++ [SO.dic []])[n]? = some (.fdic (encT B)) := by rw [List.getElem?_append_left hnl]; exact hB2
  obtain ⟨P, a3, a4, a5, a6, a7, e1, h1⟩ := muO_loop (p := S2.length) (n := n) (by omega) (some (.ref m)) A (S2 ++ [.dic []]) [] [] none none none none none tA.val hB3 (by simp [encT]) HistC.nil (by simpa using hz)
  have e2 : (S2 ++ [SO.dic []]).set S2.length (.dic (encT P)) = S2 ++ [.dic (encT P)] := by simp
  rw [e2] at e1
  rw [List.nil_append] at h1
  have hi := items_go (ρ := [some (.ref m), some (.ref n), some (.ref S2.length), none, none, none, none, none]) (i := 0) rfl (.inr hA3)
  rw [pair_enc, set_same hA3] at hi
  refine ⟨P, S2 ++ [.dic (encT P)], S2.length, fnM_rt (ρ := [some (.ref m), some (.ref n), none, none, none, none, none, none]) rfl ((sSeq_go (sDrop_go ((eCall_go (aCons_go (eVar_go rfl) rfl)).trans n1))).trans ((sSeq_go (sDrop_go ((eCall_go (aCons_go (eVar_go rfl) rfl)).trans n2))).trans ((sSeq_go (S1 := S2 ++ [.dic []]) (sSet_go rfl)).trans ((sSeq_go ((sFor_go hi).trans e1)).trans (sRet_go (eVar_go rfl)))))), by simp, by omega, h1, ?_, f12.trans (Fz.app _ _)⟩
  have hl := h1.len
  rwa [pairs_len B A] at hl
theorem mergeE : ∀ (U A : TI), Keys (A ++ U) → mergeD (encT A) (encT U) = encT (A ++ U)
  | [], A, _ => by rw [List.append_nil]; rfl
  | e :: U, A, h => by
    have na : A.any (fun x => decide (x.1 = e.1)) = false := by
      rw [List.any_eq_false]
      intro x hx hq
      exact (List.pairwise_append.mp h).2.2 x hx e (.head _) (of_decide_eq_true hq)
    have e1 : putD (encT A) (.inl e.1) (.int e.2) = encT (A ++ [e]) := by
      rw [encT_put]
      unfold pT
      rw [if_neg (by rw [na]; exact Bool.false_ne_true)]
    have e2 : A ++ e :: U = (A ++ [e]) ++ U := by rw [List.append_assoc]; rfl
    show mergeD (putD (encT A) (.inl e.1) (.int e.2)) (encT U) = _
    rw [e1, e2]
    exact mergeE U (A ++ [e]) (e2 ▸ h)
theorem prs_enc : ∀ T : TI, prsD (T.map fun e => D.tup [.int e.1, .int e.2]) = some (encT T)
  | [] => rfl
  | e :: T => by
    rw [List.map_cons]
    unfold prsD
    simp only [keyD, prs_enc T]
    rfl
theorem eBR_go {f : Sto → List D → R D} {t : AM} {r : Rho} {S S1 : Sto} {xs : List D} (h : t r S = .ok xs S1) : eBR f t r S = f S1 xs := by unfold eBR; rw [h, R.bind_ok]
theorem dcp_go {S : Sto} {T : TI} (h : Keys T) : fDcp S [.lst (T.map fun e => D.tup [.int e.1, .int e.2])] = .ok (.ref S.length) (S ++ [.dic (encT T)]) := by
  have hm : mergeD [] (encT T) = encT T := mergeE T [] h
  unfold fDcp
  simp only [isLst, prs_enc, hm]
def shT (b : Int) (T : TI) : TI := T.map fun e => (e.1 + b, e.2)
theorem shT_keys {b : Int} {T : TI} (h : Keys T) : Keys (shT b T) := by
  unfold Keys shT
  rw [List.pairwise_map]
  exact List.Pairwise.imp (fun {a c} hne e => hne (by have : a.1 + b = c.1 + b := e; omega)) h
theorem shT_tab {b : Int} {T : TI} (h : Tab T) : Tab (shT b T) := ⟨shT_keys h.keys, fun z => h.ne (List.map_eq_nil_iff.mp z), by unfold shT; rw [List.length_map]; exact h.len, fun e he => by
  obtain ⟨d, hd, rfl⟩ := List.mem_map.mp he
  exact h.val d hd⟩
theorem shT_back (b : Int) (T : TI) : shT (0 - b) (shT b T) = T := by
  unfold shT
  rw [List.map_map]
  conv => rhs; rw [← List.map_id T]
  refine List.map_congr_left fun e _ => ?_
  show (e.1 + b + (0 - b), e.2) = e
  rw [show e.1 + b + (0 - b) = e.1 by omega]
theorem nnum_ok (i : Int) (S : Sto) : F_need_number_n [.int i] S = .ok .non S := fnM_nx (ρ := [some (.int i)]) rfl ((sIf_f (tNot_go (b := true) (tV_go ((eCall_go (aCons_go (eVar_go rfl) rfl)).trans (whole_i _ _))))).trans rfl)
theorem shift_ok {S : Sto} {m : Nat} {A : TI} (hA : dAt S m A) (tA : Tab A) (b : Int) : ∃ (S' : Sto) (a : Nat), F_shifted_n [.ref m, .int b] S = .ok (.ref a) S' ∧ S'[a]? = some (.dic (encT (shT b A))) ∧ S.length ≤ a ∧ Fz S S' := by
  have z : (3000 : Nat) ≤ sizeLine := by decide
  have z2 : (2 : Nat) ≤ sizeLine := by decide
  have n1 := need_ok hA tA
  have f1 := Fz.set hA
  have hA1 := hA.frz
  have l1 : (S.set m (.fdic (encT A))).length = S.length := List.length_set
  generalize S.set m (.fdic (encT A)) = S1 at n1 f1 hA1 l1
  have n2 := nnum_ok b S1
  have hi := items_go (ρ := [some (.ref m), some (.int b)]) (i := 0) rfl (.inr hA1)
  rw [pair_enc, set_same hA1] at hi
  have hc : eComp (aItems (eVar 0)) 2 [1] (.tp [(.nm 0), (.nm 1)]) tTrue (eTup (aCons (eOp oAdd (eVar 0) (eVar 2)) (aCons (eVar 1) aNil))) [some (.ref m), some (.int b)] S1 = .ok (.lst (A.map fun e => D.tup [.int (e.1 + b), .int e.2])) S1 :=
    eComp_twoS (x1 := fun e : Int × Int => .int e.1) (x2 := fun e => .int e.2) (tl := [some (.int b)]) A hi (by have := tA.len; omega) rfl fun e he => eTup_go (xs := [.int (e.1 + b), .int e.2]) (aCons_go (eOp_go (eVar_go rfl) (eVar_go rfl) rfl) (aCons_go (eVar_go rfl) rfl)) z2
  have el : (A.map fun e => D.tup [.int (e.1 + b), .int e.2]) = (shT b A).map fun e => D.tup [.int e.1, .int e.2] := by unfold shT; rw [List.map_map]; rfl
  rw [el] at hc
  exact ⟨_, S1.length, fnM_rt (ρ := [some (.ref m), some (.int b)]) rfl ((sSeq_go (sDrop_go ((eCall_go (aCons_go (eVar_go rfl) rfl)).trans n1))).trans ((sSeq_go (sDrop_go ((eCall_go (aCons_go (eVar_go rfl) rfl)).trans n2))).trans (sRet_go ((eBR_go (aCons_go hc rfl)).trans (dcp_go (shT_keys tA.keys)))))), by simp, by omega, f1.trans (Fz.app _ _)⟩
theorem ne_ok {S : Sto} {f d : Nat} {P Q : TI} (hf : dAt S f P) (hd : dAt S d Q) (hs : sameT (lkT P) (lkT Q) = true) : oNeD S (.ref f) (.ref d) = some (.bl false) := by
  unfold oNeD
  simp only [hf.dic, hd.dic, ints_enc]
  show some (D.bl (!sameT (lkT P) (lkT Q))) = _
  rw [hs]; rfl
theorem eq_ok {S : Sto} {f d : Nat} {P Q : TI} (hf : dAt S f P) (hd : dAt S d Q) (hs : sameT (lkT P) (lkT Q) = true) : oEqD S (.ref f) (.ref d) = some (.bl true) := by
  unfold oEqD
  simp only [hf.dic, hd.dic, ints_enc]
  show some (D.bl (sameT (lkT P) (lkT Q))) = _
  rw [hs]
def sumO (offs : List Int) (f : Int → Int) : Int := (offs.map f).sum
theorem sumO_nn {offs : List Int} {f : Int → Int} (h : ∀ o ∈ offs, 0 ≤ f o) : 0 ≤ sumO offs f := by
  unfold sumO
  induction offs with
  | nil => exact Int.le_refl _
  | cons o l ih =>
    rw [List.map_cons, List.sum_cons]
    have := h o (.head _)
    have := ih fun x hx => h x (.tail _ hx)
    omega
theorem sumO_ge {offs : List Int} {f : Int → Int} (h : ∀ o ∈ offs, 0 ≤ f o) {o : Int} (ho : o ∈ offs) : f o ≤ sumO offs f := by
  unfold sumO
  induction offs with
  | nil => cases ho
  | cons x l ih =>
    rw [List.map_cons, List.sum_cons]
    have h1 := h x (.head _)
    have h2 := sumO_nn (offs := l) fun y hy => h y (.tail _ hy)
    unfold sumO at h2
    rcases List.mem_cons.mp ho with rfl | ho
    · omega
    · have := ih (fun y hy => h y (.tail _ hy)) ho
      omega
theorem sumO_congr {offs : List Int} {f g : Int → Int} (h : ∀ o ∈ offs, f o = g o) : sumO offs f = sumO offs g := by
  unfold sumO
  rw [List.map_congr_left h]
theorem sumO_sub (offs : List Int) (f g : Int → Int) : sumO offs (fun o => f o - g o) = sumO offs f - sumO offs g := by
  unfold sumO
  induction offs with
  | nil => rfl
  | cons o l ih => rw [List.map_cons, List.map_cons, List.map_cons, List.sum_cons, List.sum_cons, List.sum_cons, ih]; omega
theorem sumO_add (offs : List Int) (f g : Int → Int) : sumO offs (fun o => f o + g o) = sumO offs f + sumO offs g := by
  unfold sumO
  induction offs with
  | nil => rfl
  | cons o l ih => rw [List.map_cons, List.map_cons, List.map_cons, List.sum_cons, List.sum_cons, List.sum_cons, ih]; omega
structure IsQ (offs : List Int) (t q : Int → Int) : Prop where
  nn : ∀ r, 0 ≤ q r
  eq : ∀ k, t k = q k + sumO offs fun o => q (k - o)
theorem IsQ.le {offs : List Int} {t q : Int → Int} (h : IsQ offs t q) (k : Int) : q k ≤ t k := by
  have := sumO_nn (offs := offs) (f := fun o => q (k - o)) fun o _ => h.nn _
  have := h.eq k
  omega
theorem IsQ.uniq {offs : List Int} {t q p : Int → Int} (hp : ∀ o ∈ offs, 1 ≤ o) {B : Int} (hB : ∀ k, k < B → t k = 0) (a : IsQ offs t q) (b : IsQ offs t p) : q = p := by
  have key : ∀ (m : Nat) (r : Int), r < B + m → q r = p r := fun m => by
    induction m with
    | zero =>
      intro r hr
      have h1 := a.le r
      have h2 := b.le r
      have h3 := a.nn r
      have h4 := b.nn r
      have := hB r (by simpa using hr)
      omega
    | succ m ih =>
      intro r hr
      have e1 := a.eq r
      have e2 := b.eq r
      have e3 : (sumO offs fun o => q (r - o)) = sumO offs fun o => p (r - o) := sumO_congr fun o ho => ih (r - o) (by have := hp o ho; omega)
      omega
  funext r
  exact key (r - B + 1).toNat r (by omega)
def lessAt (offs : List Int) (k w : Int) (l : Int → Int) : Int → Int := fun j => l j - sumO offs fun o => if j - o = k then w else 0
def divF (offs : List Int) : List Int → (Int → Int) → Option (List (Int × Int))
  | [], _ => some []
  | k :: ks, l => if 0 < l k then (if ∀ o ∈ offs, l k ≤ l (k + o) then (divF offs ks (lessAt offs k (l k) l)).map ((k, l k) :: ·) else none) else divF offs ks l
structure Mid (offs : List Int) (t l p : Int → Int) (done : Int → Prop) : Prop where
  eq : ∀ j, l j = t j - sumO offs fun o => p (j - o)
  nn : ∀ j, 0 ≤ l j
  pn : ∀ r, 0 ≤ p r
  out : ∀ r, ¬ done r → p r = 0
  inn : ∀ r, done r → p r = l r
theorem indic_at {offs : List Int} (hd : offs.Nodup) {o : Int} (ho : o ∈ offs) (k w : Int) : (sumO offs fun x => if k + o - x = k then w else 0) = w := by
  unfold sumO
  induction offs with
  | nil => cases ho
  | cons x l ih =>
    obtain ⟨h1, h2⟩ := List.nodup_cons.mp hd
    rw [List.map_cons, List.sum_cons]
    rcases List.mem_cons.mp ho with rfl | ho
    · rw [if_pos (by omega)]
      have : (l.map fun x => if k + o - x = k then w else 0).sum = 0 := by
        have e : (l.map fun x => if k + o - x = k then w else 0) = l.map fun _ => (0 : Int) := List.map_congr_left fun y hy => if_neg fun z => h1 (by rw [show o = y by omega]; exact hy)
        rw [e]
        clear ih h1 h2 hd ho e
        induction l with
        | nil => rfl
        | cons y l ih => rw [List.map_cons, List.sum_cons, ih]; rfl
      omega
    · rw [if_neg (fun z => h1 (by rw [show x = o by omega]; exact ho)), ih h2 ho]; omega
theorem indic_no {offs : List Int} {j k w : Int} (h : ∀ o ∈ offs, j ≠ k + o) : (sumO offs fun x => if j - x = k then w else 0) = 0 := by
  have e : (sumO offs fun x => if j - x = k then w else 0) = sumO offs fun _ => 0 := sumO_congr fun o ho => if_neg fun z => h o ho (by omega)
  rw [e]
  unfold sumO
  clear e h
  induction offs with
  | nil => rfl
  | cons y l ih => rw [List.map_cons, List.sum_cons, ih]; rfl
theorem Mid.step {offs : List Int} (hd : offs.Nodup) (hp : ∀ o ∈ offs, 1 ≤ o) {t l p : Int → Int} {done : Int → Prop} (h : Mid offs t l p done) {k : Int} (hk : ∀ r, done r → r < k) (hc : ∀ o ∈ offs, l k ≤ l (k + o)) : Mid offs t (lessAt offs k (l k) l) (fun r => if r = k then l k else p r) (fun r => done r ∨ r = k) := by
  have nk : ¬ done k := fun z => by have := hk k z; omega
  have pk : p k = 0 := h.out k nk
  have lat : ∀ j, (∀ o ∈ offs, j ≠ k + o) → lessAt offs k (l k) l j = l j := fun j hj => by
    unfold lessAt
    rw [indic_no hj]; omega
  refine ⟨fun j => ?_, fun j => ?_, fun r => ?_, fun r hr => ?_, fun r hr => ?_⟩
  · unfold lessAt
    rw [h.eq j]
    have e : (sumO offs fun o => if j - o = k then l k else p (j - o)) = (sumO offs fun o => if j - o = k then l k else 0) + sumO offs fun o => p (j - o) := by
      rw [← sumO_add]
      refine sumO_congr fun o _ => ?_
      by_cases z : j - o = k
      · rw [if_pos z, if_pos z, z, pk]; omega
      · rw [if_neg z, if_neg z]; omega
    rw [e]; omega
  · by_cases z : ∃ o ∈ offs, j = k + o
    · obtain ⟨o, ho, rfl⟩ := z
      unfold lessAt
      rw [indic_at hd ho]
      have := hc o ho
      omega
    · rw [lat j fun o ho e => z ⟨o, ho, e⟩]
      exact h.nn j
  · by_cases z : r = k
    · rw [if_pos z]; exact h.nn k
    · rw [if_neg z]; exact h.pn r
  · rw [if_neg fun z => hr (.inr z)]
    exact h.out r fun z => hr (.inl z)
  · have hlt : r ≤ k := by
      rcases hr with hr | hr
      · have := hk r hr; omega
      · omega
    rw [lat r fun o ho e => by have := hp o ho; omega]
    by_cases z : r = k
    · rw [if_pos z, z]
    · rw [if_neg z]
      exact h.inn r (hr.resolve_right z)
theorem Mid.skip {offs : List Int} {t l p : Int → Int} {done : Int → Prop} (h : Mid offs t l p done) {k : Int} (hk : ∀ r, done r → r < k) (hc : ¬ 0 < l k) : Mid offs t l p (fun r => done r ∨ r = k) := by
  have nk : ¬ done k := fun z => by have := hk k z; omega
  refine ⟨h.eq, h.nn, h.pn, fun r hr => h.out r fun z => hr (.inl z), fun r hr => ?_⟩
  rcases hr with hr | rfl
  · exact h.inn r hr
  · rw [h.out r nk]
    have := h.nn r
    omega
theorem Mid.done {offs : List Int} {t l p : Int → Int} {done : Int → Prop} (h : Mid offs t l p done) (hall : ∀ r, ¬ done r → t r = 0) : IsQ offs t p := by
  refine ⟨h.pn, fun k => ?_⟩
  have e := h.eq k
  by_cases z : done k
  · have := h.inn k z; omega
  · have h1 := h.out k z
    have h2 := hall k z
    have h3 := h.nn k
    have h4 := sumO_nn (offs := offs) (f := fun o => p (k - o)) fun o _ => h.pn _
    omega
theorem Mid.fits {offs : List Int} (hp : ∀ o ∈ offs, 1 ≤ o) {t l p q : Int → Int} {done : Int → Prop} (h : Mid offs t l p done) (hq : IsQ offs t q) (hpq : ∀ r, done r → p r = q r) {k : Int} (hk : ∀ r, done r → r < k) (hbelow : ∀ r, r < k → ¬ done r → t r = 0) : l k = q k ∧ ∀ o ∈ offs, l k ≤ l (k + o) := by
  have low : ∀ r, r < k → p r = q r := fun r hr => by
    by_cases z : done r
    · exact hpq r z
    · have h1 := h.out r z
      have h2 := hbelow r hr z
      have h3 := hq.le r
      have h4 := hq.nn r
      omega
  have le : ∀ r, p r ≤ q r := fun r => by
    by_cases z : done r
    · rw [hpq r z]; exact Int.le_refl _
    · rw [h.out r z]; exact hq.nn r
  have e1 : l k = q k := by
    have a := h.eq k
    have b := hq.eq k
    have c : (sumO offs fun o => p (k - o)) = sumO offs fun o => q (k - o) := sumO_congr fun o ho => low (k - o) (by have := hp o ho; omega)
    omega
  refine ⟨e1, fun o ho => ?_⟩
  have a := h.eq (k + o)
  have b := hq.eq (k + o)
  have c := sumO_sub offs (fun x => q (k + o - x)) (fun x => p (k + o - x))
  have d := sumO_ge (offs := offs) (f := fun x => q (k + o - x) - p (k + o - x)) (fun x _ => by have := le (k + o - x); omega) ho
  have nk : ¬ done k := fun z => by have := hk k z; omega
  have ek : k + o - o = k := by omega
  have d' : q k - p k ≤ sumO offs fun x => q (k + o - x) - p (k + o - x) := by
    have : q (k + o - o) - p (k + o - o) = q k - p k := by rw [ek]
    omega
  have hpk := h.out k nk
  have hqn := hq.nn (k + o)
  omega
theorem divF_ok {offs : List Int} (hd : offs.Nodup) (hp : ∀ o ∈ offs, 1 ≤ o) {t : Int → Int} : ∀ (ks : List Int) (l p : Int → Int) (done : Int → Prop), ks.Pairwise (· < ·) → (∀ k ∈ ks, ∀ r, done r → r < k) → (∀ r, ¬ done r → r ∉ ks → t r = 0) → Mid offs t l p done →
    match divF offs ks l with
    | some out => ∃ q, IsQ offs t q ∧ (∀ r, done r → q r = p r) ∧ out = (ks.filter fun k => decide (0 < q k)).map fun k => (k, q k)
    | none => ∀ q, IsQ offs t q → ¬ ∀ r, done r → p r = q r
  | [], l, p, done, _, _, hall, h => ⟨p, h.done fun r hr => hall r hr (by simp), fun _ _ => rfl, rfl⟩
  | k :: ks, l, p, done, hs, hk, hall, h => by
    obtain ⟨s1, s2⟩ := List.pairwise_cons.mp hs
    have hk0 := hk k (.head _)
    have hall' : ∀ r, ¬ (done r ∨ r = k) → r ∉ ks → t r = 0 := fun r hr hn => hall r (fun z => hr (.inl z)) fun z => by
      rcases List.mem_cons.mp z with z | z
      · exact hr (.inr z)
      · exact hn z
    have hk' : ∀ k' ∈ ks, ∀ r, (done r ∨ r = k) → r < k' := fun k' hk2 r hr => by
      rcases hr with hr | rfl
      · exact hk k' (.tail _ hk2) r hr
      · exact s1 k' hk2
    have nk : ¬ done k := fun z => by have := hk0 k z; omega
    have hbelow : ∀ r, r < k → ¬ done r → t r = 0 := fun r hr hn => hall r hn fun z => by
      rcases List.mem_cons.mp z with z | z
      · omega
      · have := s1 r z; omega
    unfold divF
    by_cases c : 0 < l k
    · rw [if_pos c]
      by_cases c2 : ∀ o ∈ offs, l k ≤ l (k + o)
      · rw [if_pos c2]
        have ih := divF_ok hd hp ks _ _ _ s2 hk' hall' (h.step hd hp hk0 c2)
        cases hr : divF offs ks (lessAt offs k (l k) l) with
        | some out =>
          rw [hr] at ih
          obtain ⟨q, q1, q2, q3⟩ := ih
          have qk : q k = l k := by
            have := q2 k (.inr rfl)
            rw [if_pos rfl] at this
            exact this
          refine ⟨q, q1, fun r hr => ?_, ?_⟩
          · have := q2 r (.inl hr)
            rw [if_neg (fun z : r = k => nk (by rw [← z]; exact hr))] at this
            exact this
          · show (k, l k) :: out = _
            rw [List.filter_cons, if_pos (decide_eq_true (by rw [qk]; exact c)), List.map_cons, q3, qk]
        | none =>
          rw [hr] at ih
          intro q hq hpq
          refine ih q hq fun r hr => ?_
          by_cases z : r = k
          · rw [if_pos z, z]
            exact (h.fits hp hq hpq hk0 hbelow).1
          · rw [if_neg z]
            exact hpq r (hr.resolve_right z)
      · rw [if_neg c2]
        intro q hq hpq
        exact c2 (h.fits hp hq hpq hk0 hbelow).2
    · rw [if_neg c]
      have ih := divF_ok hd hp ks l p _ s2 hk' hall' (h.skip hk0 c)
      cases hr : divF offs ks l with
      | some out =>
        rw [hr] at ih
        obtain ⟨q, q1, q2, q3⟩ := ih
        have pk := h.out k nk
        have qk : q k = 0 := by rw [q2 k (.inr rfl), pk]
        refine ⟨q, q1, fun r hr => q2 r (.inl hr), ?_⟩
        rw [List.filter_cons, if_neg (by rw [qk]; simp)]
        exact q3
      | none =>
        rw [hr] at ih
        intro q hq hpq
        refine ih q hq fun r hr => ?_
        rcases hr with hr | rfl
        · exact hpq r hr
        · have f := (h.fits hp hq hpq hk0 hbelow).1
          have := h.out r nk
          have := h.nn r
          omega
theorem div_all {offs : List Int} (hd : offs.Nodup) (hp : ∀ o ∈ offs, 1 ≤ o) {t : Int → Int} (hn : ∀ k, 0 ≤ t k) {ks : List Int} (hs : ks.Pairwise (· < ·)) (hall : ∀ r, r ∉ ks → t r = 0) :
    match divF offs ks t with
    | some out => ∃ q, IsQ offs t q ∧ out = (ks.filter fun k => decide (0 < q k)).map fun k => (k, q k)
    | none => ∀ q, ¬ IsQ offs t q := by
  have h0 : Mid offs t t (fun _ => 0) (fun _ => False) := ⟨fun j => by
    have : (sumO offs fun _ => (0 : Int)) = 0 := by
      unfold sumO
      clear hd hp
      induction offs with
      | nil => rfl
      | cons y l ih => rw [List.map_cons, List.sum_cons, ih]; rfl
    rw [this]; omega, hn, fun _ => Int.le_refl _, fun _ _ => rfl, fun _ z => z.elim⟩
  have := divF_ok hd hp ks t (fun _ => 0) (fun _ => False) hs (fun _ _ _ z => z.elim) (fun r _ hn => hall r hn) h0
  cases hr : divF offs ks t with
  | some out =>
    rw [hr] at this
    obtain ⟨q, q1, _, q3⟩ := this
    exact ⟨q, q1, q3⟩
  | none =>
    rw [hr] at this
    exact fun q hq => this q hq fun _ z => z.elim
theorem gT_ind {T : TI} (hk : Keys T) (v : Int) : gT T v = sumH (fun y => if y = v then 1 else 0) T := (gT_sum hk).symm
theorem gT_pT {T : TI} (hk : Keys T) (k c j : Int) : gT (pT T k c) j = if j = k then c else gT T j := by
  have e := sumH_pT (fun y => if y = j then 1 else 0) hk k (c - gT T k)
  rw [show gT T k + (c - gT T k) = c by omega] at e
  rw [gT_ind (keys_pT hk k c), e, ← gT_ind hk]
  by_cases h : k = j
  · rw [if_pos h, if_pos h.symm, h]; omega
  · rw [if_neg h, if_neg fun z => h z.symm]; omega
theorem pT_keys {T : TI} {k c : Int} (h : ∃ e ∈ T, e.1 = k) : (pT T k c).map (·.1) = T.map (·.1) := by
  unfold pT
  rw [if_pos (List.any_eq_true.mpr (let ⟨e, he, z⟩ := h; ⟨e, he, decide_eq_true z⟩)), List.map_map]
  refine List.map_congr_left fun e _ => ?_
  simp only [Function.comp]
  split <;> rfl
theorem pT_new {T : TI} {k c : Int} (h : ¬ ∃ e ∈ T, e.1 = k) : pT T k c = T ++ [(k, c)] := by
  unfold pT
  rw [if_neg]
  intro z
  obtain ⟨e, he, q⟩ := List.any_eq_true.mp z
  exact h ⟨e, he, of_decide_eq_true q⟩
noncomputable abbrev dI : SM := (sSeq (sIf (tV (eOp oLt (eGet2 (eVar 3) (eOp oAdd (eVar 5) (eVar 7)) (eC (.int 0))) (eVar 6))) (sRet (eC .non)) sSkip) (sPut fPutD (eOp oSub (eOp oIxD (eVar 3) (eOp oAdd (eVar 5) (eVar 7))) (eVar 6)) (eVar 3) (eOp oAdd (eVar 5) (eVar 7))))
theorem lessAt_nil (k w : Int) (l : Int → Int) : lessAt [] k w l = l := by
  funext j
  show l j - 0 = l j
  omega
theorem lessAt_cons (o : Int) (offs : List Int) (k w : Int) (l : Int → Int) : lessAt (o :: offs) k w l = lessAt offs k w (fun j => l j - if j - o = k then w else 0) := by
  funext j
  unfold lessAt sumO
  rw [List.map_cons, List.sum_cons]
  generalize (List.map (fun o => if j - o = k then w else 0) offs).sum = u
  show l j - ((if j - o = k then w else 0) + u) = (l j - if j - o = k then w else 0) - u
  omega
def But (p : Nat) (S S' : Sto) : Prop := S'.length = S.length ∧ ∀ i, i ≠ p → S'[i]? = S[i]?
theorem But.refl (p : Nat) (S : Sto) : But p S S := ⟨rfl, fun _ _ => rfl⟩
theorem But.set (p : Nat) (S : Sto) (o : SO) : But p S (S.set p o) := ⟨List.length_set, fun _ h => List.getElem?_set_ne (Ne.symm h)⟩
theorem But.trans {p : Nat} {S S1 S2 : Sto} (a : But p S S1) (b : But p S1 S2) : But p S S2 := ⟨b.1.trans a.1, fun i h => (b.2 i h).trans (a.2 i h)⟩
theorem mem_of_pos {T : TI} {j : Int} (h : gT T j ≠ 0) : ∃ e ∈ T, e.1 = j := Classical.byContradiction fun z => h (gT_no z)
theorem dI_loop {p : Nat} {k w : Int} (hw : 0 < w) (r0 r1 r2 r4 : Option D) : ∀ (l : List Int) (S : Sto) (L : TI) (r7 : Option D), l.Nodup → S[p]? = some (.dic (encT L)) → Keys L → L.length < 1000 →
    if ∀ o ∈ l, w ≤ gT L (k + o) then ∃ (L' : TI) (a7 : Option D), forL (.nm 7) dI (l.map .int) [r0, r1, r2, some (.ref p), r4, some (.int k), some (.int w), r7] S = .ok (.nx [r0, r1, r2, some (.ref p), r4, some (.int k), some (.int w), a7]) (S.set p (.dic (encT L'))) ∧ Keys L' ∧ L'.map (·.1) = L.map (·.1) ∧ gT L' = lessAt l k w (gT L)
    else ∃ S', forL (.nm 7) dI (l.map .int) [r0, r1, r2, some (.ref p), r4, some (.int k), some (.int w), r7] S = .ok (.rt .non) S' ∧ But p S S'
  | [], S, L, r7, _, hp, hk, _ => by
    rw [if_pos (fun o ho => by cases ho)]
    exact ⟨L, r7, by rw [set_same hp]; rfl, hk, rfl, (lessAt_nil _ _ _).symm⟩
  | o :: l, S, L, r7, hd, hp, hk, hz => by
    obtain ⟨d1, d2⟩ := List.nodup_cons.mp hd
    have hpl : p < S.length := (List.getElem?_eq_some_iff.mp hp).1
    have hg : eGet2 (eVar 3) (eOp oAdd (eVar 5) (eVar 7)) (eC (.int 0)) [r0, r1, r2, some (.ref p), r4, some (.int k), some (.int w), some (.int o)] S = .ok (.int (gT L (k + o))) S := get_go hp (eVar_go rfl) (eOp_go (eVar_go rfl) (eVar_go rfl) rfl)
    have ht : tV (eOp oLt (eGet2 (eVar 3) (eOp oAdd (eVar 5) (eVar 7)) (eC (.int 0))) (eVar 6)) [r0, r1, r2, some (.ref p), r4, some (.int k), some (.int w), some (.int o)] S = .ok (decide (gT L (k + o) < w)) S := tV_go (eOp_go hg (eVar_go rfl) rfl)
    by_cases c : w ≤ gT L (k + o)
    · rw [decide_eq_false (by omega)] at ht
      have hm := mem_gT hk (mem_of_pos (T := L) (j := k + o) (by omega))
      have e1 : dI [r0, r1, r2, some (.ref p), r4, some (.int k), some (.int w), some (.int o)] S = .ok (.nx [r0, r1, r2, some (.ref p), r4, some (.int k), some (.int w), some (.int o)]) (S.set p (.dic (encT (pT L (k + o) (gT L (k + o) - w))))) :=
        (sSeq_go ((sIf_f ht).trans rfl)).trans (sPut_go (eOp_go (eOp_go (eVar_go rfl) (eOp_go (eVar_go rfl) (eVar_go rfl) rfl) (ixD_ok (.inl hp) hk hm)) (eVar_go rfl) rfl) (eVar_go rfl) (eOp_go (eVar_go rfl) (eVar_go rfl) rfl) (put_go hp (by omega) _ _))
      have k1 := keys_pT hk (k + o) (gT L (k + o) - w)
      have m1 := pT_keys (c := gT L (k + o) - w) (mem_of_pos (T := L) (j := k + o) (by omega))
      have g1 := gT_pT hk (k + o) (gT L (k + o) - w)
      generalize pT L (k + o) (gT L (k + o) - w) = L1 at e1 k1 m1 g1
      have gg : gT L1 = fun j => gT L j - if j - o = k then w else 0 := by
        funext j
        rw [g1 j]
        by_cases q : j = k + o
        · rw [if_pos q, if_pos (by omega), q]
        · rw [if_neg q, if_neg (by omega)]; omega
      have ll : L1.length = L.length := by
        have := congrArg List.length m1
        rwa [List.length_map, List.length_map] at this
      have ih := dI_loop (k := k) hw r0 r1 r2 r4 l (S.set p (.dic (encT L1))) L1 (some (.int o)) d2 (List.getElem?_set_self hpl) k1 (by omega)
      have hiff : (∀ x ∈ l, w ≤ gT L1 (k + x)) ↔ ∀ x ∈ o :: l, w ≤ gT L (k + x) := by
        have e : ∀ x ∈ l, gT L1 (k + x) = gT L (k + x) := fun x hx => by
          rw [g1 (k + x), if_neg fun z => d1 (by rw [show o = x by omega]; exact hx)]
        constructor
        · intro h x hx
          rcases List.mem_cons.mp hx with rfl | hx
          · exact c
          · rw [← e x hx]; exact h x hx
        · intro h x hx
          rw [e x hx]; exact h x (.tail _ hx)
      rw [List.map_cons, forL_cons (r1 := [r0, r1, r2, some (.ref p), r4, some (.int k), some (.int w), some (.int o)]) rfl e1]
      by_cases c2 : ∀ x ∈ o :: l, w ≤ gT L (k + x)
      · rw [if_pos (hiff.mpr c2)] at ih
        rw [if_pos c2]
        obtain ⟨L', a7, x1, x2, x3, x4⟩ := ih
        rw [List.set_set] at x1
        exact ⟨L', a7, x1, x2, x3.trans m1, by rw [x4, gg, lessAt_cons]⟩
      · rw [if_neg fun z => c2 (hiff.mp z)] at ih
        rw [if_neg c2]
        obtain ⟨S', x1, x2⟩ := ih
        exact ⟨S', x1, (But.set _ _ _).trans x2⟩
    · rw [if_neg fun z => c (z o (.head _))]
      rw [decide_eq_true (by omega)] at ht
      rw [List.map_cons]
      exact ⟨S, forL_rt (r1 := [r0, r1, r2, some (.ref p), r4, some (.int k), some (.int w), some (.int o)]) rfl (sSeq_rt ((sIf_t ht).trans (sRet_go rfl))), But.refl _ _⟩
noncomputable abbrev dO : SM := (sSeq (sSet 6 (eOp oIxD (eVar 3) (eVar 5))) (sIf (tV (eOp oGt (eVar 6) (eC (.int 0)))) (sSeq (sPut fPutD (eVar 6) (eVar 4) (eOp oAdd (eVar 5) (eVar 1))) (sFor (aSeq (eVar 2) itSeq) (.nm 7) dI)) sSkip))
def But2 (p q : Nat) (S S' : Sto) : Prop := S'.length = S.length ∧ ∀ i, i ≠ p → i ≠ q → S'[i]? = S[i]?
theorem But2.refl (p q : Nat) (S : Sto) : But2 p q S S := ⟨rfl, fun _ _ _ => rfl⟩
theorem But2.set (p q : Nat) (S : Sto) (o : SO) : But2 p q S (S.set p o) := ⟨List.length_set, fun _ h _ => List.getElem?_set_ne (Ne.symm h)⟩
theorem But2.set' (p q : Nat) (S : Sto) (o : SO) : But2 p q S (S.set q o) := ⟨List.length_set, fun _ _ h => List.getElem?_set_ne (Ne.symm h)⟩
theorem But.two {p : Nat} (q : Nat) {S S' : Sto} (h : But p S S') : But2 p q S S' := ⟨h.1, fun i a _ => h.2 i a⟩
theorem But2.trans {p q : Nat} {S S1 S2 : Sto} (a : But2 p q S S1) (b : But2 p q S1 S2) : But2 p q S S2 := ⟨b.1.trans a.1, fun i h g => (b.2 i h g).trans (a.2 i h g)⟩
def upT (n : Int) (T : TI) : TI := T.map fun e => (e.1 + n, e.2)
theorem dO_loop {p q : Nat} (hpq : p ≠ q) {n : Int} {offs : List Int} (hd : offs.Nodup) (ho : offs.length ≤ 10) (r0 : Option D) : ∀ (ks : List Int) (S : Sto) (L O : TI) (r5 r6 r7 : Option D), ks.Nodup → S[p]? = some (.dic (encT L)) → S[q]? = some (.dic (encT O)) → Keys L → L.length < 1000 → (∀ k ∈ ks, ∃ e ∈ L, e.1 = k) → (∀ e ∈ O, ∀ k ∈ ks, e.1 ≠ k + n) → O.length + ks.length < 1000 →
    match divF offs ks (gT L) with
    | some out => ∃ (S' : Sto) (a5 a6 a7 : Option D), forL (.nm 5) dO (ks.map .int) [r0, some (.int n), some (.tup (offs.map .int)), some (.ref p), some (.ref q), r5, r6, r7] S = .ok (.nx [r0, some (.int n), some (.tup (offs.map .int)), some (.ref p), some (.ref q), a5, a6, a7]) S' ∧ But2 p q S S' ∧ S'[q]? = some (.dic (encT (O ++ upT n out)))
    | none => ∃ S', forL (.nm 5) dO (ks.map .int) [r0, some (.int n), some (.tup (offs.map .int)), some (.ref p), some (.ref q), r5, r6, r7] S = .ok (.rt .non) S' ∧ But2 p q S S'
  | [], S, L, O, r5, r6, r7, _, hp, hq, _, _, _, _, _ => ⟨S, r5, r6, r7, rfl, But2.refl _ _ _, by simpa [upT] using hq⟩
  | k :: ks, S, L, O, r5, r6, r7, hs, hp, hq, hk, hz, hm, hn, hl => by
    obtain ⟨s1, s2⟩ := List.nodup_cons.mp hs
    have z10 : (1000 : Nat) ≤ sizeLine := by decide
    rw [List.length_cons] at hl
    have hpl : p < S.length := (List.getElem?_eq_some_iff.mp hp).1
    have hql : q < S.length := (List.getElem?_eq_some_iff.mp hq).1
    have hmk := mem_gT hk (hm k (.head _))
    have e0 : sSet 6 (eOp oIxD (eVar 3) (eVar 5)) [r0, some (.int n), some (.tup (offs.map .int)), some (.ref p), some (.ref q), some (.int k), r6, r7] S = .ok (.nx [r0, some (.int n), some (.tup (offs.map .int)), some (.ref p), some (.ref q), some (.int k), some (.int (gT L k)), r7]) S := sSet_go (eOp_go (eVar_go rfl) (eVar_go rfl) (ixD_ok (.inl hp) hk hmk))
    have ht : tV (eOp oGt (eVar 6) (eC (.int 0))) [r0, some (.int n), some (.tup (offs.map .int)), some (.ref p), some (.ref q), some (.int k), some (.int (gT L k)), r7] S = .ok (decide (0 < gT L k)) S := tV_go (eOp_go (eVar_go rfl) rfl rfl)
    rw [List.map_cons]
    unfold divF
    by_cases c : 0 < gT L k
    · rw [decide_eq_true c] at ht
      have hnew : ¬ ∃ e ∈ O, e.1 = k + n := fun ⟨e, he, z⟩ => hn e he k (.head _) z
      have e1 : sPut fPutD (eVar 6) (eVar 4) (eOp oAdd (eVar 5) (eVar 1)) [r0, some (.int n), some (.tup (offs.map .int)), some (.ref p), some (.ref q), some (.int k), some (.int (gT L k)), r7] S = .ok (.nx [r0, some (.int n), some (.tup (offs.map .int)), some (.ref p), some (.ref q), some (.int k), some (.int (gT L k)), r7]) (S.set q (.dic (encT (O ++ [(k + n, gT L k)])))) := by
        have := put_go hq (by omega) (k + n) (gT L k)
        rw [pT_new hnew] at this
        exact sPut_go (eVar_go rfl) (eVar_go rfl) (eOp_go (eVar_go rfl) (eVar_go rfl) rfl) this
      have hp1 : (S.set q (.dic (encT (O ++ [(k + n, gT L k)]))))[p]? = some (.dic (encT L)) := by rw [List.getElem?_set_ne (Ne.symm hpq)]; exact hp
      have li := dI_loop (k := k) c r0 (some (.int n)) (some (.tup (offs.map .int))) (some (.ref q)) offs _ L r7 hd hp1 hk hz
      have hq1 : (S.set q (.dic (encT (O ++ [(k + n, gT L k)]))))[q]? = some (.dic (encT (O ++ [(k + n, gT L k)]))) := List.getElem?_set_self hql
      have b1 : But2 p q S (S.set q (.dic (encT (O ++ [(k + n, gT L k)])))) := But2.set' _ _ _ _
      have hl1 : (S.set q (.dic (encT (O ++ [(k + n, gT L k)])))).length = S.length := List.length_set
      generalize S.set q (.dic (encT (O ++ [(k + n, gT L k)]))) = S1 at e1 hp1 li hq1 b1 hl1
      have hit : aSeq (eVar 2) itSeq [r0, some (.int n), some (.tup (offs.map .int)), some (.ref p), some (.ref q), some (.int k), some (.int (gT L k)), r7] S1 = .ok (offs.map .int) S1 := rfl
      rw [if_pos c]
      by_cases c2 : ∀ o ∈ offs, gT L k ≤ gT L (k + o)
      · rw [if_pos c2] at li ⊢
        obtain ⟨L', a7, x1, x2, x3, x4⟩ := li
        have hp2 : (S1.set p (.dic (encT L')))[p]? = some (.dic (encT L')) := List.getElem?_set_self (by omega)
        have hq2 : (S1.set p (.dic (encT L')))[q]? = some (.dic (encT (O ++ [(k + n, gT L k)]))) := by rw [List.getElem?_set_ne hpq]; exact hq1
        have ll : L'.length = L.length := by
          have := congrArg List.length x3
          rwa [List.length_map, List.length_map] at this
        have ih := dO_loop (n := n) hpq hd ho r0 ks (S1.set p (.dic (encT L'))) L' (O ++ [(k + n, gT L k)]) (some (.int k)) (some (.int (gT L k))) a7 s2 hp2 hq2 x2 (by omega) (fun x hx => by
          have := hm x (.tail _ hx)
          have h1 : x ∈ L.map (·.1) := List.mem_map.mpr this
          rw [← x3] at h1
          exact List.mem_map.mp h1) (fun e he x hx => by
            rcases List.mem_append.mp he with he | he
            · exact hn e he x (.tail _ hx)
            · rw [List.mem_singleton.mp he]
              exact fun z => s1 (by rw [show k = x by have : k + n = x + n := z; omega]; exact hx)) (by simp; omega)
        have b2 : But2 p q S (S1.set p (.dic (encT L'))) := b1.trans (But2.set _ _ _ _)
        rw [x4] at ih
        rw [forL_cons (r1 := [r0, some (.int n), some (.tup (offs.map .int)), some (.ref p), some (.ref q), some (.int k), r6, r7]) rfl ((sSeq_go e0).trans ((sIf_t ht).trans ((sSeq_go e1).trans ((sFor_go hit).trans x1))))]
        cases hr : divF offs ks (lessAt offs k (gT L k) (gT L)) with
        | some out =>
          rw [hr] at ih
          obtain ⟨S', a5, a6, a7, y1, y2, y3⟩ := ih
          exact ⟨S', a5, a6, a7, y1, b2.trans y2, by rw [y3, List.append_assoc]; rfl⟩
        | none =>
          rw [hr] at ih
          obtain ⟨S', y1, y2⟩ := ih
          exact ⟨S', y1, b2.trans y2⟩
      · rw [if_neg c2] at li ⊢
        obtain ⟨S', x1, x2⟩ := li
        exact ⟨S', forL_rt (r1 := [r0, some (.int n), some (.tup (offs.map .int)), some (.ref p), some (.ref q), some (.int k), r6, r7]) rfl ((sSeq_go e0).trans ((sIf_t ht).trans ((sSeq_go e1).trans ((sFor_go hit).trans x1)))), b1.trans (x2.two q)⟩
    · rw [decide_eq_false c] at ht
      rw [if_neg c]
      have ih := dO_loop (n := n) hpq hd ho r0 ks S L O (some (.int k)) (some (.int (gT L k))) r7 s2 hp hq hk hz (fun x hx => hm x (.tail _ hx)) (fun e he x hx => hn e he x (.tail _ hx)) (by omega)
      rw [forL_cons (r1 := [r0, some (.int n), some (.tup (offs.map .int)), some (.ref p), some (.ref q), some (.int k), r6, r7]) rfl ((sSeq_go e0).trans ((sIf_f ht).trans rfl))]
      exact ih
theorem aSeq_go {e : EM} {it : Sto → D → Option (List D)} {r : Rho} {S S1 : Sto} {d : D} {xs : List D} (h : e r S = .ok d S1) (hi : it S1 d = some xs) : aSeq e it r S = .ok xs S1 := by unfold aSeq; rw [h, R.bind_ok, hi]; rfl
structure IsTab (D : TI) (f : Int → Int) : Prop where
  keys : Keys D
  mem : ∀ v, (∃ e ∈ D, e.1 = v) ↔ 0 < f v
  get : ∀ v, gT D v = f v
theorem out_tab {ks : List Int} (hn : ks.Nodup) {q : Int → Int} (h0 : ∀ r, 0 ≤ q r) (hq : ∀ r, r ∉ ks → q r = 0) (n : Int) : IsTab (upT n ((ks.filter fun k => decide (0 < q k)).map fun k => (k, q k))) (fun v => q (v - n)) := by
  have ee : upT n ((ks.filter fun k => decide (0 < q k)).map fun k => (k, q k)) = (ks.filter fun k => decide (0 < q k)).map fun k => (k + n, q k) := by
    unfold upT
    rw [List.map_map]; rfl
  rw [ee]
  have hk : Keys ((ks.filter fun k => decide (0 < q k)).map fun k => (k + n, q k)) := by
    unfold Keys
    rw [List.pairwise_map]
    exact (List.Pairwise.filter _ hn).imp fun {a b} h z => h (by have : a + n = b + n := z; omega)
  have hm : ∀ v, (∃ e ∈ (ks.filter fun k => decide (0 < q k)).map fun k => (k + n, q k), e.1 = v) ↔ 0 < q (v - n) := fun v => by
    constructor
    · rintro ⟨e, he, rfl⟩
      obtain ⟨k, hk, rfl⟩ := List.mem_map.mp he
      have := of_decide_eq_true (List.mem_filter.mp hk).2
      show 0 < q (k + n - n)
      rw [show k + n - n = k by omega]
      exact this
    · intro h
      refine ⟨(v - n + n, q (v - n)), List.mem_map.mpr ⟨v - n, List.mem_filter.mpr ⟨?_, decide_eq_true h⟩, rfl⟩, by show v - n + n = v; omega⟩
      exact Classical.byContradiction fun z => by have := hq _ z; omega
  refine ⟨hk, hm, fun v => ?_⟩
  by_cases c : 0 < q (v - n)
  · have hmem : (v, q (v - n)) ∈ (ks.filter fun k => decide (0 < q k)).map fun k => (k + n, q k) := by
      refine List.mem_map.mpr ⟨v - n, List.mem_filter.mpr ⟨?_, decide_eq_true c⟩, by rw [show v - n + n = v by omega]⟩
      exact Classical.byContradiction fun z => by have := hq _ z; omega
    exact gT_mem hk hmem
  · rw [gT_no fun z => c ((hm v).mp z)]
    have := h0 (v - n)
    omega
def Old (S S' : Sto) : Prop := S.length ≤ S'.length ∧ ∀ i, i < S.length → S'[i]? = S[i]?
theorem div_ok {S : Sto} {m : Nat} {T : TI} (h : dAt S m T) (ht : Tab T) (hs : T.length ≤ 900) (n : Int) {offs : List Int} (hd : offs.Nodup) (hp : ∀ o ∈ offs, 1 ≤ o) (ho : offs.length ≤ 10) :
    (∃ (q : Int → Int) (O : TI) (S' : Sto) (a : Nat), F_divided [.ref m, .int n, .tup (offs.map .int)] S = .ok (.ref a) S' ∧ Old S S' ∧ S.length ≤ a ∧ S'[a]? = some (.dic (encT O)) ∧ IsQ offs (gT T) q ∧ IsTab O (fun v => q (v - n)) ∧ O.length ≤ 900)
    ∨ ∃ S', F_divided [.ref m, .int n, .tup (offs.map .int)] S = .ok .non S' ∧ Old S S' ∧ ∀ q, ¬ IsQ offs (gT T) q := by
  have z10 : (1000 : Nat) ≤ sizeLine := by decide
  have hml := h.lt
  have tl := hs
  have hperm := sortZ_perm (T.map (·.1))
  have hnd : (sortZ (T.map (·.1))).Nodup := hperm.nodup_iff.mpr (keys_nd ht.keys)
  have hsl : (sortZ (T.map (·.1))).length = T.length := by rw [hperm.length_eq, List.length_map]
  have hsort : (sortZ (T.map (·.1))).Pairwise (· < ·) := by
    have a := sortZ_sorted (T.map (·.1))
    have b : (sortZ (T.map (·.1))).Pairwise (· ≠ ·) := hnd
    exact (a.and b).imp fun ⟨x, y⟩ => by omega
  have hmm : ∀ k, k ∈ sortZ (T.map (·.1)) ↔ ∃ e ∈ T, e.1 = k := fun k => by
    rw [hperm.mem_iff, List.mem_map]
  have hall : ∀ r, r ∉ sortZ (T.map (·.1)) → gT T r = 0 := fun r hr => gT_no fun z => hr ((hmm r).mpr z)
  have hnn : ∀ k, 0 ≤ gT T k := fun k => by
    by_cases z : ∃ e ∈ T, e.1 = k
    · have := ht.pos _ (mem_gT ht.keys z)
      exact Int.le_trans (by decide) this
    · rw [gT_no z]; exact Int.le_refl _
  have e1 : sSet 3 (eBR fDcd (aCons (eVar 0) aNil)) [some (.ref m), some (.int n), some (.tup (offs.map .int)), none, none, none, none, none] S = .ok (.nx [some (.ref m), some (.int n), some (.tup (offs.map .int)), some (.ref S.length), none, none, none, none]) (S ++ [.dic (encT T)]) := by
    refine sSet_go ((eBR_go (aCons_go (eVar_go rfl) rfl)).trans ?_)
    unfold fDcd
    simp only [h.dic]
  have l1 : (S ++ [SO.dic (encT T)]).length = S.length + 1 := by simp
  have e2 : sSet 4 eDicE [some (.ref m), some (.int n), some (.tup (offs.map .int)), some (.ref S.length), none, none, none, none] (S ++ [.dic (encT T)]) = .ok (.nx [some (.ref m), some (.int n), some (.tup (offs.map .int)), some (.ref S.length), some (.ref (S.length + 1)), none, none, none]) (S ++ [.dic (encT T), .dic []]) := by
    have : sSet 4 eDicE [some (.ref m), some (.int n), some (.tup (offs.map .int)), some (.ref S.length), none, none, none, none] (S ++ [.dic (encT T)]) = .ok (.nx [some (.ref m), some (.int n), some (.tup (offs.map .int)), some (.ref S.length), some (.ref (S ++ [SO.dic (encT T)]).length), none, none, none]) ((S ++ [.dic (encT T)]) ++ [.dic []]) := sSet_go rfl
    rw [l1, List.append_assoc] at this
    exact this
  have hdat : dAt (S ++ [.dic (encT T), .dic []]) m T := by
    unfold dAt
    rw [List.getElem?_append_left hml]
    exact h
  have hsr : fSrt (S ++ [.dic (encT T), .dic []]) [.ref m] = some (.lst ((sortZ (T.map (·.1))).map .int)) := by
    unfold fSrt srtOf
    simp only [hdat.seq, hdat.dic, kints_enc]
    rw [if_pos (by rw [List.length_map]; omega)]
  have hit : aSeq (eB fSrt (aCons (eVar 0) aNil)) itSeq [some (.ref m), some (.int n), some (.tup (offs.map .int)), some (.ref S.length), some (.ref (S.length + 1)), none, none, none] (S ++ [.dic (encT T), .dic []]) = .ok ((sortZ (T.map (·.1))).map .int) (S ++ [.dic (encT T), .dic []]) := aSeq_go (eB_go (aCons_go (eVar_go rfl) rfl) hsr) rfl
  have hp0 : (S ++ [SO.dic (encT T), .dic []])[S.length]? = some (.dic (encT T)) := by simp
  have hq0 : (S ++ [SO.dic (encT T), .dic []])[S.length + 1]? = some (.dic (encT [])) := by
    rw [List.getElem?_append_right (by omega), show S.length + 1 - S.length = 1 by omega]
    rfl
  have lp := dO_loop (p := S.length) (q := S.length + 1) (n := n) (by omega) hd ho (some (.ref m)) (sortZ (T.map (·.1))) (S ++ [.dic (encT T), .dic []]) T [] none none none hnd hp0 hq0 ht.keys (by omega) (fun k hk => (hmm k).mp hk) (fun e he => by cases he) (by rw [hsl]; simp; omega)
  have da := div_all hd hp hnn hsort hall
  have hold : ∀ S', But2 S.length (S.length + 1) (S ++ [.dic (encT T), .dic []]) S' → Old S S' := fun S' b => by
    have l2 : (S ++ [SO.dic (encT T), .dic []]).length = S.length + 2 := by simp
    refine ⟨by rw [b.1, l2]; omega, fun i hi => ?_⟩
    rw [b.2 i (by omega) (by omega), List.getElem?_append_left hi]
  cases hr : divF offs (sortZ (T.map (·.1))) (gT T) with
  | some out =>
    rw [hr] at lp da
    obtain ⟨S', a5, a6, a7, x1, x2, x3⟩ := lp
    obtain ⟨q, q1, q2⟩ := da
    rw [List.nil_append] at x3
    refine .inl ⟨q, upT n out, S', S.length + 1, fnM_rt (ρ := [some (.ref m), some (.int n), some (.tup (offs.map .int)), none, none, none, none, none]) rfl ((sSeq_go e1).trans ((sSeq_go e2).trans ((sSeq_go ((sFor_go hit).trans x1)).trans (sRet_go (eVar_go rfl))))), hold S' x2, by omega, x3, q1, ?_, ?_⟩
    · rw [q2]
      exact out_tab hnd q1.nn (fun r hr => by
        have h1 := q1.le r
        have h2 := q1.nn r
        have h3 := hall r hr
        omega) n
    · rw [q2]
      unfold upT
      rw [List.length_map, List.length_map]
      have := List.length_filter_le (fun k => decide (0 < q k)) (sortZ (T.map (·.1)))
      omega
  | none =>
    rw [hr] at lp da
    obtain ⟨S', x1, x2⟩ := lp
    exact .inr ⟨S', fnM_rt (ρ := [some (.ref m), some (.int n), some (.tup (offs.map .int)), none, none, none, none, none]) rfl ((sSeq_go e1).trans ((sSeq_go e2).trans (sSeq_rt ((sFor_go hit).trans x1)))), hold S' x2, da⟩
structure Sim (d : D) (p : PyData) : Prop where
  py : toPy d = some p
  lay : p.canLay0 = true
  dep : p.depth ≤ 3
theorem sims : ∀ {ds : List D} {f : D → PyData}, (∀ d ∈ ds, Sim d (f d)) → toPys ds = some (ds.map f) ∧ PyData.canLayAll0 (ds.map f) = true ∧ PyData.depthAll (ds.map f) ≤ 3
  | [], f, _ => ⟨rfl, rfl, by show 0 ≤ 3; omega⟩
  | d :: ds, f, h => by
    have h1 := h d List.mem_cons_self
    obtain ⟨a, b, c⟩ := sims (ds := ds) (f := f) fun x hx => h x (List.mem_cons_of_mem _ hx)
    refine ⟨by unfold toPys; rw [h1.py, a]; rfl, by unfold List.map PyData.canLayAll0; rw [h1.lay, b]; rfl, ?_⟩
    have := h1.dep
    unfold List.map PyData.depthAll
    omega
theorem shaped_of {p : PyData} (h : p.canLay0 = true) (hd : p.depth ≤ 64) : SeqAt.shaped p = true := by
  unfold SeqAt.shaped; rw [h, decide_eq_true hd]; rfl
theorem eqP_lst {xs ys : List D} {f : D → PyData} (hx : ∀ d ∈ xs, Sim d (f d)) (hy : ∀ d ∈ ys, Sim d (f d)) : eqP (.lst xs) (.lst ys) = some (PyData.eqvAll (xs.map f) (ys.map f)) := by
  obtain ⟨a, b, c⟩ := sims hx
  obtain ⟨a', b', c'⟩ := sims hy
  have e1 : toPy (.lst xs) = some (.list (xs.map f)) := by unfold toPy; rw [a]; rfl
  have e2 : toPy (.lst ys) = some (.list (ys.map f)) := by unfold toPy; rw [a']; rfl
  have s1 : SeqAt.shaped (.list (xs.map f)) = true := shaped_of (by unfold PyData.canLay0; exact b) (by unfold PyData.depth; omega)
  have s2 : SeqAt.shaped (.list (ys.map f)) = true := shaped_of (by unfold PyData.canLay0; exact b') (by unfold PyData.depth; omega)
  unfold eqP
  have e0 : eqS (.lst xs) (.lst ys) = none := rfl
  rw [e0, e1, e2]
  simp only [s1, s2, and_self, if_true]
  rw [PyData.eqv]
theorem eqP_tup {xs ys : List D} {f : D → PyData} (hx : ∀ d ∈ xs, Sim d (f d)) (hy : ∀ d ∈ ys, Sim d (f d)) : eqP (.tup xs) (.tup ys) = some (PyData.eqvAll (xs.map f) (ys.map f)) := by
  obtain ⟨a, b, c⟩ := sims hx
  obtain ⟨a', b', c'⟩ := sims hy
  have e1 : toPy (.tup xs) = some (.tuple (xs.map f)) := by unfold toPy; rw [a]; rfl
  have e2 : toPy (.tup ys) = some (.tuple (ys.map f)) := by unfold toPy; rw [a']; rfl
  have s1 : SeqAt.shaped (.tuple (xs.map f)) = true := shaped_of (by unfold PyData.canLay0; exact b) (by unfold PyData.depth; omega)
  have s2 : SeqAt.shaped (.tuple (ys.map f)) = true := shaped_of (by unfold PyData.canLay0; exact b') (by unfold PyData.depth; omega)
  unfold eqP
  have e0 : eqS (.tup xs) (.tup ys) = none := rfl
  rw [e0, e1, e2]
  simp only [s1, s2, and_self, if_true]
  rw [PyData.eqv]
def pyI : D → PyData
  | .int i => .int i
  | .tup [.int i, .int j] => .tuple [.int i, .int j]
  | _ => .none
theorem pyI_i (i : Int) : pyI (.int i) = PyData.int i := rfl
theorem sim_int (i : Int) : Sim (.int i) (pyI (.int i)) := ⟨rfl, rfl, by show 0 ≤ 3; omega⟩
theorem sim_ints {is : List Int} : ∀ d ∈ is.map D.int, Sim d (pyI d) := fun d hd => by
  obtain ⟨i, _, rfl⟩ := List.mem_map.mp hd
  exact sim_int i
theorem eqv_ints : ∀ (xs ys : List Int), PyData.eqvAll ((xs.map D.int).map pyI) ((ys.map D.int).map pyI) = decide (xs = ys)
  | [], [] => by simp [PyData.eqvAll]
  | [], y :: ys => by simp [PyData.eqvAll]
  | x :: xs, [] => by simp [PyData.eqvAll]
  | x :: xs, y :: ys => by
    simp only [List.map_cons, PyData.eqvAll, eqv_ints xs ys, pyI_i, PyData.eqv]
    rw [Bool.eq_iff_iff]
    simp
theorem eqP_ints (xs ys : List Int) : eqP (.lst (xs.map .int)) (.lst (ys.map .int)) = some (decide (xs = ys)) := by
  rw [eqP_lst sim_ints sim_ints, eqv_ints]
theorem eqP_tints (xs ys : List Int) : eqP (.tup (xs.map .int)) (.tup (ys.map .int)) = some (decide (xs = ys)) := by
  rw [eqP_tup sim_ints sim_ints, eqv_ints]
def okN (x : Int) : Prop := 1 ≤ x ∧ x < 1000000000000000
theorem append_go {S : Sto} {f : Nat} {xs : List D} {v : D} (h : S[f]? = some (.lst xs)) (hl : xs.length < sizeLine) : mAppend S (.ref f) [v] = .ok .non (S.set f (.lst (xs ++ [v]))) := by
  unfold mAppend
  simp only [h, if_pos hl]
theorem isL_ref {S : Sto} {f : Nat} {xs : List D} (h : S[f]? = some (.lst xs)) : isL S (.ref f) = true := by
  unfold isL
  simp only [h]
noncomputable abbrev rowB : SM := (sSeq (sSet 7 (eOp oAdd (eC (.int 1)) (eCall F__law_take (aCons (eVar 0) (aCons (eC (.int 12)) aNil))))) (sDrop (eMtL mAppend (eVar 5) (aCons (eOp oIx (eLst (aCons (eVar 7) (aCons (eVar 7) (aCons (eVar 4) (aCons (eOp oShl (eC (.int 1)) (eVar 6)) (aCons (eOp oAdd (eVar 4) (eOp oMul (eVar 6) (eVar 7))) (aCons (eOp oAdd (eOp oMul (eOp oPow (eC (.int 10)) (eC (.int 12))) (eVar 7)) (eVar 4)) aNil))))))) (eVar 3)) aNil))))
theorem row_turn {S0 S : Sto} {b f i : Nat} {kind base : Int} {xs : List Int} {r1 r2 r7 : Option D} (hi : i < 16) (hk : 0 ≤ kind ∧ kind < 6) (hb : 1 ≤ base ∧ base < 10) (g : Gr b S0 S) (hf : S[f]? = some (.lst (xs.map .int))) (hfb : f ≠ b) (hf0 : S0.length ≤ f) (hl : xs.length < 1000) :
    ∃ (y : Int) (S' : Sto) (r7' : Option D), rowB [some (.ref b), r1, r2, some (.int kind), some (.int base), some (.ref f), some (.int i), r7] S = .ok (.nx [some (.ref b), r1, r2, some (.int kind), some (.int base), some (.ref f), some (.int i), r7']) S' ∧
      okN y ∧ S'[f]? = some (.lst ((xs ++ [y]).map .int)) ∧ Gr b S0 S' := by
  obtain ⟨q, S1, e1, q0, q1, g1⟩ := take_ok g.self (many := 12) (by decide) (by decide)
  have hfl : f < S.length := (List.getElem?_eq_some_iff.mp hf).1
  have hf1 : S1[f]? = some (.lst (xs.map .int)) := by rw [g1.oth f hfb hfl]; exact hf
  have hfl1 : f < S1.length := (List.getElem?_eq_some_iff.mp hf1).1
  generalize hG : (1 : Int) + q = G
  have hG0 : 1 ≤ G ∧ G ≤ 12 := by omega
  have sG : smallI G := ⟨by omega, by omega⟩
  have sI : smallI (i : Int) := ⟨by omega, by omega⟩
  have m1 : (i : Int) * G ≤ 15 * 12 := Int.mul_le_mul (by omega) hG0.2 (by omega) (by omega)
  have m1' : 0 ≤ (i : Int) * G := Int.mul_nonneg (by omega) (by omega)
  have m4 : (2 : Int) ^ i ≤ 32768 := by
    have h := Nat.pow_le_pow_right (n := 2) (by decide) (show i ≤ 15 by omega)
    have h' : ((2 ^ i : Nat) : Int) ≤ ((2 ^ 15 : Nat) : Int) := by exact_mod_cast h
    simpa using h'
  have m4' : 1 ≤ (2 : Int) ^ i := by
    have h := Nat.one_le_two_pow (n := i)
    have h' : (1 : Int) ≤ ((2 ^ i : Nat) : Int) := by exact_mod_cast h
    simpa using h'
  have z6 : (6 : Nat) ≤ sizeLine := by decide
  have hix : ∃ y : Int, okN y ∧ atI [D.int G, D.int G, D.int base, D.int (2 ^ i), D.int (base + (i : Int) * G), D.int (1000000000000 * G + base)] kind = some (.int y) := by
    have h : kind = 0 ∨ kind = 1 ∨ kind = 2 ∨ kind = 3 ∨ kind = 4 ∨ kind = 5 := by omega
    rcases h with h | h | h | h | h | h <;> subst h
    · exact ⟨_, ⟨by omega, by omega⟩, rfl⟩
    · exact ⟨_, ⟨by omega, by omega⟩, rfl⟩
    · exact ⟨_, ⟨by omega, by omega⟩, rfl⟩
    · exact ⟨_, ⟨m4', by omega⟩, rfl⟩
    · exact ⟨_, ⟨by omega, by omega⟩, rfl⟩
    · exact ⟨_, ⟨by omega, by omega⟩, rfl⟩
  obtain ⟨y, hy, hix⟩ := hix
  obtain ⟨n, hn⟩ := g1.bx
  have g01 := g.trans g1
  refine ⟨y, S1.set f (.lst (xs.map .int ++ [.int y])), some (.int G), ?_, hy, by rw [List.map_append]; simp [hfl1], ⟨n, by rw [List.getElem?_set_ne hfb]; exact hn⟩, fun j hj hl => ?_, by simp; exact g01.len⟩
  · have hG1 : eOp oAdd (eC (.int 1)) (eCall F__law_take (aCons (eVar 0) (aCons (eC (.int 12)) aNil))) [some (.ref b), r1, r2, some (.int kind), some (.int base), some (.ref f), some (.int i), r7] S = .ok (.int G) S1 := eOp_go rfl ((eCall_go (aCons_go (eVar_go rfl) (aCons_go rfl rfl))).trans e1) (congrArg (fun z => some (D.int z)) hG)
    have hL : (eLst (aCons (eVar 7) (aCons (eVar 7) (aCons (eVar 4) (aCons (eOp oShl (eC (.int 1)) (eVar 6)) (aCons (eOp oAdd (eVar 4) (eOp oMul (eVar 6) (eVar 7))) (aCons (eOp oAdd (eOp oMul (eOp oPow (eC (.int 10)) (eC (.int 12))) (eVar 7)) (eVar 4)) aNil))))))) [some (.ref b), r1, r2, some (.int kind), some (.int base), some (.ref f), some (.int i), some (.int G)] S1 = .ok (.lst [D.int G, D.int G, D.int base, D.int (2 ^ i), D.int (base + (i : Int) * G), D.int (1000000000000 * G + base)]) S1 :=
      eLst_go (aCons_go (eVar_go rfl) (aCons_go (eVar_go rfl) (aCons_go (eVar_go rfl) (aCons_go (eOp_go rfl (eVar_go rfl) (oShl_i (by omega))) (aCons_go (eOp_go (eVar_go rfl) (eOp_go (eVar_go rfl) (eVar_go rfl) (oMul_i (.inl sI))) rfl) (aCons_go (eOp_go (eOp_go (eOp_go rfl rfl oPow_10_12) (eVar_go rfl) (oMul_i (.inr sG))) (eVar_go rfl) rfl) rfl)))))) z6
    exact (sSeq_go (sSet_go hG1)).trans (sDrop_go ((eMtL_go (eVar_go rfl) (isL_ref hf1) (aCons_go (eOp_go hL (eVar_go rfl) hix) rfl)).trans (append_go hf1 (by rw [List.length_map]; exact Nat.lt_trans hl (by decide)))))
  · rw [List.getElem?_set_ne (by omega)]
    exact g01.oth j hj hl
theorem row_loop {S0 : Sto} {b f : Nat} {kind base : Int} {r1 r2 : Option D} (hk : 0 ≤ kind ∧ kind < 6) (hb : 1 ≤ base ∧ base < 10) (hfb : f ≠ b) (hf0 : S0.length ≤ f) : ∀ (l : List Nat) (S : Sto) (xs : List Int) (r6 r7 : Option D), (∀ i ∈ l, i < 16) → Gr b S0 S → S[f]? = some (.lst (xs.map .int)) → xs.length + l.length < 1000 → (∀ x ∈ xs, okN x) →
    ∃ (ys : List Int) (S' : Sto) (r6' r7' : Option D), forL (.nm 6) rowB (l.map fun (i : Nat) => D.int i) [some (.ref b), r1, r2, some (.int kind), some (.int base), some (.ref f), r6, r7] S = .ok (.nx [some (.ref b), r1, r2, some (.int kind), some (.int base), some (.ref f), r6', r7']) S' ∧
      ys.length = xs.length + l.length ∧ (∀ y ∈ ys, okN y) ∧ S'[f]? = some (.lst (ys.map .int)) ∧ Gr b S0 S'
  | [], S, xs, r6, r7, _, g, hf, _, hx => ⟨xs, S, r6, r7, rfl, rfl, hx, hf, g⟩
  | i :: l, S, xs, r6, r7, hl, g, hf, hz, hx => by
    rw [List.length_cons] at hz
    obtain ⟨y, S1, r7', e, hy, hf1, g1⟩ := row_turn (r1 := r1) (r2 := r2) (r7 := r7) (hl i List.mem_cons_self) hk hb g hf hfb hf0 (by omega)
    obtain ⟨ys, S2, a6, a7, e2, h1, h2, h3, h4⟩ := row_loop hk hb hfb hf0 l S1 (xs ++ [y]) (some (.int i)) r7' (fun j hj => hl j (List.mem_cons_of_mem _ hj)) g1 hf1 (by rw [List.length_append, List.length_cons, List.length_nil]; omega) (fun x h => by
      rcases List.mem_append.mp h with h | h
      · exact hx x h
      · rw [List.mem_singleton.mp h]; exact hy)
    exact ⟨ys, S2, a6, a7, (forL_cons (r1 := [some (.ref b), r1, r2, some (.int kind), some (.int base), some (.ref f), some (.int i), r7]) rfl e).trans e2, by rw [h1, List.length_append, List.length_cons, List.length_nil, List.length_cons]; omega, h2, h3, h4⟩
theorem row_ok {S : Sto} {b : Nat} {most : Int} (g : Gr b S S) (hm : 0 ≤ most ∧ most ≤ 16) : ∃ (xs : List Int) (S' : Sto), F__law_row [.ref b, .int most] S = .ok (.tup (xs.map .int)) S' ∧ (xs.length : Int) ≤ most ∧ (∀ x ∈ xs, okN x) ∧ Gr b S S' := by
  obtain ⟨many, S1, e1, a0, a1, g1⟩ := take_ok g (many := most + 1) (by omega) (by omega)
  obtain ⟨kind, S2, e2, b0, b1, g2⟩ := take_ok g1.self (many := 6) (by decide) (by decide)
  obtain ⟨bs, S3, e3, c0, c1, g3⟩ := take_ok g2.self (many := 9) (by decide) (by decide)
  have gs := (g1.trans g2).trans g3
  obtain ⟨n0, hn0⟩ := gs.bx
  have hb3 : b < S3.length := (List.getElem?_eq_some_iff.mp hn0).1
  obtain ⟨ys, S4, r6, r7, e4, h1, h2, h3, h4⟩ := row_loop (S0 := S) (b := b) (f := S3.length) (kind := kind) (base := 1 + bs) (r1 := some (.int most)) (r2 := some (.int many)) ⟨b0, b1⟩ ⟨by omega, by omega⟩ (by omega) gs.len (List.range many.toNat) (S3 ++ [.lst []]) [] none none (fun i hi => by have := List.mem_range.mp hi; omega) (gs.more _) (by simp) (by simp; omega) (fun x h => nomatch h)
  refine ⟨ys, S4, ?_, by rw [h1]; simp; omega, h2, h4⟩
  have z0 : (0 : Nat) ≤ sizeLine := Nat.zero_le _
  have hN : eNew aNil [some (.ref b), some (.int most), some (.int many), some (.int kind), some (.int (1 + bs)), none, none, none] S3 = .ok (.ref S3.length) (S3 ++ [.lst []]) := by
    unfold eNew
    show (if 0 ≤ sizeLine then R.ok (D.ref S3.length) (S3 ++ [SO.lst []]) else R.bad) = _
    exact if_pos z0
  have ht : fTuple S4 [.ref S3.length] = some (.tup (ys.map .int)) := by
    show (seqOf S4 (.ref S3.length)).map D.tup = _
    unfold seqOf
    simp only [h3, Option.map_some]
  exact fnM_rt (ρ := [some (.ref b), some (.int most), none, none, none, none, none, none]) rfl ((sSeq_go (sSet_go ((eCall_go (aCons_go (eVar_go rfl) (aCons_go (eOp_go (eVar_go rfl) rfl rfl) rfl))).trans e1))).trans ((sSeq_go (sSet_go ((eCall_go (aCons_go (eVar_go rfl) (aCons_go rfl rfl))).trans e2))).trans ((sSeq_go (sSet_go (eOp_go rfl ((eCall_go (aCons_go (eVar_go rfl) (aCons_go rfl rfl))).trans e3) rfl))).trans ((sSeq_go (sSet_go hN)).trans ((sSeq_go ((sFor_go (aRange1_int (aCons_go (eVar_go rfl) rfl) a0 (by omega))).trans e4)).trans (sRet_go (eB_go (aCons_go (eVar_go rfl) rfl) ht)))))))
def areP (n : Nat) (p : D → Bool) : D → Bool
  | .tup xs => decide (xs.length = n) && xs.all p
  | _ => false
def isT : D → Bool
  | .tup _ => true
  | _ => false
theorem isi_tup {d : D} {S : Sto} (h : shal d = true) : fIsi S [d, .ty "tuple"] = some (.bl (isT d)) := by
  cases d <;> first | (cases h; done) | (simp [fIsi, tyD, isiTys, isT])
theorem whole_comp {W : FM} (hW : ∀ (d : D) (S : Sto), shal d = true → W [d] S = .ok (.bl (isI d)) S) {xs : List D} {i : Nat} {r : Rho} {S : Sto} (hr : r[i]? = some (some (.tup xs))) (hs : ∀ x ∈ xs, shal x = true) (hl : xs.length ≤ 1000) :
    eB fAll (aCons (eComp (aSeq (eVar i) itSeq) 1 [] (.nm 0) tTrue (eCall W (aCons (eVar 0) aNil))) aNil) r S = .ok (.bl (xs.all isI)) S := by
  have hc : eComp (aSeq (eVar i) itSeq) 1 [] (.nm 0) tTrue (eCall W (aCons (eVar 0) aNil)) r S = .ok (.lst (xs.map fun x => D.bl (isI x))) S :=
    eComp_map (enc := fun x => x) xs (by rw [List.map_id']; exact it_var hr rfl) (Nat.le_trans hl (by decide)) rfl fun x hx => by
      rw [eCall_go (aCons_go (eVar_go rfl) rfl)]
      exact hW x S (hs x hx)
  exact eB_go (aCons_go hc rfl) fAll_map
theorem arew_eq {d : D} {n : Nat} {S : Sto} (h : Okay d) : F_are_whole [d, .int n] S = .ok (.bl (areP n isI d)) S := by
  have hi : eB fIsi (aCons (eVar 0) (aCons (eC (.ty "tuple")) aNil)) [some d, some (.int n)] S = .ok (.bl (isT d)) S := eB_go (aCons_go (eVar_go rfl) (aCons_go rfl rfl)) (isi_tup h.1)
  refine fnM_rt (ρ := [some d, some (.int n)]) rfl (sRet_go ?_)
  cases d with
  | tup xs =>
    obtain ⟨hs, hl⟩ := h.2 xs rfl
    rw [eAnd_t hi]
    have he : eOp oEqP (eB fLen (aCons (eVar 0) aNil)) (eVar 1) [some (.tup xs), some (.int n)] S = .ok (.bl (decide ((xs.length : Int) = n))) S := eOp_go (eB_go (z := .int xs.length) (aCons_go (eVar_go rfl) rfl) rfl) (eVar_go rfl) oEqP_i
    by_cases hn : xs.length = n
    · rw [decide_eq_true (by omega)] at he
      rw [eAnd_t he, whole_comp (fun d S h => whole_eq h) rfl hs hl]
      simp [areP, hn]
    · rw [decide_eq_false (by omega)] at he
      rw [eAnd_f he]
      simp [areP, hn]
  | _ => exact eAnd_f hi
def upI (n : Nat) : List Int := (List.range n).map fun (i : Nat) => (i : Int)
theorem upI_D (n : Nat) : intsD n = (upI n).map D.int := by unfold upI intsD; rw [List.map_map]; rfl
theorem upI_len (n : Nat) : (upI n).length = n := by unfold upI; rw [List.length_map, List.length_range]
theorem upI_srt (n : Nat) : (upI n).Pairwise (· ≤ ·) := by
  unfold upI
  rw [List.pairwise_map]
  exact (List.pairwise_lt_range (n := n)).imp fun h => by omega
theorem srt_up {n : Nat} {os : List Int} (h : os.Perm (upI n)) : sortZ os = upI n := sorted_uniq ((sortZ_perm os).trans h) (sortZ_sorted os) (upI_srt n)
theorem is_order_yes {xs os : List Int} (hx : xs.length ≤ 100) (h : os.Perm (upI xs.length)) (S : Sto) : F_is_order [.tup (os.map .int), .tup (xs.map .int)] S = .ok (.bl true) S := by
  have lo : os.length = xs.length := by rw [h.length_eq, upI_len]
  have e := arew_eq (d := .tup (os.map .int)) (n := xs.length) (S := S) (ints_okay (by omega))
  have ea : areP xs.length isI (.tup (os.map .int)) = true := by
    show (decide ((os.map D.int).length = xs.length) && (os.map D.int).all isI) = true
    rw [decide_eq_true (by rw [List.length_map]; exact lo), Bool.true_and, List.all_eq_true]
    intro x hx'
    obtain ⟨i, _, rfl⟩ := List.mem_map.mp hx'
    rfl
  rw [ea] at e
  have z : (100 : Nat) ≤ sizeLine := by decide
  have hs : fSrt S [.tup (os.map .int)] = some (.lst ((upI xs.length).map .int)) := by
    rw [← srt_up h]
    unfold fSrt srtOf
    simp only [seqOf, intsOf_map]
    exact if_pos (by omega)
  have hl : fLrg S [.int xs.length] = some (.lst ((upI xs.length).map .int)) := by
    rw [← upI_D]
    exact if_pos ⟨by omega, by omega⟩
  have hq : oEqP S (.lst ((upI xs.length).map .int)) (.lst ((upI xs.length).map .int)) = some (.bl true) := by
    unfold oEqP
    rw [eqP_ints, decide_eq_true rfl]; rfl
  exact fnM_rt (ρ := [some (.tup (os.map .int)), some (.tup (xs.map .int))]) rfl (sRet_go ((eAnd_t ((eCall_go (aCons_go (eVar_go rfl) (aCons_go (eB_go (aCons_go (eVar_go rfl) rfl) (len_tup)) rfl))).trans e)).trans (eOp_go (eB_go (aCons_go (eVar_go rfl) rfl) hs) (eB_go (aCons_go (eB_go (aCons_go (eVar_go rfl) rfl) (len_tup)) rfl) hl) hq)))
def mixd (xs os : List Int) : List Int := os.map fun o => xs.getD o.toNat 0
theorem mix_comp {xs os : List Int} (hl : os.length ≤ 100) (ho : ∀ o ∈ os, 0 ≤ o ∧ o < xs.length) {r : Rho} {i j : Nat} {S : Sto} (hi : r[i]? = some (some (.tup (os.map .int)))) (hj : r[j]? = some (some (.tup (xs.map .int)))) : eB fTuple (aCons (eComp (aSeq (eVar i) itSeq) 1 [j] (.nm 0) tTrue (eOp oIx (eVar 1) (eVar 0))) aNil) r S = .ok (.tup ((mixd xs os).map .int)) S := by
  have z : (100 : Nat) ≤ sizeLine := by decide
  have hc := eComp_map (enc := D.int) (out := fun o : Int => D.int (xs.getD o.toNat 0)) (e := eOp oIx (eVar 1) (eVar 0)) (it := aSeq (eVar i) itSeq) (caps := [j]) (tl := [some (.tup (xs.map .int))]) (r := r) (S := S) os (it_var hi rfl) (by omega) (by simp [hj]) fun o h => by
    obtain ⟨h0, h1⟩ := ho o h
    obtain ⟨n, rfl⟩ : ∃ n : Nat, o = n := ⟨o.toNat, by omega⟩
    have hn : n < (xs.map D.int).length := by rw [List.length_map]; omega
    have hx : oIx S (.tup (xs.map .int)) (.int (n : Int)) = some (.int (xs.getD n 0)) := by
      have := atI_nat' (xs := xs.map D.int) (i := n) hn
      rw [List.getElem_map] at this
      have hg : xs.getD n 0 = xs[n]'(by rw [List.length_map] at hn; exact hn) := by simp [List.getD, List.getElem?_eq_getElem (show n < xs.length by rw [List.length_map] at hn; exact hn)]
      rw [hg]
      exact this
    exact eOp_go (eVar_go rfl) (eVar_go rfl) hx
  have em : (mixd xs os).map D.int = os.map fun o : Int => D.int (xs.getD o.toNat 0) := by unfold mixd; rw [List.map_map]; rfl
  rw [em]
  exact eB_go (aCons_go hc rfl) rfl
theorem upI_mem {n : Nat} {o : Int} (h : o ∈ upI n) : 0 ≤ o ∧ o < n := by
  obtain ⟨i, hi, rfl⟩ := List.mem_map.mp h
  have := List.mem_range.mp hi
  omega
theorem erase_map : ∀ (l : List Int) (n : Nat), (l.map D.int).eraseIdx n = (l.eraseIdx n).map D.int
  | [], _ => rfl
  | _ :: _, 0 => rfl
  | x :: l, n + 1 => by
    show D.int x :: (l.map D.int).eraseIdx n = D.int x :: (l.eraseIdx n).map D.int
    rw [erase_map l n]
theorem erase_perm : ∀ (l : List Int) (n : Nat) (h : n < l.length), (l[n] :: l.eraseIdx n).Perm l
  | x :: l, 0, _ => .refl _
  | x :: l, n + 1, h => (List.Perm.swap x _ _).trans (.cons x (erase_perm l n (Nat.lt_of_succ_lt_succ h)))
noncomputable abbrev orE : EM := (eMtL mPopAt (eVar 1) (aCons (eCall F__law_take (aCons (eVar 2) (aCons (eB fLen (aCons (eVar 1) aNil)) aNil))) aNil))
theorem or_loop {b f : Nat} (hfb : f ≠ b) {S0 : Sto} (hf0 : S0.length ≤ f) : ∀ (l : List Nat) (ls : List Int) (S : Sto) (r0 : Option D), ls.length = l.length → ls.length ≤ 100 → Gr b S0 S → S[f]? = some (.lst (ls.map .int)) → ∃ (os : List Int) (S' : Sto), compL (.nm 0) tTrue orE (l.map fun (i : Nat) => D.int i) [r0, some (.ref f), some (.ref b)] S = .ok (os.map .int) S' ∧ os.Perm ls ∧ Gr b S0 S'
  | [], ls, S, r0, hl, _, g, hf => ⟨[], S, rfl, by rw [List.length_eq_zero_iff.mp hl], g⟩
  | i :: l, ls, S, r0, hl, hs, g, hf => by
    rw [List.length_cons] at hl
    obtain ⟨q, S1, e1, q0, q1, g1⟩ := take_ok g.self (many := (ls.length : Int)) (by omega) (by omega)
    obtain ⟨n, rfl⟩ : ∃ n : Nat, q = n := ⟨q.toNat, by omega⟩
    have hfl : f < S.length := (List.getElem?_eq_some_iff.mp hf).1
    have hf1 : S1[f]? = some (.lst (ls.map .int)) := by rw [g1.oth f hfb hfl]; exact hf
    have hfl1 : f < S1.length := (List.getElem?_eq_some_iff.mp hf1).1
    have hn : n < ls.length := by omega
    have hp : mPopAt S1 (.ref f) [.int (n : Int)] = .ok (.int ls[n]) (S1.set f (.lst ((ls.eraseIdx n).map .int))) := by
      unfold mPopAt
      simp only [hf1]
      rw [if_pos ⟨by omega, by rw [List.length_map]; omega⟩, Int.toNat_natCast]
      have : (ls.map D.int)[n]? = some (.int ls[n]) := by rw [List.getElem?_map, List.getElem?_eq_getElem hn]; rfl
      simp only [this]
      rw [erase_map]
    have g01 := g.trans g1
    obtain ⟨m, hm⟩ := g1.bx
    have g2 : Gr b S0 (S1.set f (.lst ((ls.eraseIdx n).map .int))) := ⟨⟨m, by rw [List.getElem?_set_ne hfb]; exact hm⟩, fun j hj hl' => by rw [List.getElem?_set_ne (by omega)]; exact g01.oth j hj hl', by simp; exact g01.len⟩
    have le : (ls.eraseIdx n).length = l.length := by rw [List.length_eraseIdx, if_pos hn]; omega
    obtain ⟨os, S2, e2, p2, g3⟩ := or_loop hfb hf0 l (ls.eraseIdx n) (S1.set f (.lst ((ls.eraseIdx n).map .int))) (some (.int i)) le (by omega) g2 (by simp [hfl1])
    refine ⟨ls[n] :: os, S2, ?_, ((List.Perm.cons _ p2).trans (erase_perm ls n hn)), g3⟩
    have hlen : fLen S [.ref f] = some (.int ls.length) := by
      unfold fLen seqOf
      simp only [hf, Option.map_some, List.length_map]
    have he : orE [some (.int i), some (.ref f), some (.ref b)] S = .ok (.int ls[n]) (S1.set f (.lst ((ls.eraseIdx n).map .int))) := (eMtL_go (eVar_go rfl) (isL_ref hf) (aCons_go ((eCall_go (aCons_go (eVar_go rfl) (aCons_go (eB_go (aCons_go (eVar_go rfl) rfl) hlen) rfl))).trans e1) rfl)).trans hp
    rw [List.map_cons, compL]
    simp only [G.put, List.set_cons_zero, tTrue, R.bind_ok, if_true, he, e2, List.map_cons]
theorem order_ok {S : Sto} {b n : Nat} (g : Gr b S S) (hn : n ≤ 100) : ∃ (os : List Int) (S' : Sto), F__law_order [.ref b, .int n] S = .ok (.tup (os.map .int)) S' ∧ os.Perm (upI n) ∧ Gr b S S' := by
  obtain ⟨v, hv⟩ := g.bx
  have hb : b < S.length := (List.getElem?_eq_some_iff.mp hv).1
  obtain ⟨os, S', e, p, g'⟩ := or_loop (b := b) (f := S.length) (by omega) (S0 := S) (Nat.le_refl _) (List.range n) (upI n) (S ++ [.lst (intsD n)]) none (by rw [upI_len, List.length_range]) (by rw [upI_len]; omega) (g.more _) (by rw [upI_D]; simp)
  have z : (100 : Nat) ≤ sizeLine := by decide
  have hl : eBR fLrgR (aCons (eVar 1) aNil) [some (.ref b), some (.int n), none] S = .ok (.ref S.length) (S ++ [.lst (intsD n)]) := by
    unfold eBR
    rw [aCons_go (eVar_go rfl) rfl, R.bind_ok]
    exact if_pos ⟨by omega, by omega⟩
  have hr : aRange1 (aCons (eVar 1) aNil) [some (.ref b), some (.int n), some (.ref S.length)] (S ++ [.lst (intsD n)]) = .ok ((List.range n).map fun (i : Nat) => D.int i) (S ++ [.lst (intsD n)]) := aRange1_ok (aCons_go (eVar_go rfl) rfl) (by omega)
  have hc : eComp (aRange1 (aCons (eVar 1) aNil)) 1 [2, 0] (.nm 0) tTrue orE [some (.ref b), some (.int n), some (.ref S.length)] (S ++ [.lst (intsD n)]) = .ok (.lst (os.map .int)) S' := by
    unfold eComp
    rw [hr, R.bind_ok, if_pos (by rw [List.length_map, List.length_range]; omega)]
    have : capOf 1 [2, 0] [some (D.ref b), some (.int n), some (.ref S.length)] = [none, some (.ref S.length), some (.ref b)] := rfl
    rw [this, e, R.bind_ok]
  exact ⟨os, S', fnM_rt (ρ := [some (.ref b), some (.int n), none]) rfl ((sSeq_go (sSet_go hl)).trans (sRet_go (eB_go (aCons_go hc rfl) rfl))), p, g'⟩
theorem mixd_up (xs : List Int) : mixd xs (upI xs.length) = xs := by
  unfold mixd upI
  rw [List.map_map]
  refine List.ext_getElem (by simp) fun n h1 h2 => ?_
  simp [h2]
theorem mixd_perm {xs os : List Int} (h : os.Perm (upI xs.length)) : (mixd xs os).Perm xs := by
  have := h.map fun o : Int => xs.getD o.toNat 0
  have e := mixd_up xs
  unfold mixd at e ⊢
  rw [e] at this
  exact this
theorem nnf_ok {i l : Int} (h : l ≤ i) (S : Sto) : F_need_number_from_n [.int l, .int i] S = .ok .non S := by
  have hc : tV (eOp oLt (eVar 1) (eVar 0)) [some (.int l), some (.int i)] S = .ok (decide (i < l)) S := tV_go (eOp_go (eVar_go rfl) (eVar_go rfl) rfl)
  rw [decide_eq_false (by omega)] at hc
  exact fnM_nx (ρ := [some (.int l), some (.int i)]) rfl ((sSeq_go (sDrop_go ((eCall_go (aCons_go (eVar_go rfl) rfl)).trans (nnum_ok i S)))).trans ((sIf_f hc).trans rfl))
theorem few_ok {xs : List Int} (hr : Row xs) (h10 : xs.length ≤ 10) (S : Sto) : F_need_few_n [tupI xs] S = .ok .non S := by
  have hc : tV (eOp oGt (eB fLen (aCons (eVar 0) aNil)) (eC (.int (10)))) [some (tupI xs)] S = .ok (decide ((10 : Int) < xs.length)) S := tV_go (eOp_go (eB_go (aCons_go (eVar_go rfl) rfl) len_tup) rfl rfl)
  rw [decide_eq_false (by omega)] at hc
  exact fnM_nx (ρ := [some (tupI xs)]) rfl ((sSeq_go (sDrop_go ((eCall_go (aCons_go (eVar_go rfl) rfl)).trans (need_row_ok hr S)))).trans ((sIf_f hc).trans rfl))
theorem pow_bd {k n m : Nat} (hk : 1 ≤ k) (h : n ≤ m) (hb : k ^ m ≤ 3000) : k ^ n ≤ 3000 := Nat.le_trans (Nat.pow_le_pow_right hk h) hb
def New (K xs : List Int) (f : FM) (ds : List D) (S : Sto) : Prop := ∃ (S' : Sto) (n : Nat) (T : TI), f ds S = .ok (.ref n) S' ∧ S'[n]? = some (.dic (encT T)) ∧ S.length ≤ n ∧ Hist T (wsL K xs) ∧ Tab T ∧ Pre S S'
theorem sign_ok {xs : List Int} (hr : Row xs) (h10 : xs.length ≤ 10) (S : Sto) : New KS xs F_sign_table_n [tupI xs] S := by
  have hb : KS.length ^ xs.length ≤ 3000 := pow_bd (k := 2) (m := 10) (by decide) h10 (by decide)
  obtain ⟨S', n, T, e, hd, hl, hT, p⟩ := tableG (K := KS) (xs := xs) (by decide) hb S
  exact ⟨S', n, T, fnM_rt (ρ := [some (tupI xs)]) rfl ((sSeq_go (sDrop_go ((eCall_go (aCons_go (eVar_go rfl) rfl)).trans (few_ok hr h10 S)))).trans (sRet_go ((eCall_go (aCons_go (eVar_go rfl) (aCons_go rfl rfl))).trans e))), hd, hl, hT, hT.tab (ws_ne (by decide) xs) (by rw [ws_len']; exact hb), p⟩
theorem part_ok {xs : List Int} (hr : Row xs) (h7 : xs.length ≤ 7) (S : Sto) : New KP xs F_part_table_n [tupI xs] S := by
  have hb : KP.length ^ xs.length ≤ 3000 := pow_bd (k := 3) (m := 7) (by decide) h7 (by decide)
  obtain ⟨S', n, T, e, hd, hl, hT, p⟩ := tableG (K := KP) (xs := xs) (by decide) hb S
  exact ⟨S', n, T, fnM_rt (ρ := [some (tupI xs)]) rfl ((sSeq_go (sDrop_go ((eCall_go (aCons_go (eVar_go rfl) rfl)).trans (few_ok hr (by omega) S)))).trans (sRet_go ((eCall_go (aCons_go (eVar_go rfl) (aCons_go rfl rfl))).trans e))), hd, hl, hT, hT.tab (ws_ne (by decide) xs) (by rw [ws_len']; exact hb), p⟩
theorem joined_ok {xs ys : List Int} (hx : Row xs) (hy : Row ys) (h : xs.length + ys.length ≤ 16) (S : Sto) : F_joined_n [tupI xs, tupI ys] S = .ok (tupI (xs ++ ys)) S := by
  have z : (100 : Nat) ≤ sizeLine := by decide
  have hc : tV (eOp oGt (eOp oAdd (eB fLen (aCons (eVar 0) aNil)) (eB fLen (aCons (eVar 1) aNil))) (eC (.int (16)))) [some (tupI xs), some (tupI ys)] S = .ok (decide ((16 : Int) < (xs.length : Int) + ys.length)) S := tV_go (eOp_go (eOp_go (eB_go (aCons_go (eVar_go rfl) rfl) len_tup) (eB_go (aCons_go (eVar_go rfl) rfl) len_tup) rfl) rfl rfl)
  rw [decide_eq_false (by omega)] at hc
  have ha : oAdd S (tupI xs) (tupI ys) = some (tupI (xs ++ ys)) := by
    rw [oAdd_t (by simp; omega), ← List.map_append]
  exact fnM_rt (ρ := [some (tupI xs), some (tupI ys)]) rfl ((sSeq_go (sDrop_go ((eCall_go (aCons_go (eVar_go rfl) rfl)).trans (need_row_ok hx S)))).trans ((sSeq_go (sDrop_go ((eCall_go (aCons_go (eVar_go rfl) rfl)).trans (need_row_ok hy S)))).trans ((sSeq_go ((sIf_f hc).trans rfl)).trans (sRet_go (eOp_go (eVar_go rfl) (eVar_go rfl) ha)))))
theorem grown_ok {xs : List Int} (hx : Row xs) {b : Int} (hb : 1 ≤ b) (hs : smallI b) (S : Sto) : F_grown_n [tupI xs, .int b] S = .ok (tupI (xs.map (· * b))) S := by
  have z : (100 : Nat) ≤ sizeLine := by decide
  have hl := hx.2
  have hc := eComp_map (enc := D.int) (out := fun x => D.int (x * b)) (e := eOp oMul (eVar 0) (eVar 1)) (it := aSeq (eVar 0) itSeq) (caps := [1]) (tl := [some (.int b)]) (r := [some (tupI xs), some (.int b)]) (S := S) xs (it_var rfl rfl) (by omega) rfl fun x h => eOp_go (eVar_go rfl) (eVar_go rfl) (oMul_i (.inr hs))
  have e : tupI (xs.map (· * b)) = .tup (xs.map fun x => D.int (x * b)) := by unfold tupI; rw [List.map_map]; rfl
  rw [e]
  exact fnM_rt (ρ := [some (tupI xs), some (.int b)]) rfl ((sSeq_go (sDrop_go ((eCall_go (aCons_go (eVar_go rfl) rfl)).trans (need_row_ok hx S)))).trans ((sSeq_go (sDrop_go ((eCall_go (aCons_go rfl (aCons_go (eVar_go rfl) rfl))).trans (nnf_ok hb S)))).trans (sRet_go (eB_go (aCons_go hc rfl) rfl))))
theorem grown_row {xs : List Int} (hx : Row xs) {b : Int} (hb : 1 ≤ b) : Row (xs.map (· * b)) := ⟨fun y hy => by
  obtain ⟨x, h, rfl⟩ := List.mem_map.mp hy
  have := hx.1 x h
  have : 1 * 1 ≤ x * b := Int.mul_le_mul this hb (by decide) (by omega)
  show 1 ≤ x * b
  omega, by rw [List.length_map]; exact hx.2⟩
theorem mixed_ok {xs os : List Int} (hx : Row xs) (h : os.Perm (upI xs.length)) (S : Sto) : F_mixed_n [tupI xs, tupI os] S = .ok (tupI (mixd xs os)) S := by
  have hl := hx.2
  have lo : os.length = xs.length := by rw [h.length_eq, upI_len]
  exact fnM_rt (ρ := [some (tupI xs), some (tupI os)]) rfl ((sSeq_go (sDrop_go ((eCall_go (aCons_go (eVar_go rfl) rfl)).trans (need_row_ok hx S)))).trans ((sSeq_go ((sIf_f (tNot_go (b := true) (tV_go ((eCall_go (aCons_go (eVar_go rfl) (aCons_go (eVar_go rfl) rfl))).trans (is_order_yes (by omega) h S))))).trans rfl)).trans (sRet_go (mix_comp (by omega) (fun o ho => upI_mem (h.mem_iff.mp ho)) rfl rfl))))
theorem perm_row {xs ys : List Int} (hx : Row xs) (p : ys.Perm xs) : Row ys := ⟨fun y hy => hx.1 y (p.mem_iff.mp hy), by rw [p.length_eq]; exact hx.2⟩
def outOf (xs : List Int) (i : Nat) : List Int := xs.take i ++ xs.drop (i + 1)
theorem without_ok {xs : List Int} (hx : Row xs) {i : Nat} (h : i < xs.length) (S : Sto) : F_without_n [tupI xs, .int i] S = .ok (tupI (outOf xs i)) S := by
  have z : (100 : Nat) ≤ sizeLine := by decide
  have hl := hx.2
  have hc : tV (eOp oGe (eVar 1) (eB fLen (aCons (eVar 0) aNil))) [some (tupI xs), some (.int i)] S = .ok (decide ((xs.length : Int) ≤ i)) S := tV_go (eOp_go (eVar_go rfl) (eB_go (aCons_go (eVar_go rfl) rfl) len_tup) rfl)
  rw [decide_eq_false (by omega)] at hc
  have h1 : fSlT S (tupI xs) none (some ((i : Nat) : Int)) = some (tupI (xs.take i)) := by
    show some (D.tup (PD.cutD (xs.map .int) _ _)) = _
    rw [cut_take _ _ (by rw [List.length_map]; omega), ← List.map_take]
  have h2 : fSlT S (tupI xs) (some ((i : Int) + 1)) none = some (tupI (xs.drop (i + 1))) := by
    show some (D.tup (PD.cutD (xs.map .int) _ _)) = _
    rw [show (i : Int) + 1 = ((i + 1 : Nat) : Int) by omega, cut_drop _ _ (by rw [List.length_map]; omega), ← List.map_drop]
  have ha : oAdd S (tupI (xs.take i)) (tupI (xs.drop (i + 1))) = some (tupI (outOf xs i)) := by
    unfold outOf
    rw [oAdd_t (by simp; omega), ← List.map_append]
  exact fnM_rt (ρ := [some (tupI xs), some (.int i)]) rfl ((sSeq_go (sDrop_go ((eCall_go (aCons_go (eVar_go rfl) rfl)).trans (need_row_ok hx S)))).trans ((sSeq_go (sDrop_go ((eCall_go (aCons_go rfl (aCons_go (eVar_go rfl) rfl))).trans (nnf_ok (by omega) S)))).trans ((sSeq_go ((sIf_f hc).trans rfl)).trans (sRet_go (eOp_go (eSl_go (eVar_go rfl) rfl (oPart_go (eVar_go rfl)) h1) (eSl_go (eVar_go rfl) (oPart_go (eOp_go (eVar_go rfl) rfl rfl)) rfl h2) ha)))))
theorem out_perm {xs : List Int} {i : Nat} (h : i < xs.length) : xs.Perm (outOf xs i ++ [xs[i]]) := by
  have e : xs = xs.take i ++ xs[i] :: xs.drop (i + 1) := by
    rw [List.getElem_cons_drop, List.take_append_drop]
  have p : (xs.take i ++ xs[i] :: xs.drop (i + 1)).Perm (outOf xs i ++ [xs[i]]) := by
    unfold outOf
    rw [List.append_assoc]
    exact List.Perm.append_left _ (List.perm_append_singleton _ _).symm
  rw [← e] at p
  exact p
theorem out_row {xs : List Int} (hx : Row xs) (i : Nat) : Row (outOf xs i) := ⟨fun y hy => by
  rcases List.mem_append.mp hy with hy | hy
  · exact hx.1 y (List.mem_of_mem_take hy)
  · exact hx.1 y (List.mem_of_mem_drop hy), by have := hx.2; unfold outOf; simp; omega⟩
theorem cnt_out (K : List Int) {T R : TI} {row rest : List Int} {n : Int} (hT : Hist T (wsL K row)) (hR : Hist R (wsL K rest)) (p : row.Perm (rest ++ [n])) (v : Int) : gT T v = Sm K fun q => gT R (v - q * n) := by
  rw [hT.gTs, ws_perm K p, Sm_app K rest 1 [n] _ rfl]
  have e : ∀ z : Int, (Sm (wsL K [n]) fun w => if z + w = v then (1 : Int) else 0) = Sm K fun q => if z + q * n = v then 1 else 0 := fun z => Sm_one K n _
  rw [Sm_congr e, Sm_swap]
  refine Sm_congr fun q => ?_
  rw [hR.gTs]
  refine Sm_congr fun z => ?_
  by_cases c : z + q * n = v
  · rw [if_pos c, if_pos (by omega)]
  · rw [if_neg c, if_neg (by omega)]
theorem low : ∀ T : TI, ∃ B : Int, ∀ e ∈ T, B ≤ e.1
  | [] => ⟨0, fun e he => by cases he⟩
  | d :: T => by
    obtain ⟨B, h⟩ := low T
    refine ⟨min B d.1, fun e he => ?_⟩
    rcases List.mem_cons.mp he with rfl | he
    · omega
    · have := h e he; omega
theorem tab_hist {O R : TI} {f : List Int} (hR : Hist R f) (h : IsTab O (gT R)) : Hist O f := by
  have hm : ∀ v, (∃ e ∈ O, e.1 = v) ↔ v ∈ f := fun v => by rw [h.mem v, hR.gTs, mem_sm]
  have hm' : ∀ v, (∃ e ∈ O, e.1 = v) ↔ ∃ e ∈ R, e.1 = v := fun v => (hm v).trans (hR.mem v).symm
  refine ⟨h.keys, hm, fun k => ?_, ?_⟩
  · rw [sumH_same k h.keys hR.keys hm' h.get, hR.sum]
  · have a := sub_len (keys_nd h.keys) (B := R.map (·.1)) fun x hx => List.mem_map.mpr ((hm' x).mp (List.mem_map.mp hx))
    simp only [List.length_map] at a
    exact Nat.le_trans a hR.len
theorem divd {S : Sto} {m : Nat} {T R : TI} {f : List Int} (h : dAt S m T) (tT : Tab T) (hs : T.length ≤ 900) (hR : Hist R f) {n : Int} {offs : List Int} (hd : offs.Nodup) (hp : ∀ o ∈ offs, 1 ≤ o) (ho : offs.length ≤ 10) (hq : IsQ offs (gT T) fun k => gT R (k + n)) :
    ∃ (O : TI) (S' : Sto) (a : Nat), F_divided [.ref m, .int n, .tup (offs.map .int)] S = .ok (.ref a) S' ∧ Old S S' ∧ S.length ≤ a ∧ S'[a]? = some (.dic (encT O)) ∧ Hist O f := by
  rcases div_ok h tT hs n hd hp ho with ⟨q, O, S', a, e, o, l, hO, hq1, it, _⟩ | ⟨S', _, _, no⟩
  · obtain ⟨B, hB⟩ := low T
    have u := IsQ.uniq hp (B := B) (fun k hk => gT_no fun ⟨e, he, z⟩ => by have := hB e he; omega) hq1 hq
    rw [u] at it
    refine ⟨O, S', a, e, o, l, hO, tab_hist hR ⟨it.keys, fun v => ?_, fun v => ?_⟩⟩
    · have : (∃ e ∈ O, e.1 = v) ↔ 0 < gT R (v - n + n) := it.mem v
      rw [show v - n + n = v by omega] at this
      exact this
    · have : gT O v = gT R (v - n + n) := it.get v
      rw [show v - n + n = v by omega] at this
      exact this
  · exact absurd hq (no _)
theorem Old.fz {S S' : Sto} (o : Old S S') : Fz S S' := ⟨o.1, fun i h => .inl (o.2 i h)⟩
theorem gT_nn {R : TI} {f : List Int} (h : Hist R f) (v : Int) : 0 ≤ gT R v := by rw [h.get]; omega
theorem tan_ok {S : Sto} {m : Nat} {T : TI} (h : dAt S m T) (tT : Tab T) {n : Int} (hn : 1 ≤ n) : F_need_table_and_number_n [.ref m, .int n] S = .ok .non (S.set m (.fdic (encT T))) :=
  fnM_nx (ρ := [some (.ref m), some (.int n)]) rfl ((sSeq_go (sDrop_go ((eCall_go (aCons_go (eVar_go rfl) rfl)).trans (need_ok h tT)))).trans (sDrop_go ((eCall_go (aCons_go rfl (aCons_go (eVar_go rfl) rfl))).trans (nnf_ok hn _))))
def NewZ (f : List Int) (F : FM) (ds : List D) (S : Sto) : Prop := ∃ (S' : Sto) (a : Nat) (O : TI), F ds S = .ok (.ref a) S' ∧ S'[a]? = some (.dic (encT O)) ∧ S.length ≤ a ∧ Hist O f ∧ Fz S S'
theorem takS {S : Sto} {m : Nat} {T R : TI} {row rest : List Int} {n : Int} (h : dAt S m T) (tT : Tab T) (hs : T.length ≤ 900) (hn : 1 ≤ n) (hT : Hist T (wsL KS row)) (hR : Hist R (wsL KS rest)) (p : row.Perm (rest ++ [n])) : NewZ (wsL KS rest) F_taken_out_n [.ref m, .int n] S := by
  have z1 : (1 : Nat) ≤ sizeLine := by decide
  have s2 : smallI 2 := by decide
  have n1 := tan_ok h tT hn
  have f1 := Fz.set h
  have h1 : dAt (S.set m (.fdic (encT T))) m T := .inr h.frz
  have l1 : (S.set m (.fdic (encT T))).length = S.length := List.length_set
  generalize S.set m (.fdic (encT T)) = S1 at n1 f1 h1 l1
  obtain ⟨O, S', a, e, o, l, hO, hH⟩ := divd (n := n) (offs := [2 * n]) h1 tT hs hR (by simp) (fun x hx => by rw [List.mem_singleton.mp hx]; omega) (by simp) ⟨fun k => gT_nn hR _, fun k => by
    rw [cnt_out KS hT hR p]
    show gT R (k - -1 * n) + (gT R (k - 1 * n) + 0) = gT R (k + n) + (gT R (k - 2 * n + n) + 0)
    rw [show k - -1 * n = k + n by omega, show k - 1 * n = k - 2 * n + n by omega]⟩
  exact ⟨S', a, O, fnM_rt (ρ := [some (.ref m), some (.int n)]) rfl ((sSeq_go (sDrop_go ((eCall_go (aCons_go (eVar_go rfl) (aCons_go (eVar_go rfl) rfl))).trans n1))).trans (sRet_go ((eCall_go (aCons_go (eVar_go rfl) (aCons_go (eVar_go rfl) (aCons_go (eTup_go (xs := [.int (2 * n)]) (aCons_go (eOp_go rfl (eVar_go rfl) (oMul_i (.inl s2))) rfl) z1) rfl)))).trans e))), hO, by omega, hH, f1.trans o.fz⟩
theorem takP {S : Sto} {m : Nat} {T R : TI} {row rest : List Int} {n : Int} (h : dAt S m T) (tT : Tab T) (hs : T.length ≤ 900) (hn : 1 ≤ n) (hT : Hist T (wsL KP row)) (hR : Hist R (wsL KP rest)) (p : row.Perm (rest ++ [n])) : NewZ (wsL KP rest) F_part_taken_out_n [.ref m, .int n] S := by
  have z2 : (2 : Nat) ≤ sizeLine := by decide
  have s2 : smallI 2 := by decide
  have n1 := tan_ok h tT hn
  have f1 := Fz.set h
  have h1 : dAt (S.set m (.fdic (encT T))) m T := .inr h.frz
  have l1 : (S.set m (.fdic (encT T))).length = S.length := List.length_set
  generalize S.set m (.fdic (encT T)) = S1 at n1 f1 h1 l1
  obtain ⟨O, S', a, e, o, l, hO, hH⟩ := divd (n := n) (offs := [n, 2 * n]) h1 tT hs hR (by simp; omega) (fun x hx => by
    rcases List.mem_cons.mp hx with rfl | hx
    · exact hn
    · rw [List.mem_singleton.mp hx]; omega) (by simp) ⟨fun k => gT_nn hR _, fun k => by
    rw [cnt_out KP hT hR p]
    show gT R (k - -1 * n) + (gT R (k - 0 * n) + (gT R (k - 1 * n) + 0)) = gT R (k + n) + (gT R (k - n + n) + (gT R (k - 2 * n + n) + 0))
    rw [show k - -1 * n = k + n by omega, show k - 1 * n = k - 2 * n + n by omega, show k - 0 * n = k - n + n by omega]⟩
  exact ⟨S', a, O, fnM_rt (ρ := [some (.ref m), some (.int n)]) rfl ((sSeq_go (sDrop_go ((eCall_go (aCons_go (eVar_go rfl) (aCons_go (eVar_go rfl) rfl))).trans n1))).trans (sRet_go ((eCall_go (aCons_go (eVar_go rfl) (aCons_go (eVar_go rfl) (aCons_go (eTup_go (xs := [.int n, .int (2 * n)]) (aCons_go (eVar_go rfl) (aCons_go (eOp_go rfl (eVar_go rfl) (oMul_i (.inl s2))) rfl)) z2) rfl)))).trans e))), hO, by omega, hH, f1.trans o.fz⟩
theorem sPar_go {i j : Nat} {t : AM} {r : Rho} {S S1 : Sto} {x y : D} (h : t r S = .ok [x, y] S1) : sPar i j t r S = .ok (.nx ((r.set i (some x)).set j (some y))) S1 := by unfold sPar; rw [h, R.bind_ok]
theorem thaw_fz {S S' : Sto} {p : Nat} {T : TI} (h : S[p]? = some (.dic (encT T))) (f : Fz S S') : (PD.thawS p S')[p]? = some (.dic (encT T)) ∧ (∀ i, i ≠ p → (PD.thawS p S')[i]? = S'[i]?) ∧ (PD.thawS p S').length = S'.length := by
  have hl : p < S'.length := Nat.lt_of_lt_of_le (List.getElem?_eq_some_iff.mp h).1 f.len
  rcases f.old p (List.getElem?_eq_some_iff.mp h).1 with x | ⟨T', x1, x2⟩
  · rw [h] at x
    unfold PD.thawS
    simp only [x]
    exact ⟨trivial, fun _ _ => trivial, trivial⟩
  · rw [h] at x1
    have e : encT T = encT T' := SO.dic.inj (Option.some.inj x1)
    unfold PD.thawS
    simp only [x2]
    exact ⟨by rw [List.getElem?_set_self hl, e], fun i hi => List.getElem?_set_ne (Ne.symm hi), List.length_set⟩
theorem thaw_run {i p : Nat} {ρ : Rho} {S S1 : Sto} {m : EM} {kvs : List (KD × D)} {d : D} (hi : ρ[i]? = some (some (.ref p))) (hp : S[p]? = some (.dic kvs)) (hm : m ρ S = .ok d S1) : eThaw i m ρ S = .ok d (PD.thawS p S1) := by
  unfold eThaw
  rw [hi]
  simp only [hp]
  rw [hm, R.bind_ok]
abbrev one2 (n : Int) : TI := [(n, 1), (0 - n, 1)]
abbrev one3 (n : Int) : TI := [(n, 1), (0 - n, 1), (0, 1)]
theorem one2_eq {n : Int} (hn : 1 ≤ n) : pT [(n, 1)] (0 - n) 1 = one2 n := pT_new fun ⟨e, he, z⟩ => by rw [List.mem_singleton.mp he] at z; have : n = 0 - n := z; omega
theorem one3_eq {n : Int} (hn : 1 ≤ n) : pT (one2 n) 0 1 = one3 n := pT_new fun ⟨e, he, z⟩ => by
  simp only [List.mem_cons, List.not_mem_nil, or_false] at he
  rcases he with rfl | rfl
  · have : n = 0 := z; omega
  · have : 0 - n = 0 := z; omega
theorem one2_hist {n : Int} (hn : 1 ≤ n) : Hist (one2 n) [n, 0 - n] := ⟨by unfold Keys; simp; omega, fun v => by simp [eq_comm], fun h => by simp [sumH], Nat.le_refl _⟩
theorem one3_hist {n : Int} (hn : 1 ≤ n) : Hist (one3 n) [n, 0 - n, 0] := ⟨by unfold Keys; simp; omega, fun v => by simp [eq_comm], fun h => by simp [sumH], Nat.le_refl _⟩
theorem back_S {row rest : List Int} {n : Int} (p : row.Perm (rest ++ [n])) (k : Int → Int) : Sm (wsL KS row) k = Sm (wsL KS rest) fun x => Sm [n, 0 - n] fun y => k (x + y) := by
  rw [ws_perm KS p, Sm_app KS rest 1 [n] _ rfl]
  refine Sm_congr fun z => ?_
  rw [Sm_one]
  show k (z + -1 * n) + (k (z + 1 * n) + 0) = k (z + n) + (k (z + (0 - n)) + 0)
  rw [show -1 * n = 0 - n by omega, show 1 * n = n by omega]
  omega
theorem back_P {row rest : List Int} {n : Int} (p : row.Perm (rest ++ [n])) (k : Int → Int) : Sm (wsL KP row) k = Sm (wsL KP rest) fun x => Sm [n, 0 - n, 0] fun y => k (x + y) := by
  rw [ws_perm KP p, Sm_app KP rest 1 [n] _ rfl]
  refine Sm_congr fun z => ?_
  rw [Sm_one]
  show k (z + -1 * n) + (k (z + 0 * n) + (k (z + 1 * n) + 0)) = k (z + n) + (k (z + (0 - n)) + (k (z + 0) + 0))
  rw [show -1 * n = 0 - n by omega, show 1 * n = n by omega, show 0 * n = 0 by omega]
  omega
theorem dicn_go {ρ : Rho} {S : Sto} {i : Nat} {n : Int} (h : ρ[i]? = some (some (.int n))) : eDicN [((eVar i), (eC (.int 1)))] ρ S = .ok (.ref S.length) (S ++ [.dic (encT [(n, 1)])]) := by
  unfold eDicN pM
  rw [eVar_go h]
  rfl
theorem alike_refl (f : List Int) : Alike f f := fun _ => rfl
theorem place_ok {row : List Int} (hr : Row row) (h5 : row.length ≤ 5) {i : Nat} (hi : i < row.length) (S : Sto) : ∃ S' : Sto, F__law_place_right_n [tupI row, .int i] S = .ok (.bl true) S' ∧ Fz S S' := by
  have hn : 1 ≤ row[i] := hr.1 _ (List.getElem_mem hi)
  have pm := out_perm hi
  have hix : oIx S (tupI row) (.int (i : Int)) = some (.int row[i]) := by
    have := atI_nat' (xs := row.map D.int) (i := i) (by rw [List.length_map]; exact hi)
    rw [List.getElem_map] at this
    exact this
  have hw := without_ok hr hi S
  have hrr := out_row hr i
  have rl : (outOf row i).length ≤ 4 := by
    have := pm.length_eq
    rw [List.length_append, List.length_singleton] at this
    omega
  generalize hrest : outOf row i = rest at *
  generalize hnn : row[i] = n at *
  -- tables of the row, the number taken out
  obtain ⟨S1, n1, T1, e1, d1, l1, H1, t1, p1⟩ := sign_ok hr (by omega) S
  obtain ⟨Rx, R1, hR1⟩ : ∃ (Rx : Unit) (R1 : TI), Hist R1 (wsL KS rest) := by
    obtain ⟨_, _, R, _, _, _, H, _, _⟩ := sign_ok hrr (by omega) S
    exact ⟨(), R, H⟩
  obtain ⟨R3, hR3⟩ : ∃ R3 : TI, Hist R3 (wsL KP rest) := by
    obtain ⟨_, _, R, _, _, _, H, _, _⟩ := part_ok hrr (by omega) S
    exact ⟨R, H⟩
  have b1 : (wsL KS row).length ≤ 900 := by rw [ws_len']; exact Nat.le_trans (Nat.pow_le_pow_right (by decide) h5) (by decide)
  have b3 : (wsL KP row).length ≤ 900 := by rw [ws_len']; exact Nat.le_trans (Nat.pow_le_pow_right (by decide) h5) (by decide)
  obtain ⟨S2, a2, O2, e2, d2, l2, H2, f2⟩ := takS (.inl d1) t1 (Nat.le_trans H1.len b1) hn H1 hR1 pm
  obtain ⟨S3, n3, T3, e3, d3, l3, H3, t3, p3⟩ := part_ok hr (by omega) S2
  obtain ⟨S4, a4, O4, e4, d4, l4, H4, f4⟩ := takP (.inl d3) t3 (Nat.le_trans H3.len b3) hn H3 hR3 pm
  have D2_4 : dAt S4 a2 O2 := f4.dat (p3.fz.dat (.inl d2))
  -- the same as of the rest
  obtain ⟨S5, n5, T5, e5, d5, l5, H5, t5, p5⟩ := sign_ok hrr (by omega) S4
  have D2_5 := p5.fz.dat D2_4
  have D4_5 := p5.fz.dat (.inl d4 : dAt S4 a4 O4)
  have c5 := ne_ok D2_5 (.inl d5) (same_H H2 H5 (alike_refl _))
  obtain ⟨S6, n6, T6, e6, d6, l6, H6, t6, p6⟩ := part_ok hrr (by omega) S5
  have D2_6 := p6.fz.dat D2_5
  have D4_6 := p6.fz.dat D4_5
  have c6 := ne_ok D4_6 (.inl d6) (same_H H4 H6 (alike_refl _))
  have F6 : Fz S S6 := ((((p1.fz.trans f2).trans p3.fz).trans f4).trans p5.fz).trans p6.fz
  -- put in again
  have q7 : (S6 ++ [SO.dic (encT [(n, 1)])])[S6.length]? = some (.dic (encT [(n, 1)])) := by simp
  have put8 := put_go q7 (by simp) (0 - n) 1
  rw [one2_eq hn] at put8
  have g8 : (S6 ++ [SO.dic (encT [(n, 1)])]).set S6.length (.dic (encT (one2 n))) = S6 ++ [.dic (encT (one2 n))] := by simp
  rw [g8] at put8
  have q8 : (S6 ++ [SO.dic (encT (one2 n))])[S6.length]? = some (.dic (encT (one2 n))) := by simp
  have D2_8 := (Fz.app S6 [SO.dic (encT (one2 n))]).dat D2_6
  have D4_8 := (Fz.app S6 [SO.dic (encT (one2 n))]).dat D4_6
  have F8 := F6.trans (Fz.app S6 [SO.dic (encT (one2 n))])
  have l8 : (S6 ++ [SO.dic (encT (one2 n))]).length = S6.length + 1 := by simp
  have a2l : a2 < S6.length := D2_6.lt
  have a4l : a4 < S6.length := D4_6.lt
  have Sl6 : S.length ≤ S6.length := F6.len
  generalize S6 ++ [SO.dic (encT (one2 n))] = S8 at *
  have w2 : (wsL KS rest).length ≤ 900 := by rw [ws_len']; exact Nat.le_trans (Nat.pow_le_pow_right (by decide) rl) (by decide)
  have w4 : (wsL KP rest).length ≤ 900 := by rw [ws_len']; exact Nat.le_trans (Nat.pow_le_pow_right (by decide) rl) (by decide)
  have tO2 := H2.tab (ws_ne (by decide) rest) (by omega)
  have tO4 := H4.tab (ws_ne (by decide) rest) (by omega)
  have h2l := H2.len
  have h4l := H4.len
  have to2 := (one2_hist hn).tab (by simp) (by simp)
  have to3 := (one3_hist hn).tab (by simp) (by simp)
  have x2 : O2.length * (one2 n).length < 3000 := by show O2.length * 2 < 3000; omega
  have x3 : O4.length * (one3 n).length < 3000 := by show O4.length * 3 < 3000; omega
  obtain ⟨P, S9, a9, e9, d9, l9, H9, y9, f9⟩ := mult_ok D2_8 (.inl q8) tO2 to2 x2
  obtain ⟨u1, u2, u3⟩ := thaw_fz q8 f9
  have hP : Hist P (wsL KS row) := mult_hist H9 H2 (one2_hist hn) (back_S pm) (by
    have e : (wsL KS row).length = (wsL KS rest).length * 2 := by
      rw [ws_len', ws_len', pm.length_eq, List.length_append, List.length_singleton, Nat.pow_succ]; rfl
    rw [e]
    exact Nat.le_trans y9 (Nat.mul_le_mul_right _ h2l))
  have v9 : (PD.thawS S6.length S9)[a9]? = some (.dic (encT P)) := by rw [u2 a9 (by omega)]; exact d9
  have D4_9 : dAt (PD.thawS S6.length S9) a4 O4 := by
    have := f9.dat D4_8
    unfold dAt at this ⊢
    rw [u2 a4 (by omega)]
    exact this
  have o9 : ∀ j, j < S.length → (PD.thawS S6.length S9)[j]? = S9[j]? := fun j hj => u2 j (by omega)
  have F9 : Fz S S9 := F8.trans f9
  generalize hSA : PD.thawS S6.length S9 = SA at *
  have hT : (R.ok (D.ref a9) (PD.thawS S6.length S9) : R D) = .ok (.ref a9) SA := by rw [hSA]
  obtain ⟨SB, nB, TB, eB', dB, lB, HB, tB, pB⟩ := sign_ok hr (by omega) SA
  have cB := ne_ok (pB.fz.dat (.inl v9 : dAt SA a9 P)) (.inl dB) (same_H hP HB (alike_refl _))
  have qB : SB[S6.length]? = some (.dic (encT (one2 n))) := by rw [pB.old _ (by rw [u3]; have := f9.len; omega)]; exact u1
  have D4_B := pB.fz.dat D4_9
  have putC := put_go qB (by simp) 0 1
  rw [one3_eq hn] at putC
  have qBl : S6.length < SB.length := (List.getElem?_eq_some_iff.mp qB).1
  have qC : (SB.set S6.length (.dic (encT (one3 n))))[S6.length]? = some (.dic (encT (one3 n))) := List.getElem?_set_self qBl
  have D4_C : dAt (SB.set S6.length (.dic (encT (one3 n)))) a4 O4 := D4_B.set (by omega)
  have oC : ∀ j, j < S.length → (SB.set S6.length (.dic (encT (one3 n))))[j]? = SB[j]? := fun j hj => List.getElem?_set_ne (by omega)
  have lC : (SB.set S6.length (.dic (encT (one3 n)))).length = SB.length := List.length_set
  generalize SB.set S6.length (.dic (encT (one3 n))) = SC at *
  obtain ⟨P', SD, aD, eD, dD, lD, HD, yD, fD⟩ := mult_ok D4_C (.inl qC) tO4 to3 x3
  have hP' : Hist P' (wsL KP row) := mult_hist HD H4 (one3_hist hn) (back_P pm) (by
    have e : (wsL KP row).length = (wsL KP rest).length * 3 := by
      rw [ws_len', ws_len', pm.length_eq, List.length_append, List.length_singleton, Nat.pow_succ]; rfl
    rw [e]
    exact Nat.le_trans yD (Nat.mul_le_mul_right _ h4l))
  obtain ⟨SE', nE, TE', eE, dE, lE, HE, tE, pE⟩ := part_ok hr (by omega) SD
  have cE := eq_ok (pE.fz.dat (.inl dD : dAt SD aD P')) (.inl dE) (same_H hP' HE (alike_refl _))
  have FC : Fz S SC := by
    have fA : Fz S SA := ⟨by rw [u3]; exact F9.len, fun j hj => by rw [o9 j hj]; exact F9.old j hj⟩
    have fB := fA.trans pB.fz
    exact ⟨by rw [lC]; exact fB.len, fun j hj => by rw [oC j hj]; exact fB.old j hj⟩
  refine ⟨SE', ?_, (FC.trans fD).trans pE.fz⟩
  refine fnM_rt (ρ := [some (tupI row), some (.int i), none, none, none, none, none]) rfl ?_
  refine (sSeq_go (sPar_go (aCons_go (eOp_go (eVar_go rfl) (eVar_go rfl) hix) (aCons_go ((eCall_go (aCons_go (eVar_go rfl) (aCons_go (eVar_go rfl) rfl))).trans hw) rfl)))).trans ?_
  refine (sSeq_go (sPar_go (aCons_go ((eCall_go (aCons_go ((eCall_go (aCons_go (eVar_go rfl) rfl)).trans e1) (aCons_go (eVar_go rfl) rfl))).trans e2) (aCons_go ((eCall_go (aCons_go ((eCall_go (aCons_go (eVar_go rfl) rfl)).trans e3) (aCons_go (eVar_go rfl) rfl))).trans e4) rfl)))).trans ?_
  refine (sSeq_go ((sIf_f ((tOr_f (tV_go (eOp_go (eVar_go rfl) ((eCall_go (aCons_go (eVar_go rfl) rfl)).trans e5) c5))).trans (tV_go (eOp_go (eVar_go rfl) ((eCall_go (aCons_go (eVar_go rfl) rfl)).trans e6) c6)))).trans rfl)).trans ?_
  refine (sSeq_go (sSet_go (dicn_go (n := n) rfl))).trans ?_
  refine (sSeq_go (sPut_go (v := .int 1) rfl (eVar_go rfl) (eOp_go rfl (eVar_go rfl) rfl) put8)).trans ?_
  refine (sSeq_go ((sIf_f (tV_go (eOp_go ((thaw_run rfl q8 ((eCall_go (aCons_go (eVar_go rfl) (aCons_go (eVar_go rfl) rfl))).trans e9)).trans hT) ((eCall_go (aCons_go (eVar_go rfl) rfl)).trans eB') cB))).trans rfl)).trans ?_
  refine (sSeq_go (sPut_go (v := .int 1) rfl (eVar_go rfl) rfl putC)).trans ?_
  exact sRet_go (eOp_go ((eCall_go (aCons_go (eVar_go rfl) (aCons_go (eVar_go rfl) rfl))).trans eD) ((eCall_go (aCons_go (eVar_go rfl) rfl)).trans eE) cE)
theorem laps_le (ns : List Int) (c : Nat) (hn : ns.length ≤ 63) (hc : 1 ≤ c ∧ c ≤ 63) (r : Rho) (hr : r[0]? = some (some (.fz (ns.map .int)))) (S : Sto) : ∃ n : Nat, aRange1 (aCons (eB fMax (aCons (eC (.int 1)) (aCons (eB fMin (aCons (eB fLen (aCons (eVar 0) aNil)) (aCons (eC (.int c)) aNil))) aNil))) aNil) r S = .ok ((List.range n).map (fun (i : Nat) => D.int i)) S ∧ n ≤ c := by
  refine ⟨max 1 (min ns.length c), aRange1_ok ?_ (by omega), by omega⟩
  have e : (if (1 : Int) < (if (c : Int) < (ns.length : Int) then (c : Int) else (ns.length : Int)) then (if (c : Int) < (ns.length : Int) then (c : Int) else (ns.length : Int)) else 1) = ((max 1 (min ns.length c) : Nat) : Int) := by
    split <;> split <;> omega
  rw [← e]
  simp [aCons, aNil, eB, eC, eVar, R.bind, R.of, hr, fLen, seqOf, fMin, fMax]
theorem ne_tnil {S : Sto} (xs : List Int) : oNeP S (tupI xs) (.tup []) = some (.bl (!decide (xs = []))) := by
  have := eqP_tints xs []
  show (eqP (tupI xs) (.tup ([].map D.int))).map _ = _
  rw [this]; rfl
theorem uneven_ok {xs : List Int} (hr : Row xs) (h : xs.length ≤ 12) (S : Sto) : ∃ (S' : Sto) (u : Int), F_unevenness_n [tupI xs] S = .ok (.int u) S' ∧ Pre S S' ∧ IsAb xs 0 (some u) := by
  obtain ⟨S', o, e, p, a⟩ := above_ok h hr 0 S
  obtain ⟨u, rfl⟩ := ab_some hr.1 a
  exact ⟨S', u, fnM_rt (ρ := [some (tupI xs)]) rfl (sRet_go ((eCall_go (aCons_go (eVar_go rfl) (aCons_go rfl rfl))).trans e)), p, a⟩
theorem ws_mul (K xs ys : List Int) : (wsL K (xs ++ ys)).length = (wsL K xs).length * (wsL K ys).length := by rw [ws_len', ws_len', ws_len', List.length_append, Nat.pow_add]
theorem both_ok {K : List Int} {F : FM} {xs ys : List Int} (hx : ∀ S, New K xs F [tupI xs] S) (hy : ∀ S, New K ys F [tupI ys] S) (hb : ∀ S, New K (xs ++ ys) F [tupI (xs ++ ys)] S) (hz : (wsL K (xs ++ ys)).length < 3000) (S : Sto) (r0 r1 r2 r6 r7 : Option D) :
    ∃ S' : Sto, tV (eOp oNeD (eCall F (aCons (eVar 5) aNil)) (eCall F_multiplied_n (aCons (eCall F (aCons (eVar 3) aNil)) (aCons (eCall F (aCons (eVar 4) aNil)) aNil)))) [r0, r1, r2, some (tupI xs), some (tupI ys), some (tupI (xs ++ ys)), r6, r7] S = .ok false S' ∧ Fz S S' := by
  obtain ⟨S1, n1, T1, e1, d1, l1, H1, t1, p1⟩ := hb S
  obtain ⟨S2, n2, T2, e2, d2, l2, H2, t2, p2⟩ := hx S1
  obtain ⟨S3, n3, T3, e3, d3, l3, H3, t3, p3⟩ := hy S2
  have hl : T2.length * T3.length ≤ (wsL K (xs ++ ys)).length := by rw [ws_mul]; exact Nat.mul_le_mul H2.len H3.len
  obtain ⟨P, S4, a4, e4, d4, l4, H4, y4, f4⟩ := mult_ok (p3.fz.dat (.inl d2 : dAt S2 n2 T2)) (.inl d3) t2 t3 (by omega)
  have hP : Hist P (wsL K (xs ++ ys)) := mult_hist H4 H2 H3 (fun k => Sm_app K xs ys.length ys k rfl) (Nat.le_trans y4 hl)
  have D1 : dAt S4 n1 T1 := f4.dat (p3.fz.dat (p2.fz.dat (.inl d1 : dAt S1 n1 T1)))
  exact ⟨S4, tV_go (eOp_go ((eCall_go (aCons_go (eVar_go rfl) rfl)).trans e1) ((eCall_go (aCons_go ((eCall_go (aCons_go (eVar_go rfl) rfl)).trans e2) (aCons_go ((eCall_go (aCons_go (eVar_go rfl) rfl)).trans e3) rfl))).trans e4) (ne_ok D1 (.inl d4) (same_H H1 hP (alike_refl _)))), ((p1.fz.trans p2.fz).trans p3.fz).trans f4⟩
theorem app_row {xs ys : List Int} (hx : ∀ x ∈ xs, 1 ≤ x) (hy : ∀ x ∈ ys, 1 ≤ x) (h : xs.length + ys.length ≤ 16) : Row (xs ++ ys) := ⟨fun x h => by
  rcases List.mem_append.mp h with h | h
  · exact hx x h
  · exact hy x h, by rw [List.length_append]; exact h⟩
noncomputable abbrev lawB : SM := (sSeq (sSet 2 (eCall F__law_box (aCons (eVar 0) (aCons (eVar 1) aNil)))) (sSeq (sPar 3 4 (aCons (eCall F__law_row (aCons (eVar 2) (aCons (eC (.int 5)) aNil))) (aCons (eCall F__law_row (aCons (eVar 2) (aCons (eC (.int 5)) aNil))) aNil))) (sSeq (sSet 5 (eCall F_joined_n (aCons (eVar 3) (aCons (eVar 4) aNil)))) (sSeq (sIf (tV (eOp oNeD (eCall F_sign_table_n (aCons (eVar 5) aNil)) (eCall F_multiplied_n (aCons (eCall F_sign_table_n (aCons (eVar 3) aNil)) (aCons (eCall F_sign_table_n (aCons (eVar 4) aNil)) aNil))))) (sRet (eC (.bl false))) sSkip) (sSeq (sIf (PD.tAnd (tV (eOp oLt (eB fLen (aCons (eVar 5) aNil)) (eC (.int 8)))) (tV (eOp oNeD (eCall F_part_table_n (aCons (eVar 5) aNil)) (eCall F_multiplied_n (aCons (eCall F_part_table_n (aCons (eVar 3) aNil)) (aCons (eCall F_part_table_n (aCons (eVar 4) aNil)) aNil)))))) (sRet (eC (.bl false))) sSkip) (sSeq (sIf (tV (eOp oNeD (eCall F_sign_table_n (aCons (eCall F_mixed_n (aCons (eVar 5) (aCons (eCall F__law_order (aCons (eVar 2) (aCons (eB fLen (aCons (eVar 5) aNil)) aNil))) aNil))) aNil)) (eCall F_sign_table_n (aCons (eVar 5) aNil)))) (sRet (eC (.bl false))) sSkip) (sSeq (sSet 6 (eOp oAdd (eC (.int 1)) (eCall F__law_take (aCons (eVar 2) (aCons (eC (.int 9)) aNil))))) (sSeq (sSet 7 (eCall F_sign_table_n (aCons (eVar 3) aNil))) (sSeq (sIf (tV (eOp oNeD (eCall F_sign_table_n (aCons (eCall F_grown_n (aCons (eVar 3) (aCons (eVar 6) aNil))) aNil)) (eBR fDcp (aCons (eThaw 7 (eComp (aKeys (eVar 7)) 1 [6, 7] (.nm 0) tTrue (eTup (aCons (eOp oMul (eVar 0) (eVar 1)) (aCons (eOp oIxD (eVar 2) (eVar 0)) aNil))))) aNil)))) (sRet (eC (.bl false))) sSkip) (sSeq (sIf (PD.tOr (tV (eOp oNeP (eCall F_unevenness_n (aCons (eCall F_grown_n (aCons (eVar 5) (aCons (eVar 6) aNil))) aNil)) (eOp oMul (eVar 6) (eCall F_unevenness_n (aCons (eVar 5) aNil))))) (tV (eOp oNeD (eCall F_shifted_n (aCons (eCall F_shifted_n (aCons (eVar 7) (aCons (eVar 6) aNil))) (aCons (eOp oSub (eC (.int 0)) (eVar 6)) aNil))) (eVar 7)))) (sRet (eC (.bl false))) sSkip) (sIf (PD.tAnd (tV (eOp oNeP (eVar 3) (eTup aNil))) (PD.tNot (tV (eCall F__law_place_right_n (aCons (eVar 3) (aCons (eCall F__law_take (aCons (eVar 2) (aCons (eB fLen (aCons (eVar 3) aNil)) aNil))) aNil)))))) (sRet (eC (.bl false))) sSkip)))))))))))
theorem law_turn (ns : List Int) (k : Nat) (S : Sto) (r2 r3 r4 r5 r6 r7 : Option D) : ∃ (S' : Sto) (a2 a3 a4 a5 a6 a7 : Option D), lawB [some (.fz (ns.map .int)), some (.int k), r2, r3, r4, r5, r6, r7] S = .ok (.nx [some (.fz (ns.map .int)), some (.int k), a2, a3, a4, a5, a6, a7]) S' := by
  have z2 : (2 : Nat) ≤ sizeLine := by decide
  have z3000 : (3000 : Nat) ≤ sizeLine := by decide
  obtain ⟨v, e0⟩ := box_ok ns k S
  have g0 : Gr S.length (S ++ [SO.lst [.int v]]) (S ++ [SO.lst [.int v]]) := ⟨⟨v, by simp⟩, fun _ _ _ => rfl, Nat.le_refl _⟩
  generalize S ++ [SO.lst [.int v]] = S0 at *
  generalize S.length = b at *
  obtain ⟨xs, S1, e1, l1, o1, g1⟩ := row_ok g0 (most := 5) (by decide)
  obtain ⟨ys, S2, e2, l2, o2, g2⟩ := row_ok g1.self (most := 5) (by decide)
  have x5 : xs.length ≤ 5 := by omega
  have y5 : ys.length ≤ 5 := by omega
  have rx : Row xs := ⟨fun x hx => (o1 x hx).1, by omega⟩
  have ry : Row ys := ⟨fun x hx => (o2 x hx).1, by omega⟩
  have rb : Row (xs ++ ys) := app_row rx.1 ry.1 (by omega)
  have bl : (xs ++ ys).length ≤ 10 := by rw [List.length_append]; omega
  have ej := joined_ok rx ry (by omega) S2
  have G2 := g2.self
  -- signs
  have hz1 : (wsL KS (xs ++ ys)).length < 3000 := by rw [ws_len']; exact Nat.lt_of_le_of_lt (Nat.pow_le_pow_right (by decide) bl) (by decide)
  obtain ⟨S3, e3, f3⟩ := both_ok (fun S => sign_ok rx (by omega) S) (fun S => sign_ok ry (by omega) S) (fun S => sign_ok rb bl S) hz1 S2 (some (.fz (ns.map .int))) (some (.int k)) (some (.ref b)) r6 r7
  have G3 := f3.gr G2
  -- parts
  obtain ⟨S4, e4, f4⟩ : ∃ S4 : Sto, (PD.tAnd (tV (eOp oLt (eB fLen (aCons (eVar 5) aNil)) (eC (.int 8)))) (tV (eOp oNeD (eCall F_part_table_n (aCons (eVar 5) aNil)) (eCall F_multiplied_n (aCons (eCall F_part_table_n (aCons (eVar 3) aNil)) (aCons (eCall F_part_table_n (aCons (eVar 4) aNil)) aNil)))))) [some (.fz (ns.map .int)), some (.int k), some (.ref b), some (tupI xs), some (tupI ys), some (tupI (xs ++ ys)), r6, r7] S3 = .ok false S4 ∧ Fz S3 S4 := by
    have hc : tV (eOp oLt (eB fLen (aCons (eVar 5) aNil)) (eC (.int 8))) [some (.fz (ns.map .int)), some (.int k), some (.ref b), some (tupI xs), some (tupI ys), some (tupI (xs ++ ys)), r6, r7] S3 = .ok (decide (((xs ++ ys).length : Int) < 8)) S3 := tV_go (eOp_go (eB_go (aCons_go (eVar_go rfl) rfl) len_tup) rfl rfl)
    by_cases c : (xs ++ ys).length < 8
    · rw [decide_eq_true (by omega)] at hc
      have hz2 : (wsL KP (xs ++ ys)).length < 3000 := by rw [ws_len']; exact Nat.lt_of_le_of_lt (Nat.pow_le_pow_right (by decide) (show (xs ++ ys).length ≤ 7 by omega)) (by decide)
      obtain ⟨S4, e4, f4⟩ := both_ok (fun S => part_ok rx (by omega) S) (fun S => part_ok ry (by omega) S) (fun S => part_ok rb (by omega) S) hz2 S3 (some (.fz (ns.map .int))) (some (.int k)) (some (.ref b)) r6 r7
      exact ⟨S4, (tAnd_t hc).trans e4, f4⟩
    · rw [decide_eq_false (by omega)] at hc
      exact ⟨S3, tAnd_f hc, Fz.refl _⟩
  have G4 := f4.gr G3
  -- another order
  obtain ⟨os, S5, e5, p5, g5⟩ := order_ok (n := (xs ++ ys).length) G4 (by omega)
  have em := mixed_ok rb p5 S5
  have pm := mixd_perm p5
  obtain ⟨S6, n6, T6, e6, d6, l6, H6, t6, p6⟩ := sign_ok (perm_row rb pm) (by rw [pm.length_eq]; exact bl) S5
  obtain ⟨S7, n7, T7, e7, d7, l7, H7, t7, p7⟩ := sign_ok rb bl S6
  have c7 := ne_ok (p7.fz.dat (.inl d6 : dAt S6 n6 T6)) (.inl d7) (same_H H6 H7 (ws_perm KS pm))
  have G7 := p7.fz.gr (p6.fz.gr g5.self)
  -- grown
  obtain ⟨q, S8, e8, q0, q1, g8⟩ := take_ok G7 (many := 9) (by decide) (by decide)
  obtain ⟨S9, n9, T9, e9, d9, l9, H9, t9, p9⟩ := sign_ok rx (by omega) S8
  have G9 := p9.fz.gr g8.self
  have hb1 : 1 ≤ 1 + q := by omega
  have sb : smallI (1 + q) := ⟨by omega, by omega⟩
  generalize hby : 1 + q = by' at *
  have eg := grown_ok rx hb1 sb S9
  have rg := grown_row rx hb1
  obtain ⟨SA, nA, TA, eA, dA, lA, HA, tA, pA⟩ := sign_ok rg (by rw [List.length_map]; omega) S9
  have D9A : SA[n9]? = some (.dic (encT T9)) := by rw [pA.old _ (List.getElem?_eq_some_iff.mp d9).1]; exact d9
  have GA := pA.fz.gr G9
  have ec : eThaw 7 (eComp (aKeys (eVar 7)) 1 [6, 7] (.nm 0) tTrue (eTup (aCons (eOp oMul (eVar 0) (eVar 1)) (aCons (eOp oIxD (eVar 2) (eVar 0)) aNil)))) [some (.fz (ns.map .int)), some (.int k), some (.ref b), some (tupI xs), some (tupI ys), some (tupI (xs ++ ys)), some (.int by'), some (.ref n9)] SA = .ok (.lst ((grT by' T9).map fun e => D.tup [.int e.1, .int e.2])) SA := by
    refine thaw_go (kvs := encT T9) rfl D9A ?_
    have el : ((grT by' T9).map fun e => D.tup [.int e.1, .int e.2]) = T9.map fun e => D.tup [.int (e.1 * by'), .int e.2] := by unfold grT; rw [List.map_map]; rfl
    rw [el]
    exact comp_mapS (enc := fun e : Int × Int => D.int e.1) (tl := [some (.int by'), some (.ref n9)]) T9 (keys_go rfl (.inl D9A)) (Nat.le_trans t9.len z3000) rfl fun e he => eTup_go (xs := [.int (e.1 * by'), .int e.2]) (aCons_go (eOp_go (eVar_go rfl) (eVar_go rfl) (oMul_i (.inr sb))) (aCons_go (eOp_go (eVar_go rfl) (eVar_go rfl) (ixD_ok (.inr (dAt.frz (.inl D9A))) t9.keys he)) rfl)) z2
  have eD := dcp_go (S := SA) (grT_keys hb1 t9.keys)
  have DB : dAt (SA ++ [SO.dic (encT (grT by' T9))]) SA.length (grT by' T9) := .inl (by simp)
  have fB := Fz.app SA [SO.dic (encT (grT by' T9))]
  have HG := grow_hist hb1 H9
  rw [← ws_grow] at HG
  have cB := ne_ok (fB.dat (.inl dA : dAt SA nA TA)) DB (same_H HA HG (alike_refl _))
  have D9B := fB.dat (.inl D9A : dAt SA n9 T9)
  have GB := fB.gr GA
  generalize SA ++ [SO.dic (encT (grT by' T9))] = SB at *
  -- unevenness
  have egb := grown_ok rb hb1 sb SB
  obtain ⟨SC, u', eC', pC, aC⟩ := uneven_ok (grown_row rb hb1) (by rw [List.length_map]; omega) SB
  obtain ⟨SD, u, eDu, pD, aD⟩ := uneven_ok rb (by omega) SC
  have hu := ab_grow hb1 aD aC
  have cD : oNeP SD (.int u') (.int (by' * u)) = some (.bl false) := by rw [oNeP_i, hu, decide_eq_true rfl]; rfl
  have D9D := pD.fz.dat (pC.fz.dat D9B)
  have GD := pD.fz.gr (pC.fz.gr GB)
  -- shifted
  obtain ⟨SE', aE, eE, dE, lE, fE⟩ := shift_ok D9D t9 by'
  obtain ⟨SF, aF, eF, dF, lF, fF⟩ := shift_ok (.inl dE : dAt SE' aE _) (shT_tab t9) (0 - by')
  rw [shT_back] at dF
  have D9F := fF.dat (fE.dat D9D)
  have cF := ne_ok (.inl dF) D9F (same_H H9 H9 (alike_refl _))
  have GF := fF.gr (fE.gr GD)
  -- a number taken out
  obtain ⟨SG, eG⟩ : ∃ SG : Sto, (PD.tAnd (tV (eOp oNeP (eVar 3) (eTup aNil))) (PD.tNot (tV (eCall F__law_place_right_n (aCons (eVar 3) (aCons (eCall F__law_take (aCons (eVar 2) (aCons (eB fLen (aCons (eVar 3) aNil)) aNil))) aNil)))))) [some (.fz (ns.map .int)), some (.int k), some (.ref b), some (tupI xs), some (tupI ys), some (tupI (xs ++ ys)), some (.int by'), some (.ref n9)] SF = .ok false SG := by
    have hc : tV (eOp oNeP (eVar 3) (eTup aNil)) [some (.fz (ns.map .int)), some (.int k), some (.ref b), some (tupI xs), some (tupI ys), some (tupI (xs ++ ys)), some (.int by'), some (.ref n9)] SF = .ok (!decide (xs = [])) SF := tV_go (eOp_go (eVar_go rfl) (eTup_go (xs := []) rfl (Nat.zero_le _)) (ne_tnil xs))
    by_cases c : xs = []
    · rw [decide_eq_true c] at hc
      exact ⟨SF, tAnd_f hc⟩
    · rw [decide_eq_false c] at hc
      have hxl : 0 < xs.length := List.length_pos_iff.mpr c
      obtain ⟨i, SH, eH, i0, i1, gH⟩ := take_ok GF (many := (xs.length : Int)) (by omega) (by omega)
      obtain ⟨j, rfl⟩ : ∃ j : Nat, i = j := ⟨i.toNat, by omega⟩
      obtain ⟨SI, eI, _⟩ := place_ok rx x5 (i := j) (by omega) SH
      exact ⟨SI, (tAnd_t hc).trans (tNot_go (b := true) (tV_go ((eCall_go (aCons_go (eVar_go rfl) (aCons_go ((eCall_go (aCons_go (eVar_go rfl) (aCons_go (eB_go (aCons_go (eVar_go rfl) rfl) len_tup) rfl))).trans eH) rfl))).trans eI)))⟩
  refine ⟨SG, some (.ref b), some (tupI xs), some (tupI ys), some (tupI (xs ++ ys)), some (.int by'), some (.ref n9), ?_⟩
  refine (sSeq_go (sSet_go ((eCall_go (aCons_go (eVar_go rfl) (aCons_go (eVar_go rfl) rfl))).trans e0))).trans ?_
  refine (sSeq_go (sPar_go (aCons_go ((eCall_go (aCons_go (eVar_go rfl) (aCons_go rfl rfl))).trans e1) (aCons_go ((eCall_go (aCons_go (eVar_go rfl) (aCons_go rfl rfl))).trans e2) rfl)))).trans ?_
  refine (sSeq_go (sSet_go ((eCall_go (aCons_go (eVar_go rfl) (aCons_go (eVar_go rfl) rfl))).trans ej))).trans ?_
  refine (sSeq_go ((sIf_f e3).trans rfl)).trans ?_
  refine (sSeq_go ((sIf_f e4).trans rfl)).trans ?_
  refine (sSeq_go ((sIf_f (tV_go (eOp_go ((eCall_go (aCons_go ((eCall_go (aCons_go (eVar_go rfl) (aCons_go ((eCall_go (aCons_go (eVar_go rfl) (aCons_go (eB_go (aCons_go (eVar_go rfl) rfl) len_tup) rfl))).trans e5) rfl))).trans em) rfl)).trans e6) ((eCall_go (aCons_go (eVar_go rfl) rfl)).trans e7) c7))).trans rfl)).trans ?_
  refine (sSeq_go (sSet_go (d := .int by') (eOp_go rfl ((eCall_go (aCons_go (eVar_go rfl) (aCons_go rfl rfl))).trans e8) (by rw [← hby]; rfl)))).trans ?_
  refine (sSeq_go (sSet_go ((eCall_go (aCons_go (eVar_go rfl) rfl)).trans e9))).trans ?_
  refine (sSeq_go ((sIf_f (tV_go (eOp_go ((eCall_go (aCons_go ((eCall_go (aCons_go (eVar_go rfl) (aCons_go (eVar_go rfl) rfl))).trans eg) rfl)).trans eA) ((eBR_go (aCons_go ec rfl)).trans eD) cB))).trans rfl)).trans ?_
  refine (sSeq_go ((sIf_f ((tOr_f (tV_go (eOp_go ((eCall_go (aCons_go ((eCall_go (aCons_go (eVar_go rfl) (aCons_go (eVar_go rfl) rfl))).trans egb) rfl)).trans eC') (eOp_go (eVar_go rfl) ((eCall_go (aCons_go (eVar_go rfl) rfl)).trans eDu) (oMul_i (.inl sb))) cD))).trans (tV_go (eOp_go ((eCall_go (aCons_go ((eCall_go (aCons_go (eVar_go rfl) (aCons_go (eVar_go rfl) rfl))).trans eE) (aCons_go (eOp_go rfl (eVar_go rfl) rfl) rfl))).trans eF) (eVar_go rfl) cF)))).trans rfl)).trans ?_
  exact (sIf_f eG).trans rfl
theorem law_loop (ns : List Int) : ∀ (l : List Nat) (S : Sto) (r1 r2 r3 r4 r5 r6 r7 : Option D), ∃ (S' : Sto) (ρ : Rho), forL (.nm 1) lawB (l.map fun (i : Nat) => D.int i) [some (.fz (ns.map .int)), r1, r2, r3, r4, r5, r6, r7] S = .ok (.nx ρ) S'
  | [], S, r1, r2, r3, r4, r5, r6, r7 => ⟨S, _, rfl⟩
  | k :: l, S, r1, r2, r3, r4, r5, r6, r7 => by
    obtain ⟨S1, a2, a3, a4, a5, a6, a7, e1⟩ := law_turn ns k S r2 r3 r4 r5 r6 r7
    obtain ⟨S2, ρ, e2⟩ := law_loop ns l S1 (some (.int k)) a2 a3 a4 a5 a6 a7
    exact ⟨S2, ρ, (forL_cons (r1 := [some (.fz (ns.map .int)), some (.int k), r2, r3, r4, r5, r6, r7]) rfl e1).trans e2⟩
theorem law_true (ns : List Int) (hn : ns.length ≤ 63) : ∃ S, F_law [.fz (ns.map .int)] [] = .ok (.bl true) S := by
  obtain ⟨n, hg, hn3⟩ := laps_le ns 3 hn (by decide) [some (.fz (ns.map .int)), none, none, none, none, none, none, none] rfl []
  obtain ⟨S, ρ, e⟩ := law_loop ns (List.range n) [] none none none none none none none
  exact ⟨S, fnM_rt (ρ := [some (.fz (ns.map .int)), none, none, none, none, none, none, none]) rfl ((sSeq_go ((sFor_go hg).trans e)).trans (sRet_go rfl))⟩
set_option maxHeartbeats 4000000
theorem boo_all : bootBuiltins "all" = some (.builtin "all") := by decide +kernel
theorem boo_bool : bootBuiltins "bool" = some (.type "bool") := by decide +kernel
theorem boo_dict : bootBuiltins "dict" = some (.type "dict") := by decide +kernel
theorem boo_divmod : bootBuiltins "divmod" = some (.builtin "divmod") := by decide +kernel
theorem boo_int : bootBuiltins "int" = some (.type "int") := by decide +kernel
theorem boo_isinstance : bootBuiltins "isinstance" = some (.builtin "isinstance") := by decide +kernel
theorem boo_len : bootBuiltins "len" = some (.builtin "len") := by decide +kernel
theorem boo_list : bootBuiltins "list" = some (.type "list") := by decide +kernel
theorem boo_max : bootBuiltins "max" = some (.builtin "max") := by decide +kernel
theorem boo_min : bootBuiltins "min" = some (.builtin "min") := by decide +kernel
theorem boo_sorted : bootBuiltins "sorted" = some (.builtin "sorted") := by decide +kernel
theorem boo_tuple : bootBuiltins "tuple" = some (.type "tuple") := by decide +kernel
structure Txt (K : PySem.W.Frag) (mg : Str → Option Value) : Prop where
  cl : Cls K raisedX askedX isaX
  b_all : mg "all" = none
  b_bool : mg "bool" = none
  b_dict : mg "dict" = none
  b_divmod : mg "divmod" = none
  b_int : mg "int" = none
  b_isinstance : mg "isinstance" = none
  b_len : mg "len" = none
  b_list : mg "list" = none
  b_max : mg "max" = none
  b_min : mg "min" = none
  b_range : mg "range" = none
  b_sorted : mg "sorted" = none
  b_tuple : mg "tuple" = none
  c_LONGEST_ROW : ∃ t, mg "LONGEST_ROW" = some (.int 16 t)
  c_LONGEST_TABLED : ∃ t, mg "LONGEST_TABLED" = some (.int 10 t)
  m_PARTS : TupAt K mg "PARTS" [(-1), (0), (1)]
  m_SIGNS : TupAt K mg "SIGNS" [(-1), (1)]
section
variable {P : Program} {w : World} {K : PySem.W.Frag} {mg : Str → Option Value} {base : Heap}
theorem sc__law_box : FnScope ["script", "k", "here", "number", "j", "part"] ["script", "k"] (defScope st__law_box) := ⟨by kernel_rfl, by kernel_rfl, by kernel_rfl, by decide +kernel, rfl, by decide +kernel, by decide +kernel⟩
theorem ok__law_box {f : Addr} {fd : FuncData} (F : Fun K "_law_box" "_law_box" st__law_box f fd) (hm : mg "_law_box" = some (.ref f)) (hb : Binds K fd ["script", "k"] []) (T : Txt K mg)  : DefN P w K mg base "_law_box" 1 2 F__law_box :=
  def_ofN ["script", "k", "here", "number", "j", "part"] ["script", "k"] 0 1 2 6 rfl rfl rfl F hm hb sc__law_box (m := m__law_box) fun cdv A outer s H E hr => (ss_cons (ss_set sc__law_box.nd (by kernel_rfl) (Or.inl (by kernel_rfl)) (se_op xo_add (se_op xo_mul se_int (se_var 1 (by kernel_rfl) (Or.inl (by kernel_rfl)))) se_int)) (ss_cons (ss_if (st_cmp xo_lt (se_var 1 (by kernel_rfl) (Or.inl (by kernel_rfl))) (se_callB xc_len (by unfold Gl; kernel_rfl) T.b_len boo_len (sa_cons (se_var 0 (by kernel_rfl) (Or.inl (by kernel_rfl))) sa_nil))) (ss_one (ss_set sc__law_box.nd (by kernel_rfl) (Or.inl (by kernel_rfl)) (se_ix xi_ix (se_var 0 (by kernel_rfl) (Or.inl (by kernel_rfl))) (se_var 1 (by kernel_rfl) (Or.inl (by kernel_rfl)))))) ss_nil) (ss_cons (ss_if (st_cmp (xo_eqP hr) (se_op xo_mod (se_var 2 (by kernel_rfl) (Or.inl (by kernel_rfl))) se_int) se_int) (ss_one (ss_ret (se_new (sa_cons (se_op xo_fdiv (se_var 2 (by kernel_rfl) (Or.inl (by kernel_rfl))) se_int) sa_nil)))) ss_nil) (ss_cons (ss_set sc__law_box.nd (by kernel_rfl) (Or.inl (by kernel_rfl)) se_int) (ss_cons (ss_for PassesOwn.never rfl (si_range1 (by unfold Gl; kernel_rfl) T.b_range (sa_cons se_int sa_nil)) (sg_name sc__law_box.nd (by kernel_rfl) (Or.inl (by kernel_rfl))) (ss_cons (ss_set sc__law_box.nd (by kernel_rfl) (Or.inl (by kernel_rfl)) (se_op xo_mod (se_op xo_add (se_op xo_add (se_op xo_mul (se_op xo_mod (se_var 2 (by kernel_rfl) (Or.inl (by kernel_rfl))) se_int) se_int) (se_op xo_mul se_int (se_var 4 (by kernel_rfl) (Or.inl (by kernel_rfl))))) se_int) se_int)) (ss_cons (ss_set sc__law_box.nd (by kernel_rfl) (Or.inl (by kernel_rfl)) (se_op xo_mod (se_op xo_mul (se_var 5 (by kernel_rfl) (Or.inl (by kernel_rfl))) (se_var 5 (by kernel_rfl) (Or.inl (by kernel_rfl)))) se_int)) (ss_one (ss_set sc__law_box.nd (by kernel_rfl) (Or.inl (by kernel_rfl)) (se_op xo_add (se_op xo_mul (se_var 3 (by kernel_rfl) (Or.inl (by kernel_rfl))) se_int) (se_op xo_mod (se_op xo_mul (se_var 5 (by kernel_rfl) (Or.inl (by kernel_rfl))) (se_op xo_add (se_var 5 (by kernel_rfl) (Or.inl (by kernel_rfl))) se_int)) se_int))))))) (ss_one (ss_ret (se_new (sa_cons (se_var 3 (by kernel_rfl) (Or.inl (by kernel_rfl))) sa_nil)))))))))
theorem sc__law_take : FnScope ["box", "many", "left", "digit"] ["box", "many"] (defScope st__law_take) := ⟨by kernel_rfl, by kernel_rfl, by kernel_rfl, by decide +kernel, rfl, by decide +kernel, by decide +kernel⟩
theorem ok__law_take {f : Addr} {fd : FuncData} (F : Fun K "_law_take" "_law_take" st__law_take f fd) (hm : mg "_law_take" = some (.ref f)) (hb : Binds K fd ["box", "many"] []) (T : Txt K mg)  : DefN P w K mg base "_law_take" 1 2 F__law_take :=
  def_ofN ["box", "many", "left", "digit"] ["box", "many"] 0 1 2 4 rfl rfl rfl F hm hb sc__law_take (m := m__law_take) fun cdv A outer s H E hr => (ss_cons (ss_asg (se_callB xc_divmod (by unfold Gl; kernel_rfl) T.b_divmod boo_divmod (sa_cons (se_ix xi_ix (se_var 0 (by kernel_rfl) (Or.inl (by kernel_rfl))) se_int) (sa_cons (se_var 1 (by kernel_rfl) (Or.inl (by kernel_rfl))) sa_nil))) (sg_tup rfl (sgs_cons (sg_name sc__law_take.nd (by kernel_rfl) (Or.inl (by kernel_rfl))) (sgs_cons (sg_name sc__law_take.nd (by kernel_rfl) (Or.inl (by kernel_rfl))) sgs_nil)))) (ss_cons (ss_put xs_put (se_var 2 (by kernel_rfl) (Or.inl (by kernel_rfl))) (se_var 0 (by kernel_rfl) (Or.inl (by kernel_rfl))) se_int) (ss_one (ss_ret (se_var 3 (by kernel_rfl) (Or.inl (by kernel_rfl)))))))
theorem sc__law_order : FnScope ["box", "many", "left"] ["box", "many"] (defScope st__law_order) := ⟨by kernel_rfl, by kernel_rfl, by kernel_rfl, by decide +kernel, rfl, by decide +kernel, by decide +kernel⟩
theorem ok__law_order {f : Addr} {fd : FuncData} (F : Fun K "_law_order" "_law_order" st__law_order f fd) (hm : mg "_law_order" = some (.ref f)) (hb : Binds K fd ["box", "many"] []) (T : Txt K mg) (d__law_take : DefN P w K mg base "_law_take" 1 2 F__law_take) : DefN P w K mg base "_law_order" 2 2 F__law_order :=
  def_ofN ["box", "many", "left"] ["box", "many"] 1 2 2 3 rfl rfl rfl F hm hb sc__law_order (m := m__law_order) fun cdv A outer s H E hr => (ss_cons (ss_set sc__law_order.nd (by kernel_rfl) (Or.inr (by kernel_rfl)) (se_lrgR rfl (by unfold Gl; kernel_rfl) T.b_list (by unfold Gl; kernel_rfl) T.b_range (sa_cons (se_var 1 (by kernel_rfl) (Or.inl (by kernel_rfl))) sa_nil))) (ss_one (ss_ret (se_callTy xc_tuple (by unfold Gl; kernel_rfl) T.b_tuple boo_tuple (sa_cons (se_comp (N := ["turn", "left", "box"]) (k := 1) (caps := [2, 0]) rfl (fun _ _ z => z) (cs_mk (by kernel_rfl) (by kernel_rfl) (by kernel_rfl) (by kernel_rfl) rfl (by kernel_rfl)) (si_range1 (by unfold Gl; kernel_rfl) T.b_range (sa_cons (se_var 1 (by kernel_rfl) (Or.inl (by kernel_rfl))) sa_nil)) (fun _ _ _ _ => (sg_name (show (["turn", "left", "box"] : List Str).Nodup by decide +kernel) (by kernel_rfl) (Or.inl (by kernel_rfl)))) (fun _ _ _ _ => sif_nil) (fun _ _ _ _ => (se_mtL PySem.F.plainAttrs_list PySem.F.slot_list_pop PySem.F.type_list_pop xm_popAt (se_var 1 (by kernel_rfl) (Or.inr (Or.inl (by kernel_rfl)))) (sa_cons (se_fnN d__law_take (hr.mono (by decide)) (by unfold Gl; kernel_rfl) (sa_cons (se_var 2 (by kernel_rfl) (Or.inr (Or.inl (by kernel_rfl)))) (sa_cons (se_callB xc_len (by unfold Gl; kernel_rfl) T.b_len boo_len (sa_cons (se_var 1 (by kernel_rfl) (Or.inr (Or.inl (by kernel_rfl)))) sa_nil)) sa_nil)) (alen_cons (alen_cons alen_nil))) sa_nil)))) sa_nil)))))
theorem sc_is_whole : FnScope ["thing"] ["thing"] (defScope st_is_whole) := ⟨by kernel_rfl, by kernel_rfl, by kernel_rfl, by decide +kernel, rfl, by decide +kernel, by decide +kernel⟩
theorem ok_is_whole {f : Addr} {fd : FuncData} (F : Fun K "is_whole" "is_whole" st_is_whole f fd) (hm : mg "is_whole" = some (.ref f)) (hb : Binds K fd ["thing"] []) (T : Txt K mg)  : DefN P w K mg base "is_whole" 1 1 F_is_whole :=
  def_ofN ["thing"] ["thing"] 0 1 1 1 rfl rfl rfl F hm hb sc_is_whole (m := m_is_whole) fun cdv A outer s H E hr => (ss_one (ss_ret (se_and (se_callB xc_isi (by unfold Gl; kernel_rfl) T.b_isinstance boo_isinstance (sa_cons (se_var 0 (by kernel_rfl) (Or.inl (by kernel_rfl))) (sa_cons (se_ty (by unfold Gl; kernel_rfl) T.b_int boo_int) sa_nil))) (se_one (se_not (se_callB xc_isi (by unfold Gl; kernel_rfl) T.b_isinstance boo_isinstance (sa_cons (se_var 0 (by kernel_rfl) (Or.inl (by kernel_rfl))) (sa_cons (se_ty (by unfold Gl; kernel_rfl) T.b_bool boo_bool) sa_nil))))))))
theorem sc_is_table : FnScope ["thing"] ["thing"] (defScope st_is_table) := ⟨by kernel_rfl, by kernel_rfl, by kernel_rfl, by decide +kernel, rfl, by decide +kernel, by decide +kernel⟩
theorem ok_is_table {f : Addr} {fd : FuncData} (F : Fun K "is_table" "is_table" st_is_table f fd) (hm : mg "is_table" = some (.ref f)) (hb : Binds K fd ["thing"] []) (T : Txt K mg) (d_is_whole : DefN P w K mg base "is_whole" 1 1 F_is_whole) : DefN P w K mg base "is_table" 2 1 F_is_table :=
  def_ofN ["thing"] ["thing"] 1 2 1 1 rfl rfl rfl F hm hb sc_is_table (m := m_is_table) fun cdv A outer s H E hr => (ss_cons (ss_if (sw_st (sw_or (st_not (st_val (se_callB xc_isiF (by unfold Gl; kernel_rfl) T.b_isinstance boo_isinstance (sa_cons (se_var 0 (by kernel_rfl) (Or.inl (by kernel_rfl))) (sa_cons (se_ty (by unfold Gl; kernel_rfl) T.b_dict boo_dict) sa_nil))))) (sw_or1 (st_cmp (xo_eqD hr) (se_var 0 (by kernel_rfl) (Or.inl (by kernel_rfl))) se_dic0)))) (ss_one (ss_ret se_bl)) ss_nil) (ss_one (ss_ret (se_callB (xc_all rfl) (by unfold Gl; kernel_rfl) T.b_all boo_all (sa_cons (se_comp (N := ["reached", "ways"]) (k := 2) (caps := []) rfl (fun _ _ z => z) (cs_mk (by kernel_rfl) (by kernel_rfl) (by kernel_rfl) (by kernel_rfl) rfl (by kernel_rfl)) (si_items (se_var 0 (by kernel_rfl) (Or.inl (by kernel_rfl)))) (fun _ _ _ _ => (sg_tup rfl (sgs_cons (sg_name (show (["reached", "ways"] : List Str).Nodup by decide +kernel) (by kernel_rfl) (Or.inl (by kernel_rfl))) (sgs_cons (sg_name (show (["reached", "ways"] : List Str).Nodup by decide +kernel) (by kernel_rfl) (Or.inl (by kernel_rfl))) sgs_nil)))) (fun _ _ _ _ => sif_nil) (fun _ _ _ _ => (se_and (se_fnN d_is_whole (hr.mono (by decide)) (by unfold Gl; kernel_rfl) (sa_cons (se_var 0 (by kernel_rfl) (Or.inl (by kernel_rfl))) sa_nil) (alen_cons alen_nil)) (se_and (se_fnN d_is_whole (hr.mono (by decide)) (by unfold Gl; kernel_rfl) (sa_cons (se_var 1 (by kernel_rfl) (Or.inl (by kernel_rfl))) sa_nil) (alen_cons alen_nil)) (se_one (se_cmp xo_ge (se_var 1 (by kernel_rfl) (Or.inl (by kernel_rfl))) se_int)))))) sa_nil)))))
theorem sc_need_table_n : FnScope ["thing"] ["thing"] (defScope st_need_table_n) := ⟨by kernel_rfl, by kernel_rfl, by kernel_rfl, by decide +kernel, rfl, by decide +kernel, by decide +kernel⟩
theorem ok_need_table_n {f : Addr} {fd : FuncData} (F : Fun K "need_table" "need_table" st_need_table_n f fd) (hm : mg "need_table" = some (.ref f)) (hb : Binds K fd ["thing"] []) (T : Txt K mg) (d_is_table : DefN P w K mg base "is_table" 2 1 F_is_table) : DefN P w K mg base "need_table" 3 1 F_need_table_n :=
  def_ofN ["thing"] ["thing"] 2 3 1 1 rfl rfl rfl F hm hb sc_need_table_n (m := m_need_table_n) fun cdv A outer s H E hr => (ss_one (ss_if (st_not (st_val (se_fnN d_is_table (hr.mono (by decide)) (by unfold Gl; kernel_rfl) (sa_cons (se_var 0 (by kernel_rfl) (Or.inl (by kernel_rfl))) sa_nil) (alen_cons alen_nil)))) (ss_one ss_never) ss_nil))
theorem sc_multiplied_n : FnScope ["one", "other", "product", "reached", "ways", "further", "others", "there"] ["one", "other"] (defScope st_multiplied_n) := ⟨by kernel_rfl, by kernel_rfl, by kernel_rfl, by decide +kernel, rfl, by decide +kernel, by decide +kernel⟩
theorem ok_multiplied_n {f : Addr} {fd : FuncData} (F : Fun K "multiplied" "multiplied" st_multiplied_n f fd) (hm : mg "multiplied" = some (.ref f)) (hb : Binds K fd ["one", "other"] []) (T : Txt K mg) (d_need_table_n : DefN P w K mg base "need_table" 3 1 F_need_table_n) : DefN P w K mg base "multiplied" 4 2 F_multiplied_n :=
  def_ofN ["one", "other", "product", "reached", "ways", "further", "others", "there"] ["one", "other"] 3 4 2 8 rfl rfl rfl F hm hb sc_multiplied_n (m := m_multiplied_n) fun cdv A outer s H E hr => (ss_cons (ss_expr (se_fnN d_need_table_n (hr.mono (by decide)) (by unfold Gl; kernel_rfl) (sa_cons (se_var 0 (by kernel_rfl) (Or.inl (by kernel_rfl))) sa_nil) (alen_cons alen_nil))) (ss_cons (ss_expr (se_fnN d_need_table_n (hr.mono (by decide)) (by unfold Gl; kernel_rfl) (sa_cons (se_var 1 (by kernel_rfl) (Or.inl (by kernel_rfl))) sa_nil) (alen_cons alen_nil))) (ss_cons (ss_set sc_multiplied_n.nd (by kernel_rfl) (Or.inl (by kernel_rfl)) se_dicE) (ss_cons (ss_for PassesOwn.never rfl (si_items (se_var 0 (by kernel_rfl) (Or.inl (by kernel_rfl)))) (sg_tup rfl (sgs_cons (sg_name sc_multiplied_n.nd (by kernel_rfl) (Or.inl (by kernel_rfl))) (sgs_cons (sg_name sc_multiplied_n.nd (by kernel_rfl) (Or.inl (by kernel_rfl))) sgs_nil))) (ss_one (ss_for PassesOwn.never rfl (si_items (se_var 1 (by kernel_rfl) (Or.inl (by kernel_rfl)))) (sg_tup rfl (sgs_cons (sg_name sc_multiplied_n.nd (by kernel_rfl) (Or.inl (by kernel_rfl))) (sgs_cons (sg_name sc_multiplied_n.nd (by kernel_rfl) (Or.inl (by kernel_rfl))) sgs_nil))) (ss_cons (ss_set sc_multiplied_n.nd (by kernel_rfl) (Or.inl (by kernel_rfl)) (se_op xo_add (se_var 3 (by kernel_rfl) (Or.inl (by kernel_rfl))) (se_var 5 (by kernel_rfl) (Or.inl (by kernel_rfl))))) (ss_one (ss_put (xs_putD hr) (se_op xo_add (se_get2 hr (se_var 2 (by kernel_rfl) (Or.inl (by kernel_rfl))) (se_var 7 (by kernel_rfl) (Or.inl (by kernel_rfl))) se_int (m2_mk (by kernel_rfl) (by kernel_rfl) (by kernel_rfl) (by kernel_rfl))) (se_op xo_mul (se_var 4 (by kernel_rfl) (Or.inl (by kernel_rfl))) (se_var 6 (by kernel_rfl) (Or.inl (by kernel_rfl))))) (se_var 2 (by kernel_rfl) (Or.inl (by kernel_rfl))) (se_var 7 (by kernel_rfl) (Or.inl (by kernel_rfl))))))))) (ss_one (ss_ret (se_var 2 (by kernel_rfl) (Or.inl (by kernel_rfl)))))))))
theorem sc_is_row : FnScope ["thing"] ["thing"] (defScope st_is_row) := ⟨by kernel_rfl, by kernel_rfl, by kernel_rfl, by decide +kernel, rfl, by decide +kernel, by decide +kernel⟩
theorem ok_is_row {f : Addr} {fd : FuncData} (F : Fun K "is_row" "is_row" st_is_row f fd) (hm : mg "is_row" = some (.ref f)) (hb : Binds K fd ["thing"] []) (T : Txt K mg) (d_is_whole : DefN P w K mg base "is_whole" 1 1 F_is_whole) : DefN P w K mg base "is_row" 2 1 F_is_row :=
  def_ofN ["thing"] ["thing"] 1 2 1 1 rfl rfl rfl F hm hb sc_is_row (m := m_is_row) fun cdv A outer s H E hr => (ss_cons (ss_if (sw_st (sw_or (st_not (st_val (se_callB xc_isi (by unfold Gl; kernel_rfl) T.b_isinstance boo_isinstance (sa_cons (se_var 0 (by kernel_rfl) (Or.inl (by kernel_rfl))) (sa_cons (se_ty (by unfold Gl; kernel_rfl) T.b_tuple boo_tuple) sa_nil))))) (sw_or1 (st_cmp xo_gt (se_callB xc_len (by unfold Gl; kernel_rfl) T.b_len boo_len (sa_cons (se_var 0 (by kernel_rfl) (Or.inl (by kernel_rfl))) sa_nil)) (se_gi T.c_LONGEST_ROW (by unfold Gl; kernel_rfl)))))) (ss_one (ss_ret se_bl)) ss_nil) (ss_one (ss_ret (se_callB (xc_all rfl) (by unfold Gl; kernel_rfl) T.b_all boo_all (sa_cons (se_comp (N := ["number"]) (k := 1) (caps := []) rfl (fun _ _ z => z) (cs_mk (by kernel_rfl) (by kernel_rfl) (by kernel_rfl) (by kernel_rfl) rfl (by kernel_rfl)) (si_seq (se_var 0 (by kernel_rfl) (Or.inl (by kernel_rfl)))) (fun _ _ _ _ => (sg_name (show (["number"] : List Str).Nodup by decide +kernel) (by kernel_rfl) (Or.inl (by kernel_rfl)))) (fun _ _ _ _ => sif_nil) (fun _ _ _ _ => (se_and (se_fnN d_is_whole (hr.mono (by decide)) (by unfold Gl; kernel_rfl) (sa_cons (se_var 0 (by kernel_rfl) (Or.inl (by kernel_rfl))) sa_nil) (alen_cons alen_nil)) (se_one (se_cmp xo_ge (se_var 0 (by kernel_rfl) (Or.inl (by kernel_rfl))) se_int))))) sa_nil)))))
theorem sc_need_row_n : FnScope ["thing"] ["thing"] (defScope st_need_row_n) := ⟨by kernel_rfl, by kernel_rfl, by kernel_rfl, by decide +kernel, rfl, by decide +kernel, by decide +kernel⟩
theorem ok_need_row_n {f : Addr} {fd : FuncData} (F : Fun K "need_row" "need_row" st_need_row_n f fd) (hm : mg "need_row" = some (.ref f)) (hb : Binds K fd ["thing"] []) (T : Txt K mg) (d_is_row : DefN P w K mg base "is_row" 2 1 F_is_row) : DefN P w K mg base "need_row" 3 1 F_need_row_n :=
  def_ofN ["thing"] ["thing"] 2 3 1 1 rfl rfl rfl F hm hb sc_need_row_n (m := m_need_row_n) fun cdv A outer s H E hr => (ss_one (ss_if (st_not (st_val (se_fnN d_is_row (hr.mono (by decide)) (by unfold Gl; kernel_rfl) (sa_cons (se_var 0 (by kernel_rfl) (Or.inl (by kernel_rfl))) sa_nil) (alen_cons alen_nil)))) (ss_one ss_never) ss_nil))
theorem sc_need_few_n : FnScope ["row"] ["row"] (defScope st_need_few_n) := ⟨by kernel_rfl, by kernel_rfl, by kernel_rfl, by decide +kernel, rfl, by decide +kernel, by decide +kernel⟩
theorem ok_need_few_n {f : Addr} {fd : FuncData} (F : Fun K "need_few" "need_few" st_need_few_n f fd) (hm : mg "need_few" = some (.ref f)) (hb : Binds K fd ["row"] []) (T : Txt K mg) (d_need_row_n : DefN P w K mg base "need_row" 3 1 F_need_row_n) : DefN P w K mg base "need_few" 4 1 F_need_few_n :=
  def_ofN ["row"] ["row"] 3 4 1 1 rfl rfl rfl F hm hb sc_need_few_n (m := m_need_few_n) fun cdv A outer s H E hr => (ss_cons (ss_expr (se_fnN d_need_row_n (hr.mono (by decide)) (by unfold Gl; kernel_rfl) (sa_cons (se_var 0 (by kernel_rfl) (Or.inl (by kernel_rfl))) sa_nil) (alen_cons alen_nil))) (ss_one (ss_if (st_cmp xo_gt (se_callB xc_len (by unfold Gl; kernel_rfl) T.b_len boo_len (sa_cons (se_var 0 (by kernel_rfl) (Or.inl (by kernel_rfl))) sa_nil)) (se_gi T.c_LONGEST_TABLED (by unfold Gl; kernel_rfl))) (ss_one ss_never) ss_nil)))
theorem sc_stepped : FnScope ["table", "step", "choices", "wider", "reached", "ways", "choice", "there"] ["table", "step", "choices"] (defScope st_stepped) := ⟨by kernel_rfl, by kernel_rfl, by kernel_rfl, by decide +kernel, rfl, by decide +kernel, by decide +kernel⟩
theorem ok_stepped {f : Addr} {fd : FuncData} (F : Fun K "stepped" "stepped" st_stepped f fd) (hm : mg "stepped" = some (.ref f)) (hb : Binds K fd ["table", "step", "choices"] []) (T : Txt K mg)  : DefN P w K mg base "stepped" 1 3 F_stepped :=
  def_ofN ["table", "step", "choices", "wider", "reached", "ways", "choice", "there"] ["table", "step", "choices"] 0 1 3 8 rfl rfl rfl F hm hb sc_stepped (m := m_stepped) fun cdv A outer s H E hr => (ss_cons (ss_set sc_stepped.nd (by kernel_rfl) (Or.inl (by kernel_rfl)) se_dicE) (ss_cons (ss_for PassesOwn.never rfl (si_items (se_var 0 (by kernel_rfl) (Or.inl (by kernel_rfl)))) (sg_tup rfl (sgs_cons (sg_name sc_stepped.nd (by kernel_rfl) (Or.inl (by kernel_rfl))) (sgs_cons (sg_name sc_stepped.nd (by kernel_rfl) (Or.inl (by kernel_rfl))) sgs_nil))) (ss_one (ss_for PassesOwn.never rfl (si_seq (se_var 2 (by kernel_rfl) (Or.inl (by kernel_rfl)))) (sg_name sc_stepped.nd (by kernel_rfl) (Or.inl (by kernel_rfl))) (ss_cons (ss_set sc_stepped.nd (by kernel_rfl) (Or.inl (by kernel_rfl)) (se_op xo_add (se_var 4 (by kernel_rfl) (Or.inl (by kernel_rfl))) (se_op xo_mul (se_var 6 (by kernel_rfl) (Or.inl (by kernel_rfl))) (se_var 1 (by kernel_rfl) (Or.inl (by kernel_rfl)))))) (ss_one (ss_put (xs_putD hr) (se_op xo_add (se_get2 hr (se_var 3 (by kernel_rfl) (Or.inl (by kernel_rfl))) (se_var 7 (by kernel_rfl) (Or.inl (by kernel_rfl))) se_int (m2_mk (by kernel_rfl) (by kernel_rfl) (by kernel_rfl) (by kernel_rfl))) (se_var 5 (by kernel_rfl) (Or.inl (by kernel_rfl)))) (se_var 3 (by kernel_rfl) (Or.inl (by kernel_rfl))) (se_var 7 (by kernel_rfl) (Or.inl (by kernel_rfl))))))))) (ss_one (ss_ret (se_var 3 (by kernel_rfl) (Or.inl (by kernel_rfl)))))))
theorem sc_table_of : FnScope ["row", "choices", "table", "step"] ["row", "choices"] (defScope st_table_of) := ⟨by kernel_rfl, by kernel_rfl, by kernel_rfl, by decide +kernel, rfl, by decide +kernel, by decide +kernel⟩
theorem ok_table_of {f : Addr} {fd : FuncData} (F : Fun K "table_of" "table_of" st_table_of f fd) (hm : mg "table_of" = some (.ref f)) (hb : Binds K fd ["row", "choices"] []) (T : Txt K mg) (d_stepped : DefN P w K mg base "stepped" 1 3 F_stepped) : DefN P w K mg base "table_of" 2 2 F_table_of :=
  def_ofN ["row", "choices", "table", "step"] ["row", "choices"] 1 2 2 4 rfl rfl rfl F hm hb sc_table_of (m := m_table_of) fun cdv A outer s H E hr => (ss_cons (ss_set sc_table_of.nd (by kernel_rfl) (Or.inl (by kernel_rfl)) (se_dicN (sps_cons se_int se_int sps_nil))) (ss_cons (ss_for PassesOwn.never rfl (si_seq (se_var 0 (by kernel_rfl) (Or.inl (by kernel_rfl)))) (sg_name sc_table_of.nd (by kernel_rfl) (Or.inl (by kernel_rfl))) (ss_one (ss_set sc_table_of.nd (by kernel_rfl) (Or.inl (by kernel_rfl)) (se_fnN d_stepped (hr.mono (by decide)) (by unfold Gl; kernel_rfl) (sa_cons (se_var 2 (by kernel_rfl) (Or.inl (by kernel_rfl))) (sa_cons (se_var 3 (by kernel_rfl) (Or.inl (by kernel_rfl))) (sa_cons (se_var 1 (by kernel_rfl) (Or.inl (by kernel_rfl))) sa_nil))) (alen_cons (alen_cons (alen_cons alen_nil))))))) (ss_one (ss_ret (se_var 2 (by kernel_rfl) (Or.inl (by kernel_rfl)))))))
theorem sc_part_table_n : FnScope ["row"] ["row"] (defScope st_part_table_n) := ⟨by kernel_rfl, by kernel_rfl, by kernel_rfl, by decide +kernel, rfl, by decide +kernel, by decide +kernel⟩
theorem ok_part_table_n {f : Addr} {fd : FuncData} (F : Fun K "part_table" "part_table" st_part_table_n f fd) (hm : mg "part_table" = some (.ref f)) (hb : Binds K fd ["row"] []) (T : Txt K mg) (d_need_few_n : DefN P w K mg base "need_few" 4 1 F_need_few_n) (d_table_of : DefN P w K mg base "table_of" 2 2 F_table_of) : DefN P w K mg base "part_table" 5 1 F_part_table_n :=
  def_ofN ["row"] ["row"] 4 5 1 1 rfl rfl rfl F hm hb sc_part_table_n (m := m_part_table_n) fun cdv A outer s H E hr => (ss_cons (ss_expr (se_fnN d_need_few_n (hr.mono (by decide)) (by unfold Gl; kernel_rfl) (sa_cons (se_var 0 (by kernel_rfl) (Or.inl (by kernel_rfl))) sa_nil) (alen_cons alen_nil))) (ss_one (ss_ret (se_fnN d_table_of (hr.mono (by decide)) (by unfold Gl; kernel_rfl) (sa_cons (se_var 0 (by kernel_rfl) (Or.inl (by kernel_rfl))) (sa_cons (se_gt T.m_PARTS (by unfold Gl; kernel_rfl)) sa_nil)) (alen_cons (alen_cons alen_nil))))))
theorem sc_divided : FnScope ["table", "number", "further", "left", "other", "reached", "ways", "more"] ["table", "number", "further"] (defScope st_divided) := ⟨by kernel_rfl, by kernel_rfl, by kernel_rfl, by decide +kernel, rfl, by decide +kernel, by decide +kernel⟩
theorem ok_divided {f : Addr} {fd : FuncData} (F : Fun K "divided" "divided" st_divided f fd) (hm : mg "divided" = some (.ref f)) (hb : Binds K fd ["table", "number", "further"] []) (T : Txt K mg)  : DefN P w K mg base "divided" 1 3 F_divided :=
  def_ofN ["table", "number", "further", "left", "other", "reached", "ways", "more"] ["table", "number", "further"] 0 1 3 8 rfl rfl rfl F hm hb sc_divided (m := m_divided) fun cdv A outer s H E hr => (ss_cons (ss_set sc_divided.nd (by kernel_rfl) (Or.inl (by kernel_rfl)) (se_callTyR xc_dcd (by unfold Gl; kernel_rfl) T.b_dict boo_dict (sa_cons (se_var 0 (by kernel_rfl) (Or.inl (by kernel_rfl))) sa_nil))) (ss_cons (ss_set sc_divided.nd (by kernel_rfl) (Or.inl (by kernel_rfl)) se_dicE) (ss_cons (ss_for PassesOwn.never rfl (si_seq (se_callB (xc_srt rfl) (by unfold Gl; kernel_rfl) T.b_sorted boo_sorted (sa_cons (se_var 0 (by kernel_rfl) (Or.inl (by kernel_rfl))) sa_nil))) (sg_name sc_divided.nd (by kernel_rfl) (Or.inl (by kernel_rfl))) (ss_cons (ss_set sc_divided.nd (by kernel_rfl) (Or.inl (by kernel_rfl)) (se_ix (xi_ixD hr) (se_var 3 (by kernel_rfl) (Or.inl (by kernel_rfl))) (se_var 5 (by kernel_rfl) (Or.inl (by kernel_rfl))))) (ss_one (ss_if (st_cmp xo_gt (se_var 6 (by kernel_rfl) (Or.inl (by kernel_rfl))) se_int) (ss_cons (ss_put (xs_putD hr) (se_var 6 (by kernel_rfl) (Or.inl (by kernel_rfl))) (se_var 4 (by kernel_rfl) (Or.inl (by kernel_rfl))) (se_op xo_add (se_var 5 (by kernel_rfl) (Or.inl (by kernel_rfl))) (se_var 1 (by kernel_rfl) (Or.inl (by kernel_rfl))))) (ss_one (ss_for PassesOwn.never rfl (si_seq (se_var 2 (by kernel_rfl) (Or.inl (by kernel_rfl)))) (sg_name sc_divided.nd (by kernel_rfl) (Or.inl (by kernel_rfl))) (ss_cons (ss_if (st_cmp xo_lt (se_get2 hr (se_var 3 (by kernel_rfl) (Or.inl (by kernel_rfl))) (se_op xo_add (se_var 5 (by kernel_rfl) (Or.inl (by kernel_rfl))) (se_var 7 (by kernel_rfl) (Or.inl (by kernel_rfl)))) se_int (m2_mk (by kernel_rfl) (by kernel_rfl) (by kernel_rfl) (by kernel_rfl))) (se_var 6 (by kernel_rfl) (Or.inl (by kernel_rfl)))) (ss_one (ss_ret se_non)) ss_nil) (ss_one (ss_put (xs_putD hr) (se_op xo_sub (se_ix (xi_ixD hr) (se_var 3 (by kernel_rfl) (Or.inl (by kernel_rfl))) (se_op xo_add (se_var 5 (by kernel_rfl) (Or.inl (by kernel_rfl))) (se_var 7 (by kernel_rfl) (Or.inl (by kernel_rfl))))) (se_var 6 (by kernel_rfl) (Or.inl (by kernel_rfl)))) (se_var 3 (by kernel_rfl) (Or.inl (by kernel_rfl))) (se_op xo_add (se_var 5 (by kernel_rfl) (Or.inl (by kernel_rfl))) (se_var 7 (by kernel_rfl) (Or.inl (by kernel_rfl)))))))))) ss_nil)))) (ss_one (ss_ret (se_var 4 (by kernel_rfl) (Or.inl (by kernel_rfl))))))))
theorem sc_need_number_n : FnScope ["thing"] ["thing"] (defScope st_need_number_n) := ⟨by kernel_rfl, by kernel_rfl, by kernel_rfl, by decide +kernel, rfl, by decide +kernel, by decide +kernel⟩
theorem ok_need_number_n {f : Addr} {fd : FuncData} (F : Fun K "need_number" "need_number" st_need_number_n f fd) (hm : mg "need_number" = some (.ref f)) (hb : Binds K fd ["thing"] []) (T : Txt K mg) (d_is_whole : DefN P w K mg base "is_whole" 1 1 F_is_whole) : DefN P w K mg base "need_number" 2 1 F_need_number_n :=
  def_ofN ["thing"] ["thing"] 1 2 1 1 rfl rfl rfl F hm hb sc_need_number_n (m := m_need_number_n) fun cdv A outer s H E hr => (ss_one (ss_if (st_not (st_val (se_fnN d_is_whole (hr.mono (by decide)) (by unfold Gl; kernel_rfl) (sa_cons (se_var 0 (by kernel_rfl) (Or.inl (by kernel_rfl))) sa_nil) (alen_cons alen_nil)))) (ss_one ss_never) ss_nil))
theorem sc_need_number_from_n : FnScope ["least", "thing"] ["least", "thing"] (defScope st_need_number_from_n) := ⟨by kernel_rfl, by kernel_rfl, by kernel_rfl, by decide +kernel, rfl, by decide +kernel, by decide +kernel⟩
theorem ok_need_number_from_n {f : Addr} {fd : FuncData} (F : Fun K "need_number_from" "need_number_from" st_need_number_from_n f fd) (hm : mg "need_number_from" = some (.ref f)) (hb : Binds K fd ["least", "thing"] []) (T : Txt K mg) (d_need_number_n : DefN P w K mg base "need_number" 2 1 F_need_number_n) : DefN P w K mg base "need_number_from" 3 2 F_need_number_from_n :=
  def_ofN ["least", "thing"] ["least", "thing"] 2 3 2 2 rfl rfl rfl F hm hb sc_need_number_from_n (m := m_need_number_from_n) fun cdv A outer s H E hr => (ss_cons (ss_expr (se_fnN d_need_number_n (hr.mono (by decide)) (by unfold Gl; kernel_rfl) (sa_cons (se_var 1 (by kernel_rfl) (Or.inl (by kernel_rfl))) sa_nil) (alen_cons alen_nil))) (ss_one (ss_if (st_cmp xo_lt (se_var 1 (by kernel_rfl) (Or.inl (by kernel_rfl))) (se_var 0 (by kernel_rfl) (Or.inl (by kernel_rfl)))) (ss_one ss_never) ss_nil)))
theorem sc_need_table_and_number_n : FnScope ["table", "number"] ["table", "number"] (defScope st_need_table_and_number_n) := ⟨by kernel_rfl, by kernel_rfl, by kernel_rfl, by decide +kernel, rfl, by decide +kernel, by decide +kernel⟩
theorem ok_need_table_and_number_n {f : Addr} {fd : FuncData} (F : Fun K "need_table_and_number" "need_table_and_number" st_need_table_and_number_n f fd) (hm : mg "need_table_and_number" = some (.ref f)) (hb : Binds K fd ["table", "number"] []) (T : Txt K mg) (d_need_number_from_n : DefN P w K mg base "need_number_from" 3 2 F_need_number_from_n) (d_need_table_n : DefN P w K mg base "need_table" 3 1 F_need_table_n) : DefN P w K mg base "need_table_and_number" 4 2 F_need_table_and_number_n :=
  def_ofN ["table", "number"] ["table", "number"] 3 4 2 2 rfl rfl rfl F hm hb sc_need_table_and_number_n (m := m_need_table_and_number_n) fun cdv A outer s H E hr => (ss_cons (ss_expr (se_fnN d_need_table_n (hr.mono (by decide)) (by unfold Gl; kernel_rfl) (sa_cons (se_var 0 (by kernel_rfl) (Or.inl (by kernel_rfl))) sa_nil) (alen_cons alen_nil))) (ss_one (ss_expr (se_fnN d_need_number_from_n (hr.mono (by decide)) (by unfold Gl; kernel_rfl) (sa_cons se_int (sa_cons (se_var 1 (by kernel_rfl) (Or.inl (by kernel_rfl))) sa_nil)) (alen_cons (alen_cons alen_nil))))))
theorem sc_part_taken_out_n : FnScope ["table", "number"] ["table", "number"] (defScope st_part_taken_out_n) := ⟨by kernel_rfl, by kernel_rfl, by kernel_rfl, by decide +kernel, rfl, by decide +kernel, by decide +kernel⟩
theorem ok_part_taken_out_n {f : Addr} {fd : FuncData} (F : Fun K "part_taken_out" "part_taken_out" st_part_taken_out_n f fd) (hm : mg "part_taken_out" = some (.ref f)) (hb : Binds K fd ["table", "number"] []) (T : Txt K mg) (d_divided : DefN P w K mg base "divided" 1 3 F_divided) (d_need_table_and_number_n : DefN P w K mg base "need_table_and_number" 4 2 F_need_table_and_number_n) : DefN P w K mg base "part_taken_out" 5 2 F_part_taken_out_n :=
  def_ofN ["table", "number"] ["table", "number"] 4 5 2 2 rfl rfl rfl F hm hb sc_part_taken_out_n (m := m_part_taken_out_n) fun cdv A outer s H E hr => (ss_cons (ss_expr (se_fnN d_need_table_and_number_n (hr.mono (by decide)) (by unfold Gl; kernel_rfl) (sa_cons (se_var 0 (by kernel_rfl) (Or.inl (by kernel_rfl))) (sa_cons (se_var 1 (by kernel_rfl) (Or.inl (by kernel_rfl))) sa_nil)) (alen_cons (alen_cons alen_nil)))) (ss_one (ss_ret (se_fnN d_divided (hr.mono (by decide)) (by unfold Gl; kernel_rfl) (sa_cons (se_var 0 (by kernel_rfl) (Or.inl (by kernel_rfl))) (sa_cons (se_var 1 (by kernel_rfl) (Or.inl (by kernel_rfl))) (sa_cons (se_tup (sa_cons (se_var 1 (by kernel_rfl) (Or.inl (by kernel_rfl))) (sa_cons (se_op xo_mul se_int (se_var 1 (by kernel_rfl) (Or.inl (by kernel_rfl)))) sa_nil))) sa_nil))) (alen_cons (alen_cons (alen_cons alen_nil)))))))
theorem sc_sign_table_n : FnScope ["row"] ["row"] (defScope st_sign_table_n) := ⟨by kernel_rfl, by kernel_rfl, by kernel_rfl, by decide +kernel, rfl, by decide +kernel, by decide +kernel⟩
theorem ok_sign_table_n {f : Addr} {fd : FuncData} (F : Fun K "sign_table" "sign_table" st_sign_table_n f fd) (hm : mg "sign_table" = some (.ref f)) (hb : Binds K fd ["row"] []) (T : Txt K mg) (d_need_few_n : DefN P w K mg base "need_few" 4 1 F_need_few_n) (d_table_of : DefN P w K mg base "table_of" 2 2 F_table_of) : DefN P w K mg base "sign_table" 5 1 F_sign_table_n :=
  def_ofN ["row"] ["row"] 4 5 1 1 rfl rfl rfl F hm hb sc_sign_table_n (m := m_sign_table_n) fun cdv A outer s H E hr => (ss_cons (ss_expr (se_fnN d_need_few_n (hr.mono (by decide)) (by unfold Gl; kernel_rfl) (sa_cons (se_var 0 (by kernel_rfl) (Or.inl (by kernel_rfl))) sa_nil) (alen_cons alen_nil))) (ss_one (ss_ret (se_fnN d_table_of (hr.mono (by decide)) (by unfold Gl; kernel_rfl) (sa_cons (se_var 0 (by kernel_rfl) (Or.inl (by kernel_rfl))) (sa_cons (se_gt T.m_SIGNS (by unfold Gl; kernel_rfl)) sa_nil)) (alen_cons (alen_cons alen_nil))))))
theorem sc_taken_out_n : FnScope ["table", "number"] ["table", "number"] (defScope st_taken_out_n) := ⟨by kernel_rfl, by kernel_rfl, by kernel_rfl, by decide +kernel, rfl, by decide +kernel, by decide +kernel⟩
theorem ok_taken_out_n {f : Addr} {fd : FuncData} (F : Fun K "taken_out" "taken_out" st_taken_out_n f fd) (hm : mg "taken_out" = some (.ref f)) (hb : Binds K fd ["table", "number"] []) (T : Txt K mg) (d_divided : DefN P w K mg base "divided" 1 3 F_divided) (d_need_table_and_number_n : DefN P w K mg base "need_table_and_number" 4 2 F_need_table_and_number_n) : DefN P w K mg base "taken_out" 5 2 F_taken_out_n :=
  def_ofN ["table", "number"] ["table", "number"] 4 5 2 2 rfl rfl rfl F hm hb sc_taken_out_n (m := m_taken_out_n) fun cdv A outer s H E hr => (ss_cons (ss_expr (se_fnN d_need_table_and_number_n (hr.mono (by decide)) (by unfold Gl; kernel_rfl) (sa_cons (se_var 0 (by kernel_rfl) (Or.inl (by kernel_rfl))) (sa_cons (se_var 1 (by kernel_rfl) (Or.inl (by kernel_rfl))) sa_nil)) (alen_cons (alen_cons alen_nil)))) (ss_one (ss_ret (se_fnN d_divided (hr.mono (by decide)) (by unfold Gl; kernel_rfl) (sa_cons (se_var 0 (by kernel_rfl) (Or.inl (by kernel_rfl))) (sa_cons (se_var 1 (by kernel_rfl) (Or.inl (by kernel_rfl))) (sa_cons (se_tup (sa_cons (se_op xo_mul se_int (se_var 1 (by kernel_rfl) (Or.inl (by kernel_rfl)))) sa_nil)) sa_nil))) (alen_cons (alen_cons (alen_cons alen_nil)))))))
theorem sc_without_n : FnScope ["row", "place"] ["row", "place"] (defScope st_without_n) := ⟨by kernel_rfl, by kernel_rfl, by kernel_rfl, by decide +kernel, rfl, by decide +kernel, by decide +kernel⟩
theorem ok_without_n {f : Addr} {fd : FuncData} (F : Fun K "without" "without" st_without_n f fd) (hm : mg "without" = some (.ref f)) (hb : Binds K fd ["row", "place"] []) (T : Txt K mg) (d_need_number_from_n : DefN P w K mg base "need_number_from" 3 2 F_need_number_from_n) (d_need_row_n : DefN P w K mg base "need_row" 3 1 F_need_row_n) : DefN P w K mg base "without" 4 2 F_without_n :=
  def_ofN ["row", "place"] ["row", "place"] 3 4 2 2 rfl rfl rfl F hm hb sc_without_n (m := m_without_n) fun cdv A outer s H E hr => (ss_cons (ss_expr (se_fnN d_need_row_n (hr.mono (by decide)) (by unfold Gl; kernel_rfl) (sa_cons (se_var 0 (by kernel_rfl) (Or.inl (by kernel_rfl))) sa_nil) (alen_cons alen_nil))) (ss_cons (ss_expr (se_fnN d_need_number_from_n (hr.mono (by decide)) (by unfold Gl; kernel_rfl) (sa_cons se_int (sa_cons (se_var 1 (by kernel_rfl) (Or.inl (by kernel_rfl))) sa_nil)) (alen_cons (alen_cons alen_nil)))) (ss_cons (ss_if (st_cmp xo_ge (se_var 1 (by kernel_rfl) (Or.inl (by kernel_rfl))) (se_callB xc_len (by unfold Gl; kernel_rfl) T.b_len boo_len (sa_cons (se_var 0 (by kernel_rfl) (Or.inl (by kernel_rfl))) sa_nil))) (ss_one ss_never) ss_nil) (ss_one (ss_ret (se_op xo_add (se_sl xl_tup (se_var 0 (by kernel_rfl) (Or.inl (by kernel_rfl))) so_none (so_some (se_var 1 (by kernel_rfl) (Or.inl (by kernel_rfl))))) (se_sl xl_tup (se_var 0 (by kernel_rfl) (Or.inl (by kernel_rfl))) (so_some (se_op xo_add (se_var 1 (by kernel_rfl) (Or.inl (by kernel_rfl))) se_int)) so_none)))))))
theorem sc__law_place_right_n : FnScope ["row", "place", "number", "rest", "signs", "parts", "one"] ["row", "place"] (defScope st__law_place_right_n) := ⟨by kernel_rfl, by kernel_rfl, by kernel_rfl, by decide +kernel, rfl, by decide +kernel, by decide +kernel⟩
theorem ok__law_place_right_n {f : Addr} {fd : FuncData} (F : Fun K "_law_place_right" "_law_place_right" st__law_place_right_n f fd) (hm : mg "_law_place_right" = some (.ref f)) (hb : Binds K fd ["row", "place"] []) (T : Txt K mg) (d_multiplied_n : DefN P w K mg base "multiplied" 4 2 F_multiplied_n) (d_part_table_n : DefN P w K mg base "part_table" 5 1 F_part_table_n) (d_part_taken_out_n : DefN P w K mg base "part_taken_out" 5 2 F_part_taken_out_n) (d_sign_table_n : DefN P w K mg base "sign_table" 5 1 F_sign_table_n) (d_taken_out_n : DefN P w K mg base "taken_out" 5 2 F_taken_out_n) (d_without_n : DefN P w K mg base "without" 4 2 F_without_n) : DefN P w K mg base "_law_place_right" 6 2 F__law_place_right_n :=
  def_ofN ["row", "place", "number", "rest", "signs", "parts", "one"] ["row", "place"] 5 6 2 7 rfl rfl rfl F hm hb sc__law_place_right_n (m := m__law_place_right_n) fun cdv A outer s H E hr => (ss_cons (ss_par rfl sc__law_place_right_n.nd (by kernel_rfl) (by kernel_rfl) (by decide) (by kernel_rfl) (by kernel_rfl) (sa_cons (se_ix xi_ix (se_var 0 (by kernel_rfl) (Or.inl (by kernel_rfl))) (se_var 1 (by kernel_rfl) (Or.inl (by kernel_rfl)))) (sa_cons (se_fnN d_without_n (hr.mono (by decide)) (by unfold Gl; kernel_rfl) (sa_cons (se_var 0 (by kernel_rfl) (Or.inl (by kernel_rfl))) (sa_cons (se_var 1 (by kernel_rfl) (Or.inl (by kernel_rfl))) sa_nil)) (alen_cons (alen_cons alen_nil))) sa_nil))) (ss_cons (ss_par rfl sc__law_place_right_n.nd (by kernel_rfl) (by kernel_rfl) (by decide) (by kernel_rfl) (by kernel_rfl) (sa_cons (se_fnN d_taken_out_n (hr.mono (by decide)) (by unfold Gl; kernel_rfl) (sa_cons (se_fnN d_sign_table_n (hr.mono (by decide)) (by unfold Gl; kernel_rfl) (sa_cons (se_var 0 (by kernel_rfl) (Or.inl (by kernel_rfl))) sa_nil) (alen_cons alen_nil)) (sa_cons (se_var 2 (by kernel_rfl) (Or.inl (by kernel_rfl))) sa_nil)) (alen_cons (alen_cons alen_nil))) (sa_cons (se_fnN d_part_taken_out_n (hr.mono (by decide)) (by unfold Gl; kernel_rfl) (sa_cons (se_fnN d_part_table_n (hr.mono (by decide)) (by unfold Gl; kernel_rfl) (sa_cons (se_var 0 (by kernel_rfl) (Or.inl (by kernel_rfl))) sa_nil) (alen_cons alen_nil)) (sa_cons (se_var 2 (by kernel_rfl) (Or.inl (by kernel_rfl))) sa_nil)) (alen_cons (alen_cons alen_nil))) sa_nil))) (ss_cons (ss_if (sw_st (sw_or (st_cmp (xo_neD hr) (se_var 4 (by kernel_rfl) (Or.inl (by kernel_rfl))) (se_fnN d_sign_table_n (hr.mono (by decide)) (by unfold Gl; kernel_rfl) (sa_cons (se_var 3 (by kernel_rfl) (Or.inl (by kernel_rfl))) sa_nil) (alen_cons alen_nil))) (sw_or1 (st_cmp (xo_neD hr) (se_var 5 (by kernel_rfl) (Or.inl (by kernel_rfl))) (se_fnN d_part_table_n (hr.mono (by decide)) (by unfold Gl; kernel_rfl) (sa_cons (se_var 3 (by kernel_rfl) (Or.inl (by kernel_rfl))) sa_nil) (alen_cons alen_nil)))))) (ss_one (ss_ret se_bl)) ss_nil) (ss_cons (ss_set sc__law_place_right_n.nd (by kernel_rfl) (Or.inl (by kernel_rfl)) (se_dicN (sps_cons (se_var 2 (by kernel_rfl) (Or.inl (by kernel_rfl))) se_int sps_nil))) (ss_cons (ss_put (xs_putD hr) se_int (se_var 6 (by kernel_rfl) (Or.inl (by kernel_rfl))) (se_op xo_sub se_int (se_var 2 (by kernel_rfl) (Or.inl (by kernel_rfl))))) (ss_cons (ss_if (st_cmp (xo_neD hr) (se_thaw (se_fnN d_multiplied_n (hr.mono (by decide)) (by unfold Gl; kernel_rfl) (sa_cons (se_var 4 (by kernel_rfl) (Or.inl (by kernel_rfl))) (sa_cons (se_var 6 (by kernel_rfl) (Or.inl (by kernel_rfl))) sa_nil)) (alen_cons (alen_cons alen_nil)))) (se_fnN d_sign_table_n (hr.mono (by decide)) (by unfold Gl; kernel_rfl) (sa_cons (se_var 0 (by kernel_rfl) (Or.inl (by kernel_rfl))) sa_nil) (alen_cons alen_nil))) (ss_one (ss_ret se_bl)) ss_nil) (ss_cons (ss_put (xs_putD hr) se_int (se_var 6 (by kernel_rfl) (Or.inl (by kernel_rfl))) se_int) (ss_one (ss_ret (se_cmp (xo_eqD hr) (se_fnN d_multiplied_n (hr.mono (by decide)) (by unfold Gl; kernel_rfl) (sa_cons (se_var 5 (by kernel_rfl) (Or.inl (by kernel_rfl))) (sa_cons (se_var 6 (by kernel_rfl) (Or.inl (by kernel_rfl))) sa_nil)) (alen_cons (alen_cons alen_nil))) (se_fnN d_part_table_n (hr.mono (by decide)) (by unfold Gl; kernel_rfl) (sa_cons (se_var 0 (by kernel_rfl) (Or.inl (by kernel_rfl))) sa_nil) (alen_cons alen_nil))))))))))))
theorem sc__law_row : FnScope ["box", "most", "many", "kind", "base", "found", "k", "given"] ["box", "most"] (defScope st__law_row) := ⟨by kernel_rfl, by kernel_rfl, by kernel_rfl, by decide +kernel, rfl, by decide +kernel, by decide +kernel⟩
theorem ok__law_row {f : Addr} {fd : FuncData} (F : Fun K "_law_row" "_law_row" st__law_row f fd) (hm : mg "_law_row" = some (.ref f)) (hb : Binds K fd ["box", "most"] []) (T : Txt K mg) (d__law_take : DefN P w K mg base "_law_take" 1 2 F__law_take) : DefN P w K mg base "_law_row" 2 2 F__law_row :=
  def_ofN ["box", "most", "many", "kind", "base", "found", "k", "given"] ["box", "most"] 1 2 2 8 rfl rfl rfl F hm hb sc__law_row (m := m__law_row) fun cdv A outer s H E hr => (ss_cons (ss_set sc__law_row.nd (by kernel_rfl) (Or.inl (by kernel_rfl)) (se_fnN d__law_take (hr.mono (by decide)) (by unfold Gl; kernel_rfl) (sa_cons (se_var 0 (by kernel_rfl) (Or.inl (by kernel_rfl))) (sa_cons (se_op xo_add (se_var 1 (by kernel_rfl) (Or.inl (by kernel_rfl))) se_int) sa_nil)) (alen_cons (alen_cons alen_nil)))) (ss_cons (ss_set sc__law_row.nd (by kernel_rfl) (Or.inl (by kernel_rfl)) (se_fnN d__law_take (hr.mono (by decide)) (by unfold Gl; kernel_rfl) (sa_cons (se_var 0 (by kernel_rfl) (Or.inl (by kernel_rfl))) (sa_cons se_int sa_nil)) (alen_cons (alen_cons alen_nil)))) (ss_cons (ss_set sc__law_row.nd (by kernel_rfl) (Or.inl (by kernel_rfl)) (se_op xo_add se_int (se_fnN d__law_take (hr.mono (by decide)) (by unfold Gl; kernel_rfl) (sa_cons (se_var 0 (by kernel_rfl) (Or.inl (by kernel_rfl))) (sa_cons se_int sa_nil)) (alen_cons (alen_cons alen_nil))))) (ss_cons (ss_set sc__law_row.nd (by kernel_rfl) (Or.inl (by kernel_rfl)) (se_new sa_nil)) (ss_cons (ss_for PassesOwn.never rfl (si_range1 (by unfold Gl; kernel_rfl) T.b_range (sa_cons (se_var 2 (by kernel_rfl) (Or.inl (by kernel_rfl))) sa_nil)) (sg_name sc__law_row.nd (by kernel_rfl) (Or.inl (by kernel_rfl))) (ss_cons (ss_set sc__law_row.nd (by kernel_rfl) (Or.inl (by kernel_rfl)) (se_op xo_add se_int (se_fnN d__law_take (hr.mono (by decide)) (by unfold Gl; kernel_rfl) (sa_cons (se_var 0 (by kernel_rfl) (Or.inl (by kernel_rfl))) (sa_cons se_int sa_nil)) (alen_cons (alen_cons alen_nil))))) (ss_one (ss_expr (se_mtL PySem.F.plainAttrs_list PySem.F.slot_list_append PySem.F.type_list_append xm_append (se_var 5 (by kernel_rfl) (Or.inl (by kernel_rfl))) (sa_cons (se_ix xi_ix (se_lst (sa_cons (se_var 7 (by kernel_rfl) (Or.inl (by kernel_rfl))) (sa_cons (se_var 7 (by kernel_rfl) (Or.inl (by kernel_rfl))) (sa_cons (se_var 4 (by kernel_rfl) (Or.inl (by kernel_rfl))) (sa_cons (se_op xo_shl se_int (se_var 6 (by kernel_rfl) (Or.inl (by kernel_rfl)))) (sa_cons (se_op xo_add (se_var 4 (by kernel_rfl) (Or.inl (by kernel_rfl))) (se_op xo_mul (se_var 6 (by kernel_rfl) (Or.inl (by kernel_rfl))) (se_var 7 (by kernel_rfl) (Or.inl (by kernel_rfl))))) (sa_cons (se_op xo_add (se_op xo_mul (se_op xo_pow se_int se_int) (se_var 7 (by kernel_rfl) (Or.inl (by kernel_rfl)))) (se_var 4 (by kernel_rfl) (Or.inl (by kernel_rfl)))) sa_nil))))))) (se_var 3 (by kernel_rfl) (Or.inl (by kernel_rfl)))) sa_nil)))))) (ss_one (ss_ret (se_callTy xc_tuple (by unfold Gl; kernel_rfl) T.b_tuple boo_tuple (sa_cons (se_var 5 (by kernel_rfl) (Or.inl (by kernel_rfl))) sa_nil)))))))))
theorem sc_grown_n : FnScope ["row", "by"] ["row", "by"] (defScope st_grown_n) := ⟨by kernel_rfl, by kernel_rfl, by kernel_rfl, by decide +kernel, rfl, by decide +kernel, by decide +kernel⟩
theorem ok_grown_n {f : Addr} {fd : FuncData} (F : Fun K "grown" "grown" st_grown_n f fd) (hm : mg "grown" = some (.ref f)) (hb : Binds K fd ["row", "by"] []) (T : Txt K mg) (d_need_number_from_n : DefN P w K mg base "need_number_from" 3 2 F_need_number_from_n) (d_need_row_n : DefN P w K mg base "need_row" 3 1 F_need_row_n) : DefN P w K mg base "grown" 4 2 F_grown_n :=
  def_ofN ["row", "by"] ["row", "by"] 3 4 2 2 rfl rfl rfl F hm hb sc_grown_n (m := m_grown_n) fun cdv A outer s H E hr => (ss_cons (ss_expr (se_fnN d_need_row_n (hr.mono (by decide)) (by unfold Gl; kernel_rfl) (sa_cons (se_var 0 (by kernel_rfl) (Or.inl (by kernel_rfl))) sa_nil) (alen_cons alen_nil))) (ss_cons (ss_expr (se_fnN d_need_number_from_n (hr.mono (by decide)) (by unfold Gl; kernel_rfl) (sa_cons se_int (sa_cons (se_var 1 (by kernel_rfl) (Or.inr (Or.inl (by kernel_rfl)))) sa_nil)) (alen_cons (alen_cons alen_nil)))) (ss_one (ss_ret (se_callTy xc_tuple (by unfold Gl; kernel_rfl) T.b_tuple boo_tuple (sa_cons (se_comp (N := ["number", "by"]) (k := 1) (caps := [1]) rfl (fun _ _ z => z) (cs_mk (by kernel_rfl) (by kernel_rfl) (by kernel_rfl) (by kernel_rfl) rfl (by kernel_rfl)) (si_seq (se_var 0 (by kernel_rfl) (Or.inl (by kernel_rfl)))) (fun _ _ _ _ => (sg_name (show (["number", "by"] : List Str).Nodup by decide +kernel) (by kernel_rfl) (Or.inl (by kernel_rfl)))) (fun _ _ _ _ => sif_nil) (fun _ _ _ _ => (se_op xo_mul (se_var 0 (by kernel_rfl) (Or.inl (by kernel_rfl))) (se_var 1 (by kernel_rfl) (Or.inr (Or.inl (by kernel_rfl))))))) sa_nil))))))
theorem sc_joined_n : FnScope ["one", "other"] ["one", "other"] (defScope st_joined_n) := ⟨by kernel_rfl, by kernel_rfl, by kernel_rfl, by decide +kernel, rfl, by decide +kernel, by decide +kernel⟩
theorem ok_joined_n {f : Addr} {fd : FuncData} (F : Fun K "joined" "joined" st_joined_n f fd) (hm : mg "joined" = some (.ref f)) (hb : Binds K fd ["one", "other"] []) (T : Txt K mg) (d_need_row_n : DefN P w K mg base "need_row" 3 1 F_need_row_n) : DefN P w K mg base "joined" 4 2 F_joined_n :=
  def_ofN ["one", "other"] ["one", "other"] 3 4 2 2 rfl rfl rfl F hm hb sc_joined_n (m := m_joined_n) fun cdv A outer s H E hr => (ss_cons (ss_expr (se_fnN d_need_row_n (hr.mono (by decide)) (by unfold Gl; kernel_rfl) (sa_cons (se_var 0 (by kernel_rfl) (Or.inl (by kernel_rfl))) sa_nil) (alen_cons alen_nil))) (ss_cons (ss_expr (se_fnN d_need_row_n (hr.mono (by decide)) (by unfold Gl; kernel_rfl) (sa_cons (se_var 1 (by kernel_rfl) (Or.inl (by kernel_rfl))) sa_nil) (alen_cons alen_nil))) (ss_cons (ss_if (st_cmp xo_gt (se_op xo_add (se_callB xc_len (by unfold Gl; kernel_rfl) T.b_len boo_len (sa_cons (se_var 0 (by kernel_rfl) (Or.inl (by kernel_rfl))) sa_nil)) (se_callB xc_len (by unfold Gl; kernel_rfl) T.b_len boo_len (sa_cons (se_var 1 (by kernel_rfl) (Or.inl (by kernel_rfl))) sa_nil))) (se_gi T.c_LONGEST_ROW (by unfold Gl; kernel_rfl))) (ss_one ss_never) ss_nil) (ss_one (ss_ret (se_op xo_add (se_var 0 (by kernel_rfl) (Or.inl (by kernel_rfl))) (se_var 1 (by kernel_rfl) (Or.inl (by kernel_rfl)))))))))
theorem sc_are_whole : FnScope ["thing", "many"] ["thing", "many"] (defScope st_are_whole) := ⟨by kernel_rfl, by kernel_rfl, by kernel_rfl, by decide +kernel, rfl, by decide +kernel, by decide +kernel⟩
theorem ok_are_whole {f : Addr} {fd : FuncData} (F : Fun K "are_whole" "are_whole" st_are_whole f fd) (hm : mg "are_whole" = some (.ref f)) (hb : Binds K fd ["thing", "many"] []) (T : Txt K mg) (d_is_whole : DefN P w K mg base "is_whole" 1 1 F_is_whole) : DefN P w K mg base "are_whole" 2 2 F_are_whole :=
  def_ofN ["thing", "many"] ["thing", "many"] 1 2 2 2 rfl rfl rfl F hm hb sc_are_whole (m := m_are_whole) fun cdv A outer s H E hr => (ss_one (ss_ret (se_and (se_callB xc_isi (by unfold Gl; kernel_rfl) T.b_isinstance boo_isinstance (sa_cons (se_var 0 (by kernel_rfl) (Or.inl (by kernel_rfl))) (sa_cons (se_ty (by unfold Gl; kernel_rfl) T.b_tuple boo_tuple) sa_nil))) (se_and (se_cmp (xo_eqP hr) (se_callB xc_len (by unfold Gl; kernel_rfl) T.b_len boo_len (sa_cons (se_var 0 (by kernel_rfl) (Or.inl (by kernel_rfl))) sa_nil)) (se_var 1 (by kernel_rfl) (Or.inl (by kernel_rfl)))) (se_one (se_callB (xc_all rfl) (by unfold Gl; kernel_rfl) T.b_all boo_all (sa_cons (se_comp (N := ["number"]) (k := 1) (caps := []) rfl (fun _ _ z => z) (cs_mk (by kernel_rfl) (by kernel_rfl) (by kernel_rfl) (by kernel_rfl) rfl (by kernel_rfl)) (si_seq (se_var 0 (by kernel_rfl) (Or.inl (by kernel_rfl)))) (fun _ _ _ _ => (sg_name (show (["number"] : List Str).Nodup by decide +kernel) (by kernel_rfl) (Or.inl (by kernel_rfl)))) (fun _ _ _ _ => sif_nil) (fun _ _ _ _ => (se_fnN d_is_whole (hr.mono (by decide)) (by unfold Gl; kernel_rfl) (sa_cons (se_var 0 (by kernel_rfl) (Or.inl (by kernel_rfl))) sa_nil) (alen_cons alen_nil)))) sa_nil)))))))
theorem sc_is_order : FnScope ["thing", "row"] ["thing", "row"] (defScope st_is_order) := ⟨by kernel_rfl, by kernel_rfl, by kernel_rfl, by decide +kernel, rfl, by decide +kernel, by decide +kernel⟩
theorem ok_is_order {f : Addr} {fd : FuncData} (F : Fun K "is_order" "is_order" st_is_order f fd) (hm : mg "is_order" = some (.ref f)) (hb : Binds K fd ["thing", "row"] []) (T : Txt K mg) (d_are_whole : DefN P w K mg base "are_whole" 2 2 F_are_whole) : DefN P w K mg base "is_order" 3 2 F_is_order :=
  def_ofN ["thing", "row"] ["thing", "row"] 2 3 2 2 rfl rfl rfl F hm hb sc_is_order (m := m_is_order) fun cdv A outer s H E hr => (ss_one (ss_ret (se_and (se_fnN d_are_whole (hr.mono (by decide)) (by unfold Gl; kernel_rfl) (sa_cons (se_var 0 (by kernel_rfl) (Or.inl (by kernel_rfl))) (sa_cons (se_callB xc_len (by unfold Gl; kernel_rfl) T.b_len boo_len (sa_cons (se_var 1 (by kernel_rfl) (Or.inl (by kernel_rfl))) sa_nil)) sa_nil)) (alen_cons (alen_cons alen_nil))) (se_one (se_cmp (xo_eqP hr) (se_callB (xc_srt rfl) (by unfold Gl; kernel_rfl) T.b_sorted boo_sorted (sa_cons (se_var 0 (by kernel_rfl) (Or.inl (by kernel_rfl))) sa_nil)) (se_lrg rfl (by unfold Gl; kernel_rfl) T.b_list (by unfold Gl; kernel_rfl) T.b_range (sa_cons (se_callB xc_len (by unfold Gl; kernel_rfl) T.b_len boo_len (sa_cons (se_var 1 (by kernel_rfl) (Or.inl (by kernel_rfl))) sa_nil)) sa_nil)))))))
theorem sc_mixed_n : FnScope ["row", "order"] ["row", "order"] (defScope st_mixed_n) := ⟨by kernel_rfl, by kernel_rfl, by kernel_rfl, by decide +kernel, rfl, by decide +kernel, by decide +kernel⟩
theorem ok_mixed_n {f : Addr} {fd : FuncData} (F : Fun K "mixed" "mixed" st_mixed_n f fd) (hm : mg "mixed" = some (.ref f)) (hb : Binds K fd ["row", "order"] []) (T : Txt K mg) (d_is_order : DefN P w K mg base "is_order" 3 2 F_is_order) (d_need_row_n : DefN P w K mg base "need_row" 3 1 F_need_row_n) : DefN P w K mg base "mixed" 4 2 F_mixed_n :=
  def_ofN ["row", "order"] ["row", "order"] 3 4 2 2 rfl rfl rfl F hm hb sc_mixed_n (m := m_mixed_n) fun cdv A outer s H E hr => (ss_cons (ss_expr (se_fnN d_need_row_n (hr.mono (by decide)) (by unfold Gl; kernel_rfl) (sa_cons (se_var 0 (by kernel_rfl) (Or.inr (Or.inl (by kernel_rfl)))) sa_nil) (alen_cons alen_nil))) (ss_cons (ss_if (st_not (st_val (se_fnN d_is_order (hr.mono (by decide)) (by unfold Gl; kernel_rfl) (sa_cons (se_var 1 (by kernel_rfl) (Or.inl (by kernel_rfl))) (sa_cons (se_var 0 (by kernel_rfl) (Or.inr (Or.inl (by kernel_rfl)))) sa_nil)) (alen_cons (alen_cons alen_nil))))) (ss_one ss_never) ss_nil) (ss_one (ss_ret (se_callTy xc_tuple (by unfold Gl; kernel_rfl) T.b_tuple boo_tuple (sa_cons (se_comp (N := ["place", "row"]) (k := 1) (caps := [0]) rfl (fun _ _ z => z) (cs_mk (by kernel_rfl) (by kernel_rfl) (by kernel_rfl) (by kernel_rfl) rfl (by kernel_rfl)) (si_seq (se_var 1 (by kernel_rfl) (Or.inl (by kernel_rfl)))) (fun _ _ _ _ => (sg_name (show (["place", "row"] : List Str).Nodup by decide +kernel) (by kernel_rfl) (Or.inl (by kernel_rfl)))) (fun _ _ _ _ => sif_nil) (fun _ _ _ _ => (se_ix xi_ix (se_var 1 (by kernel_rfl) (Or.inr (Or.inl (by kernel_rfl)))) (se_var 0 (by kernel_rfl) (Or.inl (by kernel_rfl)))))) sa_nil))))))
theorem sc_shifted_n : FnScope ["table", "by"] ["table", "by"] (defScope st_shifted_n) := ⟨by kernel_rfl, by kernel_rfl, by kernel_rfl, by decide +kernel, rfl, by decide +kernel, by decide +kernel⟩
theorem ok_shifted_n {f : Addr} {fd : FuncData} (F : Fun K "shifted" "shifted" st_shifted_n f fd) (hm : mg "shifted" = some (.ref f)) (hb : Binds K fd ["table", "by"] []) (T : Txt K mg) (d_need_number_n : DefN P w K mg base "need_number" 2 1 F_need_number_n) (d_need_table_n : DefN P w K mg base "need_table" 3 1 F_need_table_n) : DefN P w K mg base "shifted" 4 2 F_shifted_n :=
  def_ofN ["table", "by"] ["table", "by"] 3 4 2 2 rfl rfl rfl F hm hb sc_shifted_n (m := m_shifted_n) fun cdv A outer s H E hr => (ss_cons (ss_expr (se_fnN d_need_table_n (hr.mono (by decide)) (by unfold Gl; kernel_rfl) (sa_cons (se_var 0 (by kernel_rfl) (Or.inl (by kernel_rfl))) sa_nil) (alen_cons alen_nil))) (ss_cons (ss_expr (se_fnN d_need_number_n (hr.mono (by decide)) (by unfold Gl; kernel_rfl) (sa_cons (se_var 1 (by kernel_rfl) (Or.inr (Or.inl (by kernel_rfl)))) sa_nil) (alen_cons alen_nil))) (ss_one (ss_ret (se_callTyR (xc_dcp rfl) (by unfold Gl; kernel_rfl) T.b_dict boo_dict (sa_cons (se_comp (N := ["reached", "ways", "by"]) (k := 2) (caps := [1]) rfl (fun _ _ z => z) (cs_mk (by kernel_rfl) (by kernel_rfl) (by kernel_rfl) (by kernel_rfl) rfl (by kernel_rfl)) (si_items (se_var 0 (by kernel_rfl) (Or.inl (by kernel_rfl)))) (fun _ _ _ _ => (sg_tup rfl (sgs_cons (sg_name (show (["reached", "ways", "by"] : List Str).Nodup by decide +kernel) (by kernel_rfl) (Or.inl (by kernel_rfl))) (sgs_cons (sg_name (show (["reached", "ways", "by"] : List Str).Nodup by decide +kernel) (by kernel_rfl) (Or.inl (by kernel_rfl))) sgs_nil)))) (fun _ _ _ _ => sif_nil) (fun _ _ _ _ => (se_tup (sa_cons (se_op xo_add (se_var 0 (by kernel_rfl) (Or.inl (by kernel_rfl))) (se_var 2 (by kernel_rfl) (Or.inr (Or.inl (by kernel_rfl))))) (sa_cons (se_var 1 (by kernel_rfl) (Or.inl (by kernel_rfl))) sa_nil))))) sa_nil))))))
theorem sc_need_row_and_number_n : FnScope ["row", "number"] ["row", "number"] (defScope st_need_row_and_number_n) := ⟨by kernel_rfl, by kernel_rfl, by kernel_rfl, by decide +kernel, rfl, by decide +kernel, by decide +kernel⟩
theorem ok_need_row_and_number_n {f : Addr} {fd : FuncData} (F : Fun K "need_row_and_number" "need_row_and_number" st_need_row_and_number_n f fd) (hm : mg "need_row_and_number" = some (.ref f)) (hb : Binds K fd ["row", "number"] []) (T : Txt K mg) (d_need_number_n : DefN P w K mg base "need_number" 2 1 F_need_number_n) (d_need_row_n : DefN P w K mg base "need_row" 3 1 F_need_row_n) : DefN P w K mg base "need_row_and_number" 4 2 F_need_row_and_number_n :=
  def_ofN ["row", "number"] ["row", "number"] 3 4 2 2 rfl rfl rfl F hm hb sc_need_row_and_number_n (m := m_need_row_and_number_n) fun cdv A outer s H E hr => (ss_cons (ss_expr (se_fnN d_need_row_n (hr.mono (by decide)) (by unfold Gl; kernel_rfl) (sa_cons (se_var 0 (by kernel_rfl) (Or.inl (by kernel_rfl))) sa_nil) (alen_cons alen_nil))) (ss_one (ss_expr (se_fnN d_need_number_n (hr.mono (by decide)) (by unfold Gl; kernel_rfl) (sa_cons (se_var 1 (by kernel_rfl) (Or.inl (by kernel_rfl))) sa_nil) (alen_cons alen_nil)))))
theorem sc_halves_of : FnScope ["row", "middle"] ["row"] (defScope st_halves_of) := ⟨by kernel_rfl, by kernel_rfl, by kernel_rfl, by decide +kernel, rfl, by decide +kernel, by decide +kernel⟩
theorem ok_halves_of {f : Addr} {fd : FuncData} (F : Fun K "halves_of" "halves_of" st_halves_of f fd) (hm : mg "halves_of" = some (.ref f)) (hb : Binds K fd ["row"] []) (T : Txt K mg)  : DefN P w K mg base "halves_of" 1 1 F_halves_of :=
  def_ofN ["row", "middle"] ["row"] 0 1 1 2 rfl rfl rfl F hm hb sc_halves_of (m := m_halves_of) fun cdv A outer s H E hr => (ss_cons (ss_set sc_halves_of.nd (by kernel_rfl) (Or.inl (by kernel_rfl)) (se_op xo_fdiv (se_callB xc_len (by unfold Gl; kernel_rfl) T.b_len boo_len (sa_cons (se_var 0 (by kernel_rfl) (Or.inl (by kernel_rfl))) sa_nil)) se_int)) (ss_one (ss_ret (se_tup (sa_cons (se_sl xl_tup (se_var 0 (by kernel_rfl) (Or.inl (by kernel_rfl))) so_none (so_some (se_var 1 (by kernel_rfl) (Or.inl (by kernel_rfl))))) (sa_cons (se_sl xl_tup (se_var 0 (by kernel_rfl) (Or.inl (by kernel_rfl))) (so_some (se_var 1 (by kernel_rfl) (Or.inl (by kernel_rfl)))) so_none) sa_nil))))))
theorem sc_half_worths_n : FnScope ["row"] ["row"] (defScope st_half_worths_n) := ⟨by kernel_rfl, by kernel_rfl, by kernel_rfl, by decide +kernel, rfl, by decide +kernel, by decide +kernel⟩
theorem ok_half_worths_n {f : Addr} {fd : FuncData} (F : Fun K "half_worths" "half_worths" st_half_worths_n f fd) (hm : mg "half_worths" = some (.ref f)) (hb : Binds K fd ["row"] []) (T : Txt K mg) (d_halves_of : DefN P w K mg base "halves_of" 1 1 F_halves_of) (d_need_row_n : DefN P w K mg base "need_row" 3 1 F_need_row_n) (d_table_of : DefN P w K mg base "table_of" 2 2 F_table_of) : DefN P w K mg base "half_worths" 4 1 F_half_worths_n :=
  def_ofN ["row"] ["row"] 3 4 1 1 rfl rfl rfl F hm hb sc_half_worths_n (m := m_half_worths_n) fun cdv A outer s H E hr => (ss_cons (ss_expr (se_fnN d_need_row_n (hr.mono (by decide)) (by unfold Gl; kernel_rfl) (sa_cons (se_var 0 (by kernel_rfl) (Or.inl (by kernel_rfl))) sa_nil) (alen_cons alen_nil))) (ss_one (ss_ret (se_callTy xc_tuple (by unfold Gl; kernel_rfl) T.b_tuple boo_tuple (sa_cons (se_comp (N := ["half"]) (k := 1) (caps := []) rfl (fun _ _ z => z) (cs_mk (by kernel_rfl) (by kernel_rfl) (by kernel_rfl) (by kernel_rfl) rfl (by kernel_rfl)) (si_seq (se_fnN d_halves_of (hr.mono (by decide)) (by unfold Gl; kernel_rfl) (sa_cons (se_var 0 (by kernel_rfl) (Or.inl (by kernel_rfl))) sa_nil) (alen_cons alen_nil))) (fun _ _ _ _ => (sg_name (show (["half"] : List Str).Nodup by decide +kernel) (by kernel_rfl) (Or.inl (by kernel_rfl)))) (fun _ _ _ _ => sif_nil) (fun _ _ _ _ => (se_callTy xc_tuple (by unfold Gl; kernel_rfl) T.b_tuple boo_tuple (sa_cons (se_callB (xc_srt rfl) (by unfold Gl; kernel_rfl) T.b_sorted boo_sorted (sa_cons (se_fnN d_table_of (hr.mono (by decide)) (by unfold Gl; kernel_rfl) (sa_cons (se_var 0 (by kernel_rfl) (Or.inl (by kernel_rfl))) (sa_cons (se_gt T.m_SIGNS (by unfold Gl; kernel_rfl)) sa_nil)) (alen_cons (alen_cons alen_nil))) sa_nil)) sa_nil)))) sa_nil)))))
theorem sc_walk_n : FnScope ["row", "number", "worths", "walked", "i", "j", "both"] ["row", "number"] (defScope st_walk_n) := ⟨by kernel_rfl, by kernel_rfl, by kernel_rfl, by decide +kernel, rfl, by decide +kernel, by decide +kernel⟩
theorem ok_walk_n {f : Addr} {fd : FuncData} (F : Fun K "walk" "walk" st_walk_n f fd) (hm : mg "walk" = some (.ref f)) (hb : Binds K fd ["row", "number"] []) (T : Txt K mg) (d_half_worths_n : DefN P w K mg base "half_worths" 4 1 F_half_worths_n) : DefN P w K mg base "walk" 5 2 F_walk_n :=
  def_ofN ["row", "number", "worths", "walked", "i", "j", "both"] ["row", "number"] 4 5 2 7 rfl rfl rfl F hm hb sc_walk_n (m := m_walk_n) fun cdv A outer s H E hr => (ss_cons (ss_set sc_walk_n.nd (by kernel_rfl) (Or.inl (by kernel_rfl)) (se_fnN d_half_worths_n (hr.mono (by decide)) (by unfold Gl; kernel_rfl) (sa_cons (se_var 0 (by kernel_rfl) (Or.inl (by kernel_rfl))) sa_nil) (alen_cons alen_nil))) (ss_cons (ss_set sc_walk_n.nd (by kernel_rfl) (Or.inl (by kernel_rfl)) (se_new sa_nil)) (ss_cons (ss_set sc_walk_n.nd (by kernel_rfl) (Or.inl (by kernel_rfl)) se_int) (ss_cons (ss_set sc_walk_n.nd (by kernel_rfl) (Or.inl (by kernel_rfl)) (se_op xo_sub (se_callB xc_len (by unfold Gl; kernel_rfl) T.b_len boo_len (sa_cons (se_ix xi_ix (se_var 2 (by kernel_rfl) (Or.inl (by kernel_rfl))) se_int) sa_nil)) se_int)) (ss_cons (ss_while PassesOwn.never (sw_st (sw_and (st_cmp xo_lt (se_var 4 (by kernel_rfl) (Or.inl (by kernel_rfl))) (se_callB xc_len (by unfold Gl; kernel_rfl) T.b_len boo_len (sa_cons (se_ix xi_ix (se_var 2 (by kernel_rfl) (Or.inl (by kernel_rfl))) se_int) sa_nil))) (sw_and1 (st_cmp xo_ge (se_var 5 (by kernel_rfl) (Or.inl (by kernel_rfl))) se_int)))) (ss_cons (ss_set sc_walk_n.nd (by kernel_rfl) (Or.inl (by kernel_rfl)) (se_op xo_add (se_ix xi_ix (se_ix xi_ix (se_var 2 (by kernel_rfl) (Or.inl (by kernel_rfl))) se_int) (se_var 4 (by kernel_rfl) (Or.inl (by kernel_rfl)))) (se_ix xi_ix (se_ix xi_ix (se_var 2 (by kernel_rfl) (Or.inl (by kernel_rfl))) se_int) (se_var 5 (by kernel_rfl) (Or.inl (by kernel_rfl)))))) (ss_cons (ss_expr (se_mtL PySem.F.plainAttrs_list PySem.F.slot_list_append PySem.F.type_list_append xm_append (se_var 3 (by kernel_rfl) (Or.inl (by kernel_rfl))) (sa_cons (se_tup (sa_cons (se_var 4 (by kernel_rfl) (Or.inl (by kernel_rfl))) (sa_cons (se_var 5 (by kernel_rfl) (Or.inl (by kernel_rfl))) (sa_cons (se_var 6 (by kernel_rfl) (Or.inl (by kernel_rfl))) sa_nil)))) sa_nil))) (ss_one (ss_if (st_cmp xo_lt (se_var 6 (by kernel_rfl) (Or.inl (by kernel_rfl))) (se_var 1 (by kernel_rfl) (Or.inl (by kernel_rfl)))) (ss_one (ss_set sc_walk_n.nd (by kernel_rfl) (Or.inl (by kernel_rfl)) (se_op xo_add (se_var 4 (by kernel_rfl) (Or.inl (by kernel_rfl))) se_int))) (ss_one (ss_set sc_walk_n.nd (by kernel_rfl) (Or.inl (by kernel_rfl)) (se_op xo_sub (se_var 5 (by kernel_rfl) (Or.inl (by kernel_rfl))) se_int)))))))) (ss_one (ss_ret (se_var 3 (by kernel_rfl) (Or.inl (by kernel_rfl))))))))))
theorem sc_above_n : FnScope ["row", "number"] ["row", "number"] (defScope st_above_n) := ⟨by kernel_rfl, by kernel_rfl, by kernel_rfl, by decide +kernel, rfl, by decide +kernel, by decide +kernel⟩
theorem ok_above_n {f : Addr} {fd : FuncData} (F : Fun K "above" "above" st_above_n f fd) (hm : mg "above" = some (.ref f)) (hb : Binds K fd ["row", "number"] []) (T : Txt K mg) (d_need_row_and_number_n : DefN P w K mg base "need_row_and_number" 4 2 F_need_row_and_number_n) (d_walk_n : DefN P w K mg base "walk" 5 2 F_walk_n) : DefN P w K mg base "above" 6 2 F_above_n :=
  def_ofN ["row", "number"] ["row", "number"] 5 6 2 2 rfl rfl rfl F hm hb sc_above_n (m := m_above_n) fun cdv A outer s H E hr => (ss_cons (ss_expr (se_fnN d_need_row_and_number_n (hr.mono (by decide)) (by unfold Gl; kernel_rfl) (sa_cons (se_var 0 (by kernel_rfl) (Or.inl (by kernel_rfl))) (sa_cons (se_var 1 (by kernel_rfl) (Or.inr (Or.inl (by kernel_rfl)))) sa_nil)) (alen_cons (alen_cons alen_nil)))) (ss_one (ss_ret (se_callBD (xk_minD rfl hr) (by unfold Gl; kernel_rfl) T.b_min boo_min (sa_cons (se_comp (N := ["i", "j", "both", "number"]) (k := 3) (caps := [1]) rfl (fun _ _ z => z) (cs_mk (by kernel_rfl) (by kernel_rfl) (by kernel_rfl) (by kernel_rfl) rfl (by kernel_rfl)) (si_frz (se_fnN d_walk_n (hr.mono (by decide)) (by unfold Gl; kernel_rfl) (sa_cons (se_var 0 (by kernel_rfl) (Or.inl (by kernel_rfl))) (sa_cons (se_var 1 (by kernel_rfl) (Or.inr (Or.inl (by kernel_rfl)))) sa_nil)) (alen_cons (alen_cons alen_nil)))) (fun _ _ _ _ => (sg_tup rfl (sgs_cons (sg_name (show (["i", "j", "both", "number"] : List Str).Nodup by decide +kernel) (by kernel_rfl) (Or.inl (by kernel_rfl))) (sgs_cons (sg_name (show (["i", "j", "both", "number"] : List Str).Nodup by decide +kernel) (by kernel_rfl) (Or.inl (by kernel_rfl))) (sgs_cons (sg_name (show (["i", "j", "both", "number"] : List Str).Nodup by decide +kernel) (by kernel_rfl) (Or.inl (by kernel_rfl))) sgs_nil))))) (fun _ _ _ _ => (sif_one (st_cmp xo_ge (se_var 2 (by kernel_rfl) (Or.inl (by kernel_rfl))) (se_var 3 (by kernel_rfl) (Or.inr (Or.inl (by kernel_rfl))))))) (fun _ _ _ _ => (se_var 2 (by kernel_rfl) (Or.inl (by kernel_rfl))))) sa_nil)))))
theorem sc_unevenness_n : FnScope ["row"] ["row"] (defScope st_unevenness_n) := ⟨by kernel_rfl, by kernel_rfl, by kernel_rfl, by decide +kernel, rfl, by decide +kernel, by decide +kernel⟩
theorem ok_unevenness_n {f : Addr} {fd : FuncData} (F : Fun K "unevenness" "unevenness" st_unevenness_n f fd) (hm : mg "unevenness" = some (.ref f)) (hb : Binds K fd ["row"] []) (T : Txt K mg) (d_above_n : DefN P w K mg base "above" 6 2 F_above_n) : DefN P w K mg base "unevenness" 7 1 F_unevenness_n :=
  def_ofN ["row"] ["row"] 6 7 1 1 rfl rfl rfl F hm hb sc_unevenness_n (m := m_unevenness_n) fun cdv A outer s H E hr => (ss_one (ss_ret (se_fnN d_above_n (hr.mono (by decide)) (by unfold Gl; kernel_rfl) (sa_cons (se_var 0 (by kernel_rfl) (Or.inl (by kernel_rfl))) (sa_cons se_int sa_nil)) (alen_cons (alen_cons alen_nil)))))
theorem sc_law : FnScope ["script", "k", "box", "one", "other", "both", "by", "signs"] ["script"] (defScope st_law) := ⟨by kernel_rfl, by kernel_rfl, by kernel_rfl, by decide +kernel, rfl, by decide +kernel, by decide +kernel⟩
theorem ok_law {f : Addr} {fd : FuncData} (F : Fun K "law" "law" st_law f fd) (hm : mg "law" = some (.ref f)) (hb : Binds K fd ["script"] []) (T : Txt K mg) (d__law_box : DefN P w K mg base "_law_box" 1 2 F__law_box) (d__law_order : DefN P w K mg base "_law_order" 2 2 F__law_order) (d__law_place_right_n : DefN P w K mg base "_law_place_right" 6 2 F__law_place_right_n) (d__law_row : DefN P w K mg base "_law_row" 2 2 F__law_row) (d__law_take : DefN P w K mg base "_law_take" 1 2 F__law_take) (d_grown_n : DefN P w K mg base "grown" 4 2 F_grown_n) (d_joined_n : DefN P w K mg base "joined" 4 2 F_joined_n) (d_mixed_n : DefN P w K mg base "mixed" 4 2 F_mixed_n) (d_multiplied_n : DefN P w K mg base "multiplied" 4 2 F_multiplied_n) (d_part_table_n : DefN P w K mg base "part_table" 5 1 F_part_table_n) (d_shifted_n : DefN P w K mg base "shifted" 4 2 F_shifted_n) (d_sign_table_n : DefN P w K mg base "sign_table" 5 1 F_sign_table_n) (d_unevenness_n : DefN P w K mg base "unevenness" 7 1 F_unevenness_n) : DefN P w K mg base "law" 8 1 F_law :=
  def_ofN ["script", "k", "box", "one", "other", "both", "by", "signs"] ["script"] 7 8 1 8 rfl rfl rfl F hm hb sc_law (m := m_law) fun cdv A outer s H E hr => (ss_cons (ss_for PassesOwn.never rfl (si_range1 (by unfold Gl; kernel_rfl) T.b_range (sa_cons (se_callB (xc_max rfl) (by unfold Gl; kernel_rfl) T.b_max boo_max (sa_cons se_int (sa_cons (se_callB (xc_min rfl) (by unfold Gl; kernel_rfl) T.b_min boo_min (sa_cons (se_callB xc_len (by unfold Gl; kernel_rfl) T.b_len boo_len (sa_cons (se_var 0 (by kernel_rfl) (Or.inl (by kernel_rfl))) sa_nil)) (sa_cons se_int sa_nil))) sa_nil))) sa_nil)) (sg_name sc_law.nd (by kernel_rfl) (Or.inl (by kernel_rfl))) (ss_cons (ss_set sc_law.nd (by kernel_rfl) (Or.inl (by kernel_rfl)) (se_fnN d__law_box (hr.mono (by decide)) (by unfold Gl; kernel_rfl) (sa_cons (se_var 0 (by kernel_rfl) (Or.inl (by kernel_rfl))) (sa_cons (se_var 1 (by kernel_rfl) (Or.inl (by kernel_rfl))) sa_nil)) (alen_cons (alen_cons alen_nil)))) (ss_cons (ss_par rfl sc_law.nd (by kernel_rfl) (by kernel_rfl) (by decide) (by kernel_rfl) (by kernel_rfl) (sa_cons (se_fnN d__law_row (hr.mono (by decide)) (by unfold Gl; kernel_rfl) (sa_cons (se_var 2 (by kernel_rfl) (Or.inl (by kernel_rfl))) (sa_cons se_int sa_nil)) (alen_cons (alen_cons alen_nil))) (sa_cons (se_fnN d__law_row (hr.mono (by decide)) (by unfold Gl; kernel_rfl) (sa_cons (se_var 2 (by kernel_rfl) (Or.inl (by kernel_rfl))) (sa_cons se_int sa_nil)) (alen_cons (alen_cons alen_nil))) sa_nil))) (ss_cons (ss_set sc_law.nd (by kernel_rfl) (Or.inl (by kernel_rfl)) (se_fnN d_joined_n (hr.mono (by decide)) (by unfold Gl; kernel_rfl) (sa_cons (se_var 3 (by kernel_rfl) (Or.inl (by kernel_rfl))) (sa_cons (se_var 4 (by kernel_rfl) (Or.inl (by kernel_rfl))) sa_nil)) (alen_cons (alen_cons alen_nil)))) (ss_cons (ss_if (st_cmp (xo_neD hr) (se_fnN d_sign_table_n (hr.mono (by decide)) (by unfold Gl; kernel_rfl) (sa_cons (se_var 5 (by kernel_rfl) (Or.inl (by kernel_rfl))) sa_nil) (alen_cons alen_nil)) (se_fnN d_multiplied_n (hr.mono (by decide)) (by unfold Gl; kernel_rfl) (sa_cons (se_fnN d_sign_table_n (hr.mono (by decide)) (by unfold Gl; kernel_rfl) (sa_cons (se_var 3 (by kernel_rfl) (Or.inl (by kernel_rfl))) sa_nil) (alen_cons alen_nil)) (sa_cons (se_fnN d_sign_table_n (hr.mono (by decide)) (by unfold Gl; kernel_rfl) (sa_cons (se_var 4 (by kernel_rfl) (Or.inl (by kernel_rfl))) sa_nil) (alen_cons alen_nil)) sa_nil)) (alen_cons (alen_cons alen_nil)))) (ss_one (ss_ret se_bl)) ss_nil) (ss_cons (ss_if (sw_st (sw_and (st_cmp xo_lt (se_callB xc_len (by unfold Gl; kernel_rfl) T.b_len boo_len (sa_cons (se_var 5 (by kernel_rfl) (Or.inl (by kernel_rfl))) sa_nil)) se_int) (sw_and1 (st_cmp (xo_neD hr) (se_fnN d_part_table_n (hr.mono (by decide)) (by unfold Gl; kernel_rfl) (sa_cons (se_var 5 (by kernel_rfl) (Or.inl (by kernel_rfl))) sa_nil) (alen_cons alen_nil)) (se_fnN d_multiplied_n (hr.mono (by decide)) (by unfold Gl; kernel_rfl) (sa_cons (se_fnN d_part_table_n (hr.mono (by decide)) (by unfold Gl; kernel_rfl) (sa_cons (se_var 3 (by kernel_rfl) (Or.inl (by kernel_rfl))) sa_nil) (alen_cons alen_nil)) (sa_cons (se_fnN d_part_table_n (hr.mono (by decide)) (by unfold Gl; kernel_rfl) (sa_cons (se_var 4 (by kernel_rfl) (Or.inl (by kernel_rfl))) sa_nil) (alen_cons alen_nil)) sa_nil)) (alen_cons (alen_cons alen_nil))))))) (ss_one (ss_ret se_bl)) ss_nil) (ss_cons (ss_if (st_cmp (xo_neD hr) (se_fnN d_sign_table_n (hr.mono (by decide)) (by unfold Gl; kernel_rfl) (sa_cons (se_fnN d_mixed_n (hr.mono (by decide)) (by unfold Gl; kernel_rfl) (sa_cons (se_var 5 (by kernel_rfl) (Or.inl (by kernel_rfl))) (sa_cons (se_fnN d__law_order (hr.mono (by decide)) (by unfold Gl; kernel_rfl) (sa_cons (se_var 2 (by kernel_rfl) (Or.inl (by kernel_rfl))) (sa_cons (se_callB xc_len (by unfold Gl; kernel_rfl) T.b_len boo_len (sa_cons (se_var 5 (by kernel_rfl) (Or.inl (by kernel_rfl))) sa_nil)) sa_nil)) (alen_cons (alen_cons alen_nil))) sa_nil)) (alen_cons (alen_cons alen_nil))) sa_nil) (alen_cons alen_nil)) (se_fnN d_sign_table_n (hr.mono (by decide)) (by unfold Gl; kernel_rfl) (sa_cons (se_var 5 (by kernel_rfl) (Or.inl (by kernel_rfl))) sa_nil) (alen_cons alen_nil))) (ss_one (ss_ret se_bl)) ss_nil) (ss_cons (ss_set sc_law.nd (by kernel_rfl) (Or.inr (by kernel_rfl)) (se_op xo_add se_int (se_fnN d__law_take (hr.mono (by decide)) (by unfold Gl; kernel_rfl) (sa_cons (se_var 2 (by kernel_rfl) (Or.inl (by kernel_rfl))) (sa_cons se_int sa_nil)) (alen_cons (alen_cons alen_nil))))) (ss_cons (ss_set sc_law.nd (by kernel_rfl) (Or.inr (by kernel_rfl)) (se_fnN d_sign_table_n (hr.mono (by decide)) (by unfold Gl; kernel_rfl) (sa_cons (se_var 3 (by kernel_rfl) (Or.inl (by kernel_rfl))) sa_nil) (alen_cons alen_nil))) (ss_cons (ss_if (st_cmp (xo_neD hr) (se_fnN d_sign_table_n (hr.mono (by decide)) (by unfold Gl; kernel_rfl) (sa_cons (se_fnN d_grown_n (hr.mono (by decide)) (by unfold Gl; kernel_rfl) (sa_cons (se_var 3 (by kernel_rfl) (Or.inl (by kernel_rfl))) (sa_cons (se_var 6 (by kernel_rfl) (Or.inr (Or.inl (by kernel_rfl)))) sa_nil)) (alen_cons (alen_cons alen_nil))) sa_nil) (alen_cons alen_nil)) (se_callTyR (xc_dcp rfl) (by unfold Gl; kernel_rfl) T.b_dict boo_dict (sa_cons (se_thaw (se_comp (N := ["amount", "by", "signs"]) (k := 1) (caps := [6, 7]) rfl (fun _ _ z => z) (cs_mk (by kernel_rfl) (by kernel_rfl) (by kernel_rfl) (by kernel_rfl) rfl (by kernel_rfl)) (si_keys (se_var 7 (by kernel_rfl) (Or.inr (Or.inl (by kernel_rfl))))) (fun _ _ _ _ => (sg_name (show (["amount", "by", "signs"] : List Str).Nodup by decide +kernel) (by kernel_rfl) (Or.inl (by kernel_rfl)))) (fun _ _ _ _ => sif_nil) (fun _ _ _ _ => (se_tup (sa_cons (se_op xo_mul (se_var 0 (by kernel_rfl) (Or.inl (by kernel_rfl))) (se_var 1 (by kernel_rfl) (Or.inr (Or.inl (by kernel_rfl))))) (sa_cons (se_ix (xi_ixD hr) (se_var 2 (by kernel_rfl) (Or.inr (Or.inl (by kernel_rfl)))) (se_var 0 (by kernel_rfl) (Or.inl (by kernel_rfl)))) sa_nil)))))) sa_nil))) (ss_one (ss_ret se_bl)) ss_nil) (ss_cons (ss_if (sw_st (sw_or (st_cmp (xo_neP hr) (se_fnN d_unevenness_n (hr.mono (by decide)) (by unfold Gl; kernel_rfl) (sa_cons (se_fnN d_grown_n (hr.mono (by decide)) (by unfold Gl; kernel_rfl) (sa_cons (se_var 5 (by kernel_rfl) (Or.inl (by kernel_rfl))) (sa_cons (se_var 6 (by kernel_rfl) (Or.inr (Or.inl (by kernel_rfl)))) sa_nil)) (alen_cons (alen_cons alen_nil))) sa_nil) (alen_cons alen_nil)) (se_op xo_mul (se_var 6 (by kernel_rfl) (Or.inr (Or.inl (by kernel_rfl)))) (se_fnN d_unevenness_n (hr.mono (by decide)) (by unfold Gl; kernel_rfl) (sa_cons (se_var 5 (by kernel_rfl) (Or.inl (by kernel_rfl))) sa_nil) (alen_cons alen_nil)))) (sw_or1 (st_cmp (xo_neD hr) (se_fnN d_shifted_n (hr.mono (by decide)) (by unfold Gl; kernel_rfl) (sa_cons (se_fnN d_shifted_n (hr.mono (by decide)) (by unfold Gl; kernel_rfl) (sa_cons (se_var 7 (by kernel_rfl) (Or.inr (Or.inl (by kernel_rfl)))) (sa_cons (se_var 6 (by kernel_rfl) (Or.inr (Or.inl (by kernel_rfl)))) sa_nil)) (alen_cons (alen_cons alen_nil))) (sa_cons (se_op xo_sub se_int (se_var 6 (by kernel_rfl) (Or.inr (Or.inl (by kernel_rfl))))) sa_nil)) (alen_cons (alen_cons alen_nil))) (se_var 7 (by kernel_rfl) (Or.inr (Or.inl (by kernel_rfl)))))))) (ss_one (ss_ret se_bl)) ss_nil) (ss_one (ss_if (sw_st (sw_and (st_cmp (xo_neP hr) (se_var 3 (by kernel_rfl) (Or.inl (by kernel_rfl))) (se_tup sa_nil)) (sw_and1 (st_not (st_val (se_fnN d__law_place_right_n (hr.mono (by decide)) (by unfold Gl; kernel_rfl) (sa_cons (se_var 3 (by kernel_rfl) (Or.inl (by kernel_rfl))) (sa_cons (se_fnN d__law_take (hr.mono (by decide)) (by unfold Gl; kernel_rfl) (sa_cons (se_var 2 (by kernel_rfl) (Or.inl (by kernel_rfl))) (sa_cons (se_callB xc_len (by unfold Gl; kernel_rfl) T.b_len boo_len (sa_cons (se_var 3 (by kernel_rfl) (Or.inl (by kernel_rfl))) sa_nil)) sa_nil)) (alen_cons (alen_cons alen_nil))) sa_nil)) (alen_cons (alen_cons alen_nil)))))))) (ss_one (ss_ret se_bl)) ss_nil))))))))))))) (ss_one (ss_ret se_bl)))
end
/-! what the top has written -/
theorem cls_mk {K : PySem.W.Frag}  
    (gt : PySem.W.specialIn K (.builtin "object.__class__") "__get__" = some (some (.builtin "getset_descriptor.__get__")))
    (tk : PySem.W.takesIn K (.builtin "object.__class__") = some true) : Cls K raisedX askedX isaX :=
  ⟨gt, tk, fun c hc => by simp [raisedX] at hc,
    fun c hc k hk => by simp [raisedX, askedX] at hc hk⟩
theorem all_mk {P : Program} {w : World} {K : PySem.W.Frag} {h : Heap} {mg : Str → Option Value} {fa : Addr} (X : K.In h) (G : h.Ns mainGlobals mg) (hfa : mg "law" = some (.ref fa))  {f0 : Addr} {od0 an0 : Option Addr} {sl0 : Array (Option Value)} {oc0 kV0 dc0 pm0 cd0 ct0 : Value} {f1 : Addr} {od1 an1 : Option Addr} {sl1 : Array (Option Value)} {oc1 kV1 dc1 pm1 cd1 ct1 : Value} {f2 : Addr} {od2 an2 : Option Addr} {sl2 : Array (Option Value)} {oc2 kV2 dc2 pm2 cd2 ct2 : Value} {f3 : Addr} {od3 an3 : Option Addr} {sl3 : Array (Option Value)} {oc3 kV3 dc3 pm3 cd3 ct3 : Value} {f4 : Addr} {od4 an4 : Option Addr} {sl4 : Array (Option Value)} {oc4 kV4 dc4 pm4 cd4 ct4 : Value} {f5 : Addr} {od5 an5 : Option Addr} {sl5 : Array (Option Value)} {oc5 kV5 dc5 pm5 cd5 ct5 : Value} {f6 : Addr} {od6 an6 : Option Addr} {sl6 : Array (Option Value)} {oc6 kV6 dc6 pm6 cd6 ct6 : Value} {f7 : Addr} {od7 an7 : Option Addr} {sl7 : Array (Option Value)} {oc7 kV7 dc7 pm7 cd7 ct7 : Value} {f8 : Addr} {od8 an8 : Option Addr} {sl8 : Array (Option Value)} {oc8 kV8 dc8 pm8 cd8 ct8 : Value} {f9 : Addr} {od9 an9 : Option Addr} {sl9 : Array (Option Value)} {oc9 kV9 dc9 pm9 cd9 ct9 : Value} {f10 : Addr} {od10 an10 : Option Addr} {sl10 : Array (Option Value)} {oc10 kV10 dc10 pm10 cd10 ct10 : Value} {f11 : Addr} {od11 an11 : Option Addr} {sl11 : Array (Option Value)} {oc11 kV11 dc11 pm11 cd11 ct11 : Value} {f12 : Addr} {od12 an12 : Option Addr} {sl12 : Array (Option Value)} {oc12 kV12 dc12 pm12 cd12 ct12 : Value} {f13 : Addr} {od13 an13 : Option Addr} {sl13 : Array (Option Value)} {oc13 kV13 dc13 pm13 cd13 ct13 : Value} {f14 : Addr} {od14 an14 : Option Addr} {sl14 : Array (Option Value)} {oc14 kV14 dc14 pm14 cd14 ct14 : Value} {f15 : Addr} {od15 an15 : Option Addr} {sl15 : Array (Option Value)} {oc15 kV15 dc15 pm15 cd15 ct15 : Value} {f16 : Addr} {od16 an16 : Option Addr} {sl16 : Array (Option Value)} {oc16 kV16 dc16 pm16 cd16 ct16 : Value} {f17 : Addr} {od17 an17 : Option Addr} {sl17 : Array (Option Value)} {oc17 kV17 dc17 pm17 cd17 ct17 : Value} {f18 : Addr} {od18 an18 : Option Addr} {sl18 : Array (Option Value)} {oc18 kV18 dc18 pm18 cd18 ct18 : Value} {f19 : Addr} {od19 an19 : Option Addr} {sl19 : Array (Option Value)} {oc19 kV19 dc19 pm19 cd19 ct19 : Value} {f20 : Addr} {od20 an20 : Option Addr} {sl20 : Array (Option Value)} {oc20 kV20 dc20 pm20 cd20 ct20 : Value} {f21 : Addr} {od21 an21 : Option Addr} {sl21 : Array (Option Value)} {oc21 kV21 dc21 pm21 cd21 ct21 : Value} {f22 : Addr} {od22 an22 : Option Addr} {sl22 : Array (Option Value)} {oc22 kV22 dc22 pm22 cd22 ct22 : Value} {f23 : Addr} {od23 an23 : Option Addr} {sl23 : Array (Option Value)} {oc23 kV23 dc23 pm23 cd23 ct23 : Value} {f24 : Addr} {od24 an24 : Option Addr} {sl24 : Array (Option Value)} {oc24 kV24 dc24 pm24 cd24 ct24 : Value} {f25 : Addr} {od25 an25 : Option Addr} {sl25 : Array (Option Value)} {oc25 kV25 dc25 pm25 cd25 ct25 : Value} {f26 : Addr} {od26 an26 : Option Addr} {sl26 : Array (Option Value)} {oc26 kV26 dc26 pm26 cd26 ct26 : Value} {f27 : Addr} {od27 an27 : Option Addr} {sl27 : Array (Option Value)} {oc27 kV27 dc27 pm27 cd27 ct27 : Value} {f28 : Addr} {od28 an28 : Option Addr} {sl28 : Array (Option Value)} {oc28 kV28 dc28 pm28 cd28 ct28 : Value} {f29 : Addr} {od29 an29 : Option Addr} {sl29 : Array (Option Value)} {oc29 kV29 dc29 pm29 cd29 ct29 : Value} {f30 : Addr} {od30 an30 : Option Addr} {sl30 : Array (Option Value)} {oc30 kV30 dc30 pm30 cd30 ct30 : Value} {f31 : Addr} {od31 an31 : Option Addr} {sl31 : Array (Option Value)} {oc31 kV31 dc31 pm31 cd31 ct31 : Value} {f32 : Addr} {od32 an32 : Option Addr} {sl32 : Array (Option Value)} {oc32 kV32 dc32 pm32 cd32 ct32 : Value} {f33 : Addr} {od33 an33 : Option Addr} {sl33 : Array (Option Value)} {oc33 kV33 dc33 pm33 cd33 ct33 : Value} {f34 : Addr} {od34 an34 : Option Addr} {sl34 : Array (Option Value)} {oc34 kV34 dc34 pm34 cd34 ct34 : Value} {f35 : Addr} {od35 an35 : Option Addr} {sl35 : Array (Option Value)} {oc35 kV35 dc35 pm35 cd35 ct35 : Value} {t_LONGEST_ROW : Tok} {t_LONGEST_TABLED : Tok} {A_PARTS : Addr} {od_PARTS : Option Addr} {n_PARTS : Nat} {sl_PARTS : Array (Option Value)} {u0_PARTS : Tok} {u1_PARTS : Tok} {u2_PARTS : Tok} {A_SIGNS : Addr} {od_SIGNS : Option Addr} {n_SIGNS : Nat} {sl_SIGNS : Array (Option Value)} {u0_SIGNS : Tok} {u1_SIGNS : Tok}  
    
    (a0 : PySem.W.nsIn K mainGlobals "_law_box" = some (some (.ref f0))) (l0 : K.lookup f0 = some ⟨oc0, od0, .func (PySem.W.fnOf "_law_box" "_law_box" (defArgs st__law_box) (defBody st__law_box) (defScope st__law_box) .none kV0 dc0 pm0 an0 cd0 ct0), sl0⟩) (c0 : PySem.W.codeIn K cd0 "_law_box" = true) (k0 : PySem.W.keepIn K (.ref f0) = true)
    (a1 : PySem.W.nsIn K mainGlobals "_law_take" = some (some (.ref f1))) (l1 : K.lookup f1 = some ⟨oc1, od1, .func (PySem.W.fnOf "_law_take" "_law_take" (defArgs st__law_take) (defBody st__law_take) (defScope st__law_take) .none kV1 dc1 pm1 an1 cd1 ct1), sl1⟩) (c1 : PySem.W.codeIn K cd1 "_law_take" = true) (k1 : PySem.W.keepIn K (.ref f1) = true)
    (a2 : PySem.W.nsIn K mainGlobals "_law_order" = some (some (.ref f2))) (l2 : K.lookup f2 = some ⟨oc2, od2, .func (PySem.W.fnOf "_law_order" "_law_order" (defArgs st__law_order) (defBody st__law_order) (defScope st__law_order) .none kV2 dc2 pm2 an2 cd2 ct2), sl2⟩) (c2 : PySem.W.codeIn K cd2 "_law_order" = true) (k2 : PySem.W.keepIn K (.ref f2) = true)
    (a3 : PySem.W.nsIn K mainGlobals "is_whole" = some (some (.ref f3))) (l3 : K.lookup f3 = some ⟨oc3, od3, .func (PySem.W.fnOf "is_whole" "is_whole" (defArgs st_is_whole) (defBody st_is_whole) (defScope st_is_whole) .none kV3 dc3 pm3 an3 cd3 ct3), sl3⟩) (c3 : PySem.W.codeIn K cd3 "is_whole" = true) (k3 : PySem.W.keepIn K (.ref f3) = true)
    (a4 : PySem.W.nsIn K mainGlobals "is_table" = some (some (.ref f4))) (l4 : K.lookup f4 = some ⟨oc4, od4, .func (PySem.W.fnOf "is_table" "is_table" (defArgs st_is_table) (defBody st_is_table) (defScope st_is_table) .none kV4 dc4 pm4 an4 cd4 ct4), sl4⟩) (c4 : PySem.W.codeIn K cd4 "is_table" = true) (k4 : PySem.W.keepIn K (.ref f4) = true)
    (a5 : PySem.W.nsIn K mainGlobals "need_table" = some (some (.ref f5))) (l5 : K.lookup f5 = some ⟨oc5, od5, .func (PySem.W.fnOf "need_table" "need_table" (defArgs st_need_table_n) (defBody st_need_table_n) (defScope st_need_table_n) .none kV5 dc5 pm5 an5 cd5 ct5), sl5⟩) (c5 : PySem.W.codeIn K cd5 "need_table" = true) (k5 : PySem.W.keepIn K (.ref f5) = true)
    (a6 : PySem.W.nsIn K mainGlobals "multiplied" = some (some (.ref f6))) (l6 : K.lookup f6 = some ⟨oc6, od6, .func (PySem.W.fnOf "multiplied" "multiplied" (defArgs st_multiplied_n) (defBody st_multiplied_n) (defScope st_multiplied_n) .none kV6 dc6 pm6 an6 cd6 ct6), sl6⟩) (c6 : PySem.W.codeIn K cd6 "multiplied" = true) (k6 : PySem.W.keepIn K (.ref f6) = true)
    (a7 : PySem.W.nsIn K mainGlobals "is_row" = some (some (.ref f7))) (l7 : K.lookup f7 = some ⟨oc7, od7, .func (PySem.W.fnOf "is_row" "is_row" (defArgs st_is_row) (defBody st_is_row) (defScope st_is_row) .none kV7 dc7 pm7 an7 cd7 ct7), sl7⟩) (c7 : PySem.W.codeIn K cd7 "is_row" = true) (k7 : PySem.W.keepIn K (.ref f7) = true)
    (a8 : PySem.W.nsIn K mainGlobals "need_row" = some (some (.ref f8))) (l8 : K.lookup f8 = some ⟨oc8, od8, .func (PySem.W.fnOf "need_row" "need_row" (defArgs st_need_row_n) (defBody st_need_row_n) (defScope st_need_row_n) .none kV8 dc8 pm8 an8 cd8 ct8), sl8⟩) (c8 : PySem.W.codeIn K cd8 "need_row" = true) (k8 : PySem.W.keepIn K (.ref f8) = true)
    (a9 : PySem.W.nsIn K mainGlobals "need_few" = some (some (.ref f9))) (l9 : K.lookup f9 = some ⟨oc9, od9, .func (PySem.W.fnOf "need_few" "need_few" (defArgs st_need_few_n) (defBody st_need_few_n) (defScope st_need_few_n) .none kV9 dc9 pm9 an9 cd9 ct9), sl9⟩) (c9 : PySem.W.codeIn K cd9 "need_few" = true) (k9 : PySem.W.keepIn K (.ref f9) = true)
    (a10 : PySem.W.nsIn K mainGlobals "stepped" = some (some (.ref f10))) (l10 : K.lookup f10 = some ⟨oc10, od10, .func (PySem.W.fnOf "stepped" "stepped" (defArgs st_stepped) (defBody st_stepped) (defScope st_stepped) .none kV10 dc10 pm10 an10 cd10 ct10), sl10⟩) (c10 : PySem.W.codeIn K cd10 "stepped" = true) (k10 : PySem.W.keepIn K (.ref f10) = true)
    (a11 : PySem.W.nsIn K mainGlobals "table_of" = some (some (.ref f11))) (l11 : K.lookup f11 = some ⟨oc11, od11, .func (PySem.W.fnOf "table_of" "table_of" (defArgs st_table_of) (defBody st_table_of) (defScope st_table_of) .none kV11 dc11 pm11 an11 cd11 ct11), sl11⟩) (c11 : PySem.W.codeIn K cd11 "table_of" = true) (k11 : PySem.W.keepIn K (.ref f11) = true)
    (a12 : PySem.W.nsIn K mainGlobals "part_table" = some (some (.ref f12))) (l12 : K.lookup f12 = some ⟨oc12, od12, .func (PySem.W.fnOf "part_table" "part_table" (defArgs st_part_table_n) (defBody st_part_table_n) (defScope st_part_table_n) .none kV12 dc12 pm12 an12 cd12 ct12), sl12⟩) (c12 : PySem.W.codeIn K cd12 "part_table" = true) (k12 : PySem.W.keepIn K (.ref f12) = true)
    (a13 : PySem.W.nsIn K mainGlobals "divided" = some (some (.ref f13))) (l13 : K.lookup f13 = some ⟨oc13, od13, .func (PySem.W.fnOf "divided" "divided" (defArgs st_divided) (defBody st_divided) (defScope st_divided) .none kV13 dc13 pm13 an13 cd13 ct13), sl13⟩) (c13 : PySem.W.codeIn K cd13 "divided" = true) (k13 : PySem.W.keepIn K (.ref f13) = true)
    (a14 : PySem.W.nsIn K mainGlobals "need_number" = some (some (.ref f14))) (l14 : K.lookup f14 = some ⟨oc14, od14, .func (PySem.W.fnOf "need_number" "need_number" (defArgs st_need_number_n) (defBody st_need_number_n) (defScope st_need_number_n) .none kV14 dc14 pm14 an14 cd14 ct14), sl14⟩) (c14 : PySem.W.codeIn K cd14 "need_number" = true) (k14 : PySem.W.keepIn K (.ref f14) = true)
    (a15 : PySem.W.nsIn K mainGlobals "need_number_from" = some (some (.ref f15))) (l15 : K.lookup f15 = some ⟨oc15, od15, .func (PySem.W.fnOf "need_number_from" "need_number_from" (defArgs st_need_number_from_n) (defBody st_need_number_from_n) (defScope st_need_number_from_n) .none kV15 dc15 pm15 an15 cd15 ct15), sl15⟩) (c15 : PySem.W.codeIn K cd15 "need_number_from" = true) (k15 : PySem.W.keepIn K (.ref f15) = true)
    (a16 : PySem.W.nsIn K mainGlobals "need_table_and_number" = some (some (.ref f16))) (l16 : K.lookup f16 = some ⟨oc16, od16, .func (PySem.W.fnOf "need_table_and_number" "need_table_and_number" (defArgs st_need_table_and_number_n) (defBody st_need_table_and_number_n) (defScope st_need_table_and_number_n) .none kV16 dc16 pm16 an16 cd16 ct16), sl16⟩) (c16 : PySem.W.codeIn K cd16 "need_table_and_number" = true) (k16 : PySem.W.keepIn K (.ref f16) = true)
    (a17 : PySem.W.nsIn K mainGlobals "part_taken_out" = some (some (.ref f17))) (l17 : K.lookup f17 = some ⟨oc17, od17, .func (PySem.W.fnOf "part_taken_out" "part_taken_out" (defArgs st_part_taken_out_n) (defBody st_part_taken_out_n) (defScope st_part_taken_out_n) .none kV17 dc17 pm17 an17 cd17 ct17), sl17⟩) (c17 : PySem.W.codeIn K cd17 "part_taken_out" = true) (k17 : PySem.W.keepIn K (.ref f17) = true)
    (a18 : PySem.W.nsIn K mainGlobals "sign_table" = some (some (.ref f18))) (l18 : K.lookup f18 = some ⟨oc18, od18, .func (PySem.W.fnOf "sign_table" "sign_table" (defArgs st_sign_table_n) (defBody st_sign_table_n) (defScope st_sign_table_n) .none kV18 dc18 pm18 an18 cd18 ct18), sl18⟩) (c18 : PySem.W.codeIn K cd18 "sign_table" = true) (k18 : PySem.W.keepIn K (.ref f18) = true)
    (a19 : PySem.W.nsIn K mainGlobals "taken_out" = some (some (.ref f19))) (l19 : K.lookup f19 = some ⟨oc19, od19, .func (PySem.W.fnOf "taken_out" "taken_out" (defArgs st_taken_out_n) (defBody st_taken_out_n) (defScope st_taken_out_n) .none kV19 dc19 pm19 an19 cd19 ct19), sl19⟩) (c19 : PySem.W.codeIn K cd19 "taken_out" = true) (k19 : PySem.W.keepIn K (.ref f19) = true)
    (a20 : PySem.W.nsIn K mainGlobals "without" = some (some (.ref f20))) (l20 : K.lookup f20 = some ⟨oc20, od20, .func (PySem.W.fnOf "without" "without" (defArgs st_without_n) (defBody st_without_n) (defScope st_without_n) .none kV20 dc20 pm20 an20 cd20 ct20), sl20⟩) (c20 : PySem.W.codeIn K cd20 "without" = true) (k20 : PySem.W.keepIn K (.ref f20) = true)
    (a21 : PySem.W.nsIn K mainGlobals "_law_place_right" = some (some (.ref f21))) (l21 : K.lookup f21 = some ⟨oc21, od21, .func (PySem.W.fnOf "_law_place_right" "_law_place_right" (defArgs st__law_place_right_n) (defBody st__law_place_right_n) (defScope st__law_place_right_n) .none kV21 dc21 pm21 an21 cd21 ct21), sl21⟩) (c21 : PySem.W.codeIn K cd21 "_law_place_right" = true) (k21 : PySem.W.keepIn K (.ref f21) = true)
    (a22 : PySem.W.nsIn K mainGlobals "_law_row" = some (some (.ref f22))) (l22 : K.lookup f22 = some ⟨oc22, od22, .func (PySem.W.fnOf "_law_row" "_law_row" (defArgs st__law_row) (defBody st__law_row) (defScope st__law_row) .none kV22 dc22 pm22 an22 cd22 ct22), sl22⟩) (c22 : PySem.W.codeIn K cd22 "_law_row" = true) (k22 : PySem.W.keepIn K (.ref f22) = true)
    (a23 : PySem.W.nsIn K mainGlobals "grown" = some (some (.ref f23))) (l23 : K.lookup f23 = some ⟨oc23, od23, .func (PySem.W.fnOf "grown" "grown" (defArgs st_grown_n) (defBody st_grown_n) (defScope st_grown_n) .none kV23 dc23 pm23 an23 cd23 ct23), sl23⟩) (c23 : PySem.W.codeIn K cd23 "grown" = true) (k23 : PySem.W.keepIn K (.ref f23) = true)
    (a24 : PySem.W.nsIn K mainGlobals "joined" = some (some (.ref f24))) (l24 : K.lookup f24 = some ⟨oc24, od24, .func (PySem.W.fnOf "joined" "joined" (defArgs st_joined_n) (defBody st_joined_n) (defScope st_joined_n) .none kV24 dc24 pm24 an24 cd24 ct24), sl24⟩) (c24 : PySem.W.codeIn K cd24 "joined" = true) (k24 : PySem.W.keepIn K (.ref f24) = true)
    (a25 : PySem.W.nsIn K mainGlobals "are_whole" = some (some (.ref f25))) (l25 : K.lookup f25 = some ⟨oc25, od25, .func (PySem.W.fnOf "are_whole" "are_whole" (defArgs st_are_whole) (defBody st_are_whole) (defScope st_are_whole) .none kV25 dc25 pm25 an25 cd25 ct25), sl25⟩) (c25 : PySem.W.codeIn K cd25 "are_whole" = true) (k25 : PySem.W.keepIn K (.ref f25) = true)
    (a26 : PySem.W.nsIn K mainGlobals "is_order" = some (some (.ref f26))) (l26 : K.lookup f26 = some ⟨oc26, od26, .func (PySem.W.fnOf "is_order" "is_order" (defArgs st_is_order) (defBody st_is_order) (defScope st_is_order) .none kV26 dc26 pm26 an26 cd26 ct26), sl26⟩) (c26 : PySem.W.codeIn K cd26 "is_order" = true) (k26 : PySem.W.keepIn K (.ref f26) = true)
    (a27 : PySem.W.nsIn K mainGlobals "mixed" = some (some (.ref f27))) (l27 : K.lookup f27 = some ⟨oc27, od27, .func (PySem.W.fnOf "mixed" "mixed" (defArgs st_mixed_n) (defBody st_mixed_n) (defScope st_mixed_n) .none kV27 dc27 pm27 an27 cd27 ct27), sl27⟩) (c27 : PySem.W.codeIn K cd27 "mixed" = true) (k27 : PySem.W.keepIn K (.ref f27) = true)
    (a28 : PySem.W.nsIn K mainGlobals "shifted" = some (some (.ref f28))) (l28 : K.lookup f28 = some ⟨oc28, od28, .func (PySem.W.fnOf "shifted" "shifted" (defArgs st_shifted_n) (defBody st_shifted_n) (defScope st_shifted_n) .none kV28 dc28 pm28 an28 cd28 ct28), sl28⟩) (c28 : PySem.W.codeIn K cd28 "shifted" = true) (k28 : PySem.W.keepIn K (.ref f28) = true)
    (a29 : PySem.W.nsIn K mainGlobals "need_row_and_number" = some (some (.ref f29))) (l29 : K.lookup f29 = some ⟨oc29, od29, .func (PySem.W.fnOf "need_row_and_number" "need_row_and_number" (defArgs st_need_row_and_number_n) (defBody st_need_row_and_number_n) (defScope st_need_row_and_number_n) .none kV29 dc29 pm29 an29 cd29 ct29), sl29⟩) (c29 : PySem.W.codeIn K cd29 "need_row_and_number" = true) (k29 : PySem.W.keepIn K (.ref f29) = true)
    (a30 : PySem.W.nsIn K mainGlobals "halves_of" = some (some (.ref f30))) (l30 : K.lookup f30 = some ⟨oc30, od30, .func (PySem.W.fnOf "halves_of" "halves_of" (defArgs st_halves_of) (defBody st_halves_of) (defScope st_halves_of) .none kV30 dc30 pm30 an30 cd30 ct30), sl30⟩) (c30 : PySem.W.codeIn K cd30 "halves_of" = true) (k30 : PySem.W.keepIn K (.ref f30) = true)
    (a31 : PySem.W.nsIn K mainGlobals "half_worths" = some (some (.ref f31))) (l31 : K.lookup f31 = some ⟨oc31, od31, .func (PySem.W.fnOf "half_worths" "half_worths" (defArgs st_half_worths_n) (defBody st_half_worths_n) (defScope st_half_worths_n) .none kV31 dc31 pm31 an31 cd31 ct31), sl31⟩) (c31 : PySem.W.codeIn K cd31 "half_worths" = true) (k31 : PySem.W.keepIn K (.ref f31) = true)
    (a32 : PySem.W.nsIn K mainGlobals "walk" = some (some (.ref f32))) (l32 : K.lookup f32 = some ⟨oc32, od32, .func (PySem.W.fnOf "walk" "walk" (defArgs st_walk_n) (defBody st_walk_n) (defScope st_walk_n) .none kV32 dc32 pm32 an32 cd32 ct32), sl32⟩) (c32 : PySem.W.codeIn K cd32 "walk" = true) (k32 : PySem.W.keepIn K (.ref f32) = true)
    (a33 : PySem.W.nsIn K mainGlobals "above" = some (some (.ref f33))) (l33 : K.lookup f33 = some ⟨oc33, od33, .func (PySem.W.fnOf "above" "above" (defArgs st_above_n) (defBody st_above_n) (defScope st_above_n) .none kV33 dc33 pm33 an33 cd33 ct33), sl33⟩) (c33 : PySem.W.codeIn K cd33 "above" = true) (k33 : PySem.W.keepIn K (.ref f33) = true)
    (a34 : PySem.W.nsIn K mainGlobals "unevenness" = some (some (.ref f34))) (l34 : K.lookup f34 = some ⟨oc34, od34, .func (PySem.W.fnOf "unevenness" "unevenness" (defArgs st_unevenness_n) (defBody st_unevenness_n) (defScope st_unevenness_n) .none kV34 dc34 pm34 an34 cd34 ct34), sl34⟩) (c34 : PySem.W.codeIn K cd34 "unevenness" = true) (k34 : PySem.W.keepIn K (.ref f34) = true)
    (a35 : PySem.W.nsIn K mainGlobals "law" = some (some (.ref f35))) (l35 : K.lookup f35 = some ⟨oc35, od35, .func (PySem.W.fnOf "law" "law" (defArgs st_law) (defBody st_law) (defScope st_law) .none kV35 dc35 pm35 an35 cd35 ct35), sl35⟩) (c35 : PySem.W.codeIn K cd35 "law" = true) (k35 : PySem.W.keepIn K (.ref f35) = true)
    (z_all : PySem.W.nsIn K mainGlobals "all" = some none)
    (z_bool : PySem.W.nsIn K mainGlobals "bool" = some none)
    (z_dict : PySem.W.nsIn K mainGlobals "dict" = some none)
    (z_divmod : PySem.W.nsIn K mainGlobals "divmod" = some none)
    (z_int : PySem.W.nsIn K mainGlobals "int" = some none)
    (z_isinstance : PySem.W.nsIn K mainGlobals "isinstance" = some none)
    (z_len : PySem.W.nsIn K mainGlobals "len" = some none)
    (z_list : PySem.W.nsIn K mainGlobals "list" = some none)
    (z_max : PySem.W.nsIn K mainGlobals "max" = some none)
    (z_min : PySem.W.nsIn K mainGlobals "min" = some none)
    (z_range : PySem.W.nsIn K mainGlobals "range" = some none)
    (z_sorted : PySem.W.nsIn K mainGlobals "sorted" = some none)
    (z_tuple : PySem.W.nsIn K mainGlobals "tuple" = some none)
    (z_LONGEST_ROW : PySem.W.nsIn K mainGlobals "LONGEST_ROW" = some (some (.int 16 t_LONGEST_ROW)))
    (z_LONGEST_TABLED : PySem.W.nsIn K mainGlobals "LONGEST_TABLED" = some (some (.int 10 t_LONGEST_TABLED)))
    (zt_PARTS : PySem.W.nsIn K mainGlobals "PARTS" = some (some (.ref A_PARTS))) (yt_PARTS : K.lookup A_PARTS = some ⟨.type "tuple", od_PARTS, .seq #[.int (-1) u0_PARTS, .int (0) u1_PARTS, .int (1) u2_PARTS] n_PARTS, sl_PARTS⟩)
    (zt_SIGNS : PySem.W.nsIn K mainGlobals "SIGNS" = some (some (.ref A_SIGNS))) (yt_SIGNS : K.lookup A_SIGNS = some ⟨.type "tuple", od_SIGNS, .seq #[.int (-1) u0_SIGNS, .int (1) u1_SIGNS] n_SIGNS, sl_SIGNS⟩)
    (gt : PySem.W.specialIn K (.builtin "object.__class__") "__get__" = some (some (.builtin "getset_descriptor.__get__")))
    (tk : PySem.W.takesIn K (.builtin "object.__class__") = some true) :
    ∃ fd : FuncData, (∀ (s : Shared) (v : Value), BindsTo s fd ⟨[v], []⟩ [("script", v)]) ∧ ∀ base : Heap, K.In base → base.Ns mainGlobals mg → FnOk P w K mg base (CX1 P w) 8 fa fd ["script"] (spN K 1 F_law) := by
  have e := hfa.symm.trans (PySem.W.mg_of X G a35)
  cases e
  have T : Txt K mg := ⟨cls_mk gt tk, PySem.W.mg_none_of X G z_all, PySem.W.mg_none_of X G z_bool, PySem.W.mg_none_of X G z_dict, PySem.W.mg_none_of X G z_divmod, PySem.W.mg_none_of X G z_int, PySem.W.mg_none_of X G z_isinstance, PySem.W.mg_none_of X G z_len, PySem.W.mg_none_of X G z_list, PySem.W.mg_none_of X G z_max, PySem.W.mg_none_of X G z_min, PySem.W.mg_none_of X G z_range, PySem.W.mg_none_of X G z_sorted, PySem.W.mg_none_of X G z_tuple, ⟨_, PySem.W.mg_of X G z_LONGEST_ROW⟩, ⟨_, PySem.W.mg_of X G z_LONGEST_TABLED⟩, tup3_mk X G zt_PARTS yt_PARTS, tup2_mk X G zt_SIGNS yt_SIGNS⟩
  have F0 := fun_mk (st := st__law_box) l0 c0 k0
  have b0 := F0.binds (ps := ["script", "k"]) fun _ _ _ _ _ _ us hl => match us, hl with | [_, _], _ => rfl
  have F1 := fun_mk (st := st__law_take) l1 c1 k1
  have b1 := F1.binds (ps := ["box", "many"]) fun _ _ _ _ _ _ us hl => match us, hl with | [_, _], _ => rfl
  have F2 := fun_mk (st := st__law_order) l2 c2 k2
  have b2 := F2.binds (ps := ["box", "many"]) fun _ _ _ _ _ _ us hl => match us, hl with | [_, _], _ => rfl
  have F3 := fun_mk (st := st_is_whole) l3 c3 k3
  have b3 := F3.binds (ps := ["thing"]) fun _ _ _ _ _ _ us hl => match us, hl with | [_], _ => rfl
  have F4 := fun_mk (st := st_is_table) l4 c4 k4
  have b4 := F4.binds (ps := ["thing"]) fun _ _ _ _ _ _ us hl => match us, hl with | [_], _ => rfl
  have F5 := fun_mk (st := st_need_table_n) l5 c5 k5
  have b5 := F5.binds (ps := ["thing"]) fun _ _ _ _ _ _ us hl => match us, hl with | [_], _ => rfl
  have F6 := fun_mk (st := st_multiplied_n) l6 c6 k6
  have b6 := F6.binds (ps := ["one", "other"]) fun _ _ _ _ _ _ us hl => match us, hl with | [_, _], _ => rfl
  have F7 := fun_mk (st := st_is_row) l7 c7 k7
  have b7 := F7.binds (ps := ["thing"]) fun _ _ _ _ _ _ us hl => match us, hl with | [_], _ => rfl
  have F8 := fun_mk (st := st_need_row_n) l8 c8 k8
  have b8 := F8.binds (ps := ["thing"]) fun _ _ _ _ _ _ us hl => match us, hl with | [_], _ => rfl
  have F9 := fun_mk (st := st_need_few_n) l9 c9 k9
  have b9 := F9.binds (ps := ["row"]) fun _ _ _ _ _ _ us hl => match us, hl with | [_], _ => rfl
  have F10 := fun_mk (st := st_stepped) l10 c10 k10
  have b10 := F10.binds (ps := ["table", "step", "choices"]) fun _ _ _ _ _ _ us hl => match us, hl with | [_, _, _], _ => rfl
  have F11 := fun_mk (st := st_table_of) l11 c11 k11
  have b11 := F11.binds (ps := ["row", "choices"]) fun _ _ _ _ _ _ us hl => match us, hl with | [_, _], _ => rfl
  have F12 := fun_mk (st := st_part_table_n) l12 c12 k12
  have b12 := F12.binds (ps := ["row"]) fun _ _ _ _ _ _ us hl => match us, hl with | [_], _ => rfl
  have F13 := fun_mk (st := st_divided) l13 c13 k13
  have b13 := F13.binds (ps := ["table", "number", "further"]) fun _ _ _ _ _ _ us hl => match us, hl with | [_, _, _], _ => rfl
  have F14 := fun_mk (st := st_need_number_n) l14 c14 k14
  have b14 := F14.binds (ps := ["thing"]) fun _ _ _ _ _ _ us hl => match us, hl with | [_], _ => rfl
  have F15 := fun_mk (st := st_need_number_from_n) l15 c15 k15
  have b15 := F15.binds (ps := ["least", "thing"]) fun _ _ _ _ _ _ us hl => match us, hl with | [_, _], _ => rfl
  have F16 := fun_mk (st := st_need_table_and_number_n) l16 c16 k16
  have b16 := F16.binds (ps := ["table", "number"]) fun _ _ _ _ _ _ us hl => match us, hl with | [_, _], _ => rfl
  have F17 := fun_mk (st := st_part_taken_out_n) l17 c17 k17
  have b17 := F17.binds (ps := ["table", "number"]) fun _ _ _ _ _ _ us hl => match us, hl with | [_, _], _ => rfl
  have F18 := fun_mk (st := st_sign_table_n) l18 c18 k18
  have b18 := F18.binds (ps := ["row"]) fun _ _ _ _ _ _ us hl => match us, hl with | [_], _ => rfl
  have F19 := fun_mk (st := st_taken_out_n) l19 c19 k19
  have b19 := F19.binds (ps := ["table", "number"]) fun _ _ _ _ _ _ us hl => match us, hl with | [_, _], _ => rfl
  have F20 := fun_mk (st := st_without_n) l20 c20 k20
  have b20 := F20.binds (ps := ["row", "place"]) fun _ _ _ _ _ _ us hl => match us, hl with | [_, _], _ => rfl
  have F21 := fun_mk (st := st__law_place_right_n) l21 c21 k21
  have b21 := F21.binds (ps := ["row", "place"]) fun _ _ _ _ _ _ us hl => match us, hl with | [_, _], _ => rfl
  have F22 := fun_mk (st := st__law_row) l22 c22 k22
  have b22 := F22.binds (ps := ["box", "most"]) fun _ _ _ _ _ _ us hl => match us, hl with | [_, _], _ => rfl
  have F23 := fun_mk (st := st_grown_n) l23 c23 k23
  have b23 := F23.binds (ps := ["row", "by"]) fun _ _ _ _ _ _ us hl => match us, hl with | [_, _], _ => rfl
  have F24 := fun_mk (st := st_joined_n) l24 c24 k24
  have b24 := F24.binds (ps := ["one", "other"]) fun _ _ _ _ _ _ us hl => match us, hl with | [_, _], _ => rfl
  have F25 := fun_mk (st := st_are_whole) l25 c25 k25
  have b25 := F25.binds (ps := ["thing", "many"]) fun _ _ _ _ _ _ us hl => match us, hl with | [_, _], _ => rfl
  have F26 := fun_mk (st := st_is_order) l26 c26 k26
  have b26 := F26.binds (ps := ["thing", "row"]) fun _ _ _ _ _ _ us hl => match us, hl with | [_, _], _ => rfl
  have F27 := fun_mk (st := st_mixed_n) l27 c27 k27
  have b27 := F27.binds (ps := ["row", "order"]) fun _ _ _ _ _ _ us hl => match us, hl with | [_, _], _ => rfl
  have F28 := fun_mk (st := st_shifted_n) l28 c28 k28
  have b28 := F28.binds (ps := ["table", "by"]) fun _ _ _ _ _ _ us hl => match us, hl with | [_, _], _ => rfl
  have F29 := fun_mk (st := st_need_row_and_number_n) l29 c29 k29
  have b29 := F29.binds (ps := ["row", "number"]) fun _ _ _ _ _ _ us hl => match us, hl with | [_, _], _ => rfl
  have F30 := fun_mk (st := st_halves_of) l30 c30 k30
  have b30 := F30.binds (ps := ["row"]) fun _ _ _ _ _ _ us hl => match us, hl with | [_], _ => rfl
  have F31 := fun_mk (st := st_half_worths_n) l31 c31 k31
  have b31 := F31.binds (ps := ["row"]) fun _ _ _ _ _ _ us hl => match us, hl with | [_], _ => rfl
  have F32 := fun_mk (st := st_walk_n) l32 c32 k32
  have b32 := F32.binds (ps := ["row", "number"]) fun _ _ _ _ _ _ us hl => match us, hl with | [_, _], _ => rfl
  have F33 := fun_mk (st := st_above_n) l33 c33 k33
  have b33 := F33.binds (ps := ["row", "number"]) fun _ _ _ _ _ _ us hl => match us, hl with | [_, _], _ => rfl
  have F34 := fun_mk (st := st_unevenness_n) l34 c34 k34
  have b34 := F34.binds (ps := ["row"]) fun _ _ _ _ _ _ us hl => match us, hl with | [_], _ => rfl
  have F35 := fun_mk (st := st_law) l35 c35 k35
  have b35 := F35.binds (ps := ["script"]) fun _ _ _ _ _ _ us hl => match us, hl with | [_], _ => rfl
  refine ⟨PySem.W.fnOf "law" "law" (defArgs st_law) (defBody st_law) (defScope st_law) .none kV35 dc35 pm35 an35 cd35 ct35, fun s v => .of_eq rfl, fun base _ _ => ?_⟩
  have d__law_box : DefN P w K mg base "_law_box" 1 2 F__law_box := ok__law_box F0 (PySem.W.mg_of X G a0) b0 T 
  have d__law_take : DefN P w K mg base "_law_take" 1 2 F__law_take := ok__law_take F1 (PySem.W.mg_of X G a1) b1 T 
  have d__law_order : DefN P w K mg base "_law_order" 2 2 F__law_order := ok__law_order F2 (PySem.W.mg_of X G a2) b2 T d__law_take
  have d_is_whole : DefN P w K mg base "is_whole" 1 1 F_is_whole := ok_is_whole F3 (PySem.W.mg_of X G a3) b3 T 
  have d_is_table : DefN P w K mg base "is_table" 2 1 F_is_table := ok_is_table F4 (PySem.W.mg_of X G a4) b4 T d_is_whole
  have d_need_table_n : DefN P w K mg base "need_table" 3 1 F_need_table_n := ok_need_table_n F5 (PySem.W.mg_of X G a5) b5 T d_is_table
  have d_multiplied_n : DefN P w K mg base "multiplied" 4 2 F_multiplied_n := ok_multiplied_n F6 (PySem.W.mg_of X G a6) b6 T d_need_table_n
  have d_is_row : DefN P w K mg base "is_row" 2 1 F_is_row := ok_is_row F7 (PySem.W.mg_of X G a7) b7 T d_is_whole
  have d_need_row_n : DefN P w K mg base "need_row" 3 1 F_need_row_n := ok_need_row_n F8 (PySem.W.mg_of X G a8) b8 T d_is_row
  have d_need_few_n : DefN P w K mg base "need_few" 4 1 F_need_few_n := ok_need_few_n F9 (PySem.W.mg_of X G a9) b9 T d_need_row_n
  have d_stepped : DefN P w K mg base "stepped" 1 3 F_stepped := ok_stepped F10 (PySem.W.mg_of X G a10) b10 T 
  have d_table_of : DefN P w K mg base "table_of" 2 2 F_table_of := ok_table_of F11 (PySem.W.mg_of X G a11) b11 T d_stepped
  have d_part_table_n : DefN P w K mg base "part_table" 5 1 F_part_table_n := ok_part_table_n F12 (PySem.W.mg_of X G a12) b12 T d_need_few_n d_table_of
  have d_divided : DefN P w K mg base "divided" 1 3 F_divided := ok_divided F13 (PySem.W.mg_of X G a13) b13 T 
  have d_need_number_n : DefN P w K mg base "need_number" 2 1 F_need_number_n := ok_need_number_n F14 (PySem.W.mg_of X G a14) b14 T d_is_whole
  have d_need_number_from_n : DefN P w K mg base "need_number_from" 3 2 F_need_number_from_n := ok_need_number_from_n F15 (PySem.W.mg_of X G a15) b15 T d_need_number_n
  have d_need_table_and_number_n : DefN P w K mg base "need_table_and_number" 4 2 F_need_table_and_number_n := ok_need_table_and_number_n F16 (PySem.W.mg_of X G a16) b16 T d_need_number_from_n d_need_table_n
  have d_part_taken_out_n : DefN P w K mg base "part_taken_out" 5 2 F_part_taken_out_n := ok_part_taken_out_n F17 (PySem.W.mg_of X G a17) b17 T d_divided d_need_table_and_number_n
  have d_sign_table_n : DefN P w K mg base "sign_table" 5 1 F_sign_table_n := ok_sign_table_n F18 (PySem.W.mg_of X G a18) b18 T d_need_few_n d_table_of
  have d_taken_out_n : DefN P w K mg base "taken_out" 5 2 F_taken_out_n := ok_taken_out_n F19 (PySem.W.mg_of X G a19) b19 T d_divided d_need_table_and_number_n
  have d_without_n : DefN P w K mg base "without" 4 2 F_without_n := ok_without_n F20 (PySem.W.mg_of X G a20) b20 T d_need_number_from_n d_need_row_n
  have d__law_place_right_n : DefN P w K mg base "_law_place_right" 6 2 F__law_place_right_n := ok__law_place_right_n F21 (PySem.W.mg_of X G a21) b21 T d_multiplied_n d_part_table_n d_part_taken_out_n d_sign_table_n d_taken_out_n d_without_n
  have d__law_row : DefN P w K mg base "_law_row" 2 2 F__law_row := ok__law_row F22 (PySem.W.mg_of X G a22) b22 T d__law_take
  have d_grown_n : DefN P w K mg base "grown" 4 2 F_grown_n := ok_grown_n F23 (PySem.W.mg_of X G a23) b23 T d_need_number_from_n d_need_row_n
  have d_joined_n : DefN P w K mg base "joined" 4 2 F_joined_n := ok_joined_n F24 (PySem.W.mg_of X G a24) b24 T d_need_row_n
  have d_are_whole : DefN P w K mg base "are_whole" 2 2 F_are_whole := ok_are_whole F25 (PySem.W.mg_of X G a25) b25 T d_is_whole
  have d_is_order : DefN P w K mg base "is_order" 3 2 F_is_order := ok_is_order F26 (PySem.W.mg_of X G a26) b26 T d_are_whole
  have d_mixed_n : DefN P w K mg base "mixed" 4 2 F_mixed_n := ok_mixed_n F27 (PySem.W.mg_of X G a27) b27 T d_is_order d_need_row_n
  have d_shifted_n : DefN P w K mg base "shifted" 4 2 F_shifted_n := ok_shifted_n F28 (PySem.W.mg_of X G a28) b28 T d_need_number_n d_need_table_n
  have d_need_row_and_number_n : DefN P w K mg base "need_row_and_number" 4 2 F_need_row_and_number_n := ok_need_row_and_number_n F29 (PySem.W.mg_of X G a29) b29 T d_need_number_n d_need_row_n
  have d_halves_of : DefN P w K mg base "halves_of" 1 1 F_halves_of := ok_halves_of F30 (PySem.W.mg_of X G a30) b30 T 
  have d_half_worths_n : DefN P w K mg base "half_worths" 4 1 F_half_worths_n := ok_half_worths_n F31 (PySem.W.mg_of X G a31) b31 T d_halves_of d_need_row_n d_table_of
  have d_walk_n : DefN P w K mg base "walk" 5 2 F_walk_n := ok_walk_n F32 (PySem.W.mg_of X G a32) b32 T d_half_worths_n
  have d_above_n : DefN P w K mg base "above" 6 2 F_above_n := ok_above_n F33 (PySem.W.mg_of X G a33) b33 T d_need_row_and_number_n d_walk_n
  have d_unevenness_n : DefN P w K mg base "unevenness" 7 1 F_unevenness_n := ok_unevenness_n F34 (PySem.W.mg_of X G a34) b34 T d_above_n
  exact law_ofN ["script", "k", "box", "one", "other", "both", "by", "signs"] ["script"] 7 8 1 8 rfl rfl rfl (m := m_law) F35 sc_law fun cdv A outer s H E hr => (ss_cons (ss_for PassesOwn.never rfl (si_range1 (by unfold Gl; kernel_rfl) T.b_range (sa_cons (se_callB (xc_max rfl) (by unfold Gl; kernel_rfl) T.b_max boo_max (sa_cons se_int (sa_cons (se_callB (xc_min rfl) (by unfold Gl; kernel_rfl) T.b_min boo_min (sa_cons (se_callB xc_len (by unfold Gl; kernel_rfl) T.b_len boo_len (sa_cons (se_var 0 (by kernel_rfl) (Or.inl (by kernel_rfl))) sa_nil)) (sa_cons se_int sa_nil))) sa_nil))) sa_nil)) (sg_name sc_law.nd (by kernel_rfl) (Or.inl (by kernel_rfl))) (ss_cons (ss_set sc_law.nd (by kernel_rfl) (Or.inl (by kernel_rfl)) (se_fnN d__law_box (hr.mono (by decide)) (by unfold Gl; kernel_rfl) (sa_cons (se_var 0 (by kernel_rfl) (Or.inl (by kernel_rfl))) (sa_cons (se_var 1 (by kernel_rfl) (Or.inl (by kernel_rfl))) sa_nil)) (alen_cons (alen_cons alen_nil)))) (ss_cons (ss_par rfl sc_law.nd (by kernel_rfl) (by kernel_rfl) (by decide) (by kernel_rfl) (by kernel_rfl) (sa_cons (se_fnN d__law_row (hr.mono (by decide)) (by unfold Gl; kernel_rfl) (sa_cons (se_var 2 (by kernel_rfl) (Or.inl (by kernel_rfl))) (sa_cons se_int sa_nil)) (alen_cons (alen_cons alen_nil))) (sa_cons (se_fnN d__law_row (hr.mono (by decide)) (by unfold Gl; kernel_rfl) (sa_cons (se_var 2 (by kernel_rfl) (Or.inl (by kernel_rfl))) (sa_cons se_int sa_nil)) (alen_cons (alen_cons alen_nil))) sa_nil))) (ss_cons (ss_set sc_law.nd (by kernel_rfl) (Or.inl (by kernel_rfl)) (se_fnN d_joined_n (hr.mono (by decide)) (by unfold Gl; kernel_rfl) (sa_cons (se_var 3 (by kernel_rfl) (Or.inl (by kernel_rfl))) (sa_cons (se_var 4 (by kernel_rfl) (Or.inl (by kernel_rfl))) sa_nil)) (alen_cons (alen_cons alen_nil)))) (ss_cons (ss_if (st_cmp (xo_neD hr) (se_fnN d_sign_table_n (hr.mono (by decide)) (by unfold Gl; kernel_rfl) (sa_cons (se_var 5 (by kernel_rfl) (Or.inl (by kernel_rfl))) sa_nil) (alen_cons alen_nil)) (se_fnN d_multiplied_n (hr.mono (by decide)) (by unfold Gl; kernel_rfl) (sa_cons (se_fnN d_sign_table_n (hr.mono (by decide)) (by unfold Gl; kernel_rfl) (sa_cons (se_var 3 (by kernel_rfl) (Or.inl (by kernel_rfl))) sa_nil) (alen_cons alen_nil)) (sa_cons (se_fnN d_sign_table_n (hr.mono (by decide)) (by unfold Gl; kernel_rfl) (sa_cons (se_var 4 (by kernel_rfl) (Or.inl (by kernel_rfl))) sa_nil) (alen_cons alen_nil)) sa_nil)) (alen_cons (alen_cons alen_nil)))) (ss_one (ss_ret se_bl)) ss_nil) (ss_cons (ss_if (sw_st (sw_and (st_cmp xo_lt (se_callB xc_len (by unfold Gl; kernel_rfl) T.b_len boo_len (sa_cons (se_var 5 (by kernel_rfl) (Or.inl (by kernel_rfl))) sa_nil)) se_int) (sw_and1 (st_cmp (xo_neD hr) (se_fnN d_part_table_n (hr.mono (by decide)) (by unfold Gl; kernel_rfl) (sa_cons (se_var 5 (by kernel_rfl) (Or.inl (by kernel_rfl))) sa_nil) (alen_cons alen_nil)) (se_fnN d_multiplied_n (hr.mono (by decide)) (by unfold Gl; kernel_rfl) (sa_cons (se_fnN d_part_table_n (hr.mono (by decide)) (by unfold Gl; kernel_rfl) (sa_cons (se_var 3 (by kernel_rfl) (Or.inl (by kernel_rfl))) sa_nil) (alen_cons alen_nil)) (sa_cons (se_fnN d_part_table_n (hr.mono (by decide)) (by unfold Gl; kernel_rfl) (sa_cons (se_var 4 (by kernel_rfl) (Or.inl (by kernel_rfl))) sa_nil) (alen_cons alen_nil)) sa_nil)) (alen_cons (alen_cons alen_nil))))))) (ss_one (ss_ret se_bl)) ss_nil) (ss_cons (ss_if (st_cmp (xo_neD hr) (se_fnN d_sign_table_n (hr.mono (by decide)) (by unfold Gl; kernel_rfl) (sa_cons (se_fnN d_mixed_n (hr.mono (by decide)) (by unfold Gl; kernel_rfl) (sa_cons (se_var 5 (by kernel_rfl) (Or.inl (by kernel_rfl))) (sa_cons (se_fnN d__law_order (hr.mono (by decide)) (by unfold Gl; kernel_rfl) (sa_cons (se_var 2 (by kernel_rfl) (Or.inl (by kernel_rfl))) (sa_cons (se_callB xc_len (by unfold Gl; kernel_rfl) T.b_len boo_len (sa_cons (se_var 5 (by kernel_rfl) (Or.inl (by kernel_rfl))) sa_nil)) sa_nil)) (alen_cons (alen_cons alen_nil))) sa_nil)) (alen_cons (alen_cons alen_nil))) sa_nil) (alen_cons alen_nil)) (se_fnN d_sign_table_n (hr.mono (by decide)) (by unfold Gl; kernel_rfl) (sa_cons (se_var 5 (by kernel_rfl) (Or.inl (by kernel_rfl))) sa_nil) (alen_cons alen_nil))) (ss_one (ss_ret se_bl)) ss_nil) (ss_cons (ss_set sc_law.nd (by kernel_rfl) (Or.inr (by kernel_rfl)) (se_op xo_add se_int (se_fnN d__law_take (hr.mono (by decide)) (by unfold Gl; kernel_rfl) (sa_cons (se_var 2 (by kernel_rfl) (Or.inl (by kernel_rfl))) (sa_cons se_int sa_nil)) (alen_cons (alen_cons alen_nil))))) (ss_cons (ss_set sc_law.nd (by kernel_rfl) (Or.inr (by kernel_rfl)) (se_fnN d_sign_table_n (hr.mono (by decide)) (by unfold Gl; kernel_rfl) (sa_cons (se_var 3 (by kernel_rfl) (Or.inl (by kernel_rfl))) sa_nil) (alen_cons alen_nil))) (ss_cons (ss_if (st_cmp (xo_neD hr) (se_fnN d_sign_table_n (hr.mono (by decide)) (by unfold Gl; kernel_rfl) (sa_cons (se_fnN d_grown_n (hr.mono (by decide)) (by unfold Gl; kernel_rfl) (sa_cons (se_var 3 (by kernel_rfl) (Or.inl (by kernel_rfl))) (sa_cons (se_var 6 (by kernel_rfl) (Or.inr (Or.inl (by kernel_rfl)))) sa_nil)) (alen_cons (alen_cons alen_nil))) sa_nil) (alen_cons alen_nil)) (se_callTyR (xc_dcp rfl) (by unfold Gl; kernel_rfl) T.b_dict boo_dict (sa_cons (se_thaw (se_comp (N := ["amount", "by", "signs"]) (k := 1) (caps := [6, 7]) rfl (fun _ _ z => z) (cs_mk (by kernel_rfl) (by kernel_rfl) (by kernel_rfl) (by kernel_rfl) rfl (by kernel_rfl)) (si_keys (se_var 7 (by kernel_rfl) (Or.inr (Or.inl (by kernel_rfl))))) (fun _ _ _ _ => (sg_name (show (["amount", "by", "signs"] : List Str).Nodup by decide +kernel) (by kernel_rfl) (Or.inl (by kernel_rfl)))) (fun _ _ _ _ => sif_nil) (fun _ _ _ _ => (se_tup (sa_cons (se_op xo_mul (se_var 0 (by kernel_rfl) (Or.inl (by kernel_rfl))) (se_var 1 (by kernel_rfl) (Or.inr (Or.inl (by kernel_rfl))))) (sa_cons (se_ix (xi_ixD hr) (se_var 2 (by kernel_rfl) (Or.inr (Or.inl (by kernel_rfl)))) (se_var 0 (by kernel_rfl) (Or.inl (by kernel_rfl)))) sa_nil)))))) sa_nil))) (ss_one (ss_ret se_bl)) ss_nil) (ss_cons (ss_if (sw_st (sw_or (st_cmp (xo_neP hr) (se_fnN d_unevenness_n (hr.mono (by decide)) (by unfold Gl; kernel_rfl) (sa_cons (se_fnN d_grown_n (hr.mono (by decide)) (by unfold Gl; kernel_rfl) (sa_cons (se_var 5 (by kernel_rfl) (Or.inl (by kernel_rfl))) (sa_cons (se_var 6 (by kernel_rfl) (Or.inr (Or.inl (by kernel_rfl)))) sa_nil)) (alen_cons (alen_cons alen_nil))) sa_nil) (alen_cons alen_nil)) (se_op xo_mul (se_var 6 (by kernel_rfl) (Or.inr (Or.inl (by kernel_rfl)))) (se_fnN d_unevenness_n (hr.mono (by decide)) (by unfold Gl; kernel_rfl) (sa_cons (se_var 5 (by kernel_rfl) (Or.inl (by kernel_rfl))) sa_nil) (alen_cons alen_nil)))) (sw_or1 (st_cmp (xo_neD hr) (se_fnN d_shifted_n (hr.mono (by decide)) (by unfold Gl; kernel_rfl) (sa_cons (se_fnN d_shifted_n (hr.mono (by decide)) (by unfold Gl; kernel_rfl) (sa_cons (se_var 7 (by kernel_rfl) (Or.inr (Or.inl (by kernel_rfl)))) (sa_cons (se_var 6 (by kernel_rfl) (Or.inr (Or.inl (by kernel_rfl)))) sa_nil)) (alen_cons (alen_cons alen_nil))) (sa_cons (se_op xo_sub se_int (se_var 6 (by kernel_rfl) (Or.inr (Or.inl (by kernel_rfl))))) sa_nil)) (alen_cons (alen_cons alen_nil))) (se_var 7 (by kernel_rfl) (Or.inr (Or.inl (by kernel_rfl)))))))) (ss_one (ss_ret se_bl)) ss_nil) (ss_one (ss_if (sw_st (sw_and (st_cmp (xo_neP hr) (se_var 3 (by kernel_rfl) (Or.inl (by kernel_rfl))) (se_tup sa_nil)) (sw_and1 (st_not (st_val (se_fnN d__law_place_right_n (hr.mono (by decide)) (by unfold Gl; kernel_rfl) (sa_cons (se_var 3 (by kernel_rfl) (Or.inl (by kernel_rfl))) (sa_cons (se_fnN d__law_take (hr.mono (by decide)) (by unfold Gl; kernel_rfl) (sa_cons (se_var 2 (by kernel_rfl) (Or.inl (by kernel_rfl))) (sa_cons (se_callB xc_len (by unfold Gl; kernel_rfl) T.b_len boo_len (sa_cons (se_var 3 (by kernel_rfl) (Or.inl (by kernel_rfl))) sa_nil)) sa_nil)) (alen_cons (alen_cons alen_nil))) sa_nil)) (alen_cons (alen_cons alen_nil)))))))) (ss_one (ss_ret se_bl)) ss_nil))))))))))))) (ss_one (ss_ret se_bl)))
theorem walk {l : PySem.W.OpenLaw} {q : Program} {loose : List Str} {XP : (Str → Option Value) → Heap → Prop} {YP : World → Heap → Prop} {d : DefRec} {K : Params → PySem.W.Frag} (hn : l.most = some 63) (hdf : d.params.defaults = [])
    (hY : ∀ (w : World) (h : Heap), YP w h → (K w.params).In h)
    (F : ∀ (w : World) (mg : Str → Option Value) (fa : Addr) (h : Heap), (K w.params).In h → h.Ns mainGlobals mg → mg d.name = some (.ref fa) →
      ∃ fd : FuncData, (∀ (s : Shared) (u : Value), BindsTo s fd ⟨[u], []⟩ [("script", u)]) ∧ ∀ base : Heap, (K w.params).In base → base.Ns mainGlobals mg → FnOk l.prog w (K w.params) mg base (CX1 l.prog w) 8 fa fd ["script"] (spN (K w.params) 1 F_law)) :
    PySem.W.WalkO q loose XP YP l.row.toRowW d [] (fun f vs => PySem.call f vs) :=
  L2.walk_of (n := 63) (k := 8) (x := "script") (CX := fun w => CX1 l.prog w) (sp := fun w => spN (K w.params) 1 F_law) hn (by decide) hdf ⟨rfl, by decide, by decide, rfl⟩ hY F (fun w H a ns hl ho hS => law_spN law_true (K w.params) H a ns hl ho hS) fun _ _ _ _ _ z => cx1_no z
end Lw
open PySem PySem.W PyProof.Rows
set_option maxRecDepth 100000 in
set_option maxHeartbeats 0 in
theorem PySem.Challenge.cw_plusless_k75_whole_rows_and_tables_holds : PySem.Challenge.rw_plusless_k75_whole_rows_and_tables.Holds := by
  w_on; o_law; k_head; (case hw => w_witness2)
  k_fill
  refine Lw.walk (l := PySem.Challenge.rw_plusless_k75_whole_rows_and_tables) rfl rfl (fun w h Y => PySem.W.kIn_of Y) ?F
  case F =>
    intro w mg fa h KX G hmg
    refine' Lw.all_mk KX G hmg ?a0 ?l0 ?c0 ?k0 ?a1 ?l1 ?c1 ?k1 ?a2 ?l2 ?c2 ?k2 ?a3 ?l3 ?c3 ?k3 ?a4 ?l4 ?c4 ?k4 ?a5 ?l5 ?c5 ?k5 ?a6 ?l6 ?c6 ?k6 ?a7 ?l7 ?c7 ?k7 ?a8 ?l8 ?c8 ?k8 ?a9 ?l9 ?c9 ?k9 ?a10 ?l10 ?c10 ?k10 ?a11 ?l11 ?c11 ?k11 ?a12 ?l12 ?c12 ?k12 ?a13 ?l13 ?c13 ?k13 ?a14 ?l14 ?c14 ?k14 ?a15 ?l15 ?c15 ?k15 ?a16 ?l16 ?c16 ?k16 ?a17 ?l17 ?c17 ?k17 ?a18 ?l18 ?c18 ?k18 ?a19 ?l19 ?c19 ?k19 ?a20 ?l20 ?c20 ?k20 ?a21 ?l21 ?c21 ?k21 ?a22 ?l22 ?c22 ?k22 ?a23 ?l23 ?c23 ?k23 ?a24 ?l24 ?c24 ?k24 ?a25 ?l25 ?c25 ?k25 ?a26 ?l26 ?c26 ?k26 ?a27 ?l27 ?c27 ?k27 ?a28 ?l28 ?c28 ?k28 ?a29 ?l29 ?c29 ?k29 ?a30 ?l30 ?c30 ?k30 ?a31 ?l31 ?c31 ?k31 ?a32 ?l32 ?c32 ?k32 ?a33 ?l33 ?c33 ?k33 ?a34 ?l34 ?c34 ?k34 ?a35 ?l35 ?c35 ?k35 ?z_all ?z_bool ?z_dict ?z_divmod ?z_int ?z_isinstance ?z_len ?z_list ?z_max ?z_min ?z_range ?z_sorted ?z_tuple ?z_LONGEST_ROW ?z_LONGEST_TABLED ?zt_PARTS ?yt_PARTS ?zt_SIGNS ?yt_SIGNS ?gt ?tk
    (case a0 => k_is)
    (case l0 => k_is)
    (case c0 => k_is)
    (case k0 => k_is)
    (case a1 => k_is)
    (case l1 => k_is)
    (case c1 => k_is)
    (case k1 => k_is)
    (case a2 => k_is)
    (case l2 => k_is)
    (case c2 => k_is)
    (case k2 => k_is)
    (case a3 => k_is)
    (case l3 => k_is)
    (case c3 => k_is)
    (case k3 => k_is)
    (case a4 => k_is)
    (case l4 => k_is)
    (case c4 => k_is)
    (case k4 => k_is)
    (case a5 => k_is)
    (case l5 => k_is)
    (case c5 => k_is)
    (case k5 => k_is)
    (case a6 => k_is)
    (case l6 => k_is)
    (case c6 => k_is)
    (case k6 => k_is)
    (case a7 => k_is)
    (case l7 => k_is)
    (case c7 => k_is)
    (case k7 => k_is)
    (case a8 => k_is)
    (case l8 => k_is)
    (case c8 => k_is)
    (case k8 => k_is)
    (case a9 => k_is)
    (case l9 => k_is)
    (case c9 => k_is)
    (case k9 => k_is)
    (case a10 => k_is)
    (case l10 => k_is)
    (case c10 => k_is)
    (case k10 => k_is)
    (case a11 => k_is)
    (case l11 => k_is)
    (case c11 => k_is)
    (case k11 => k_is)
    (case a12 => k_is)
    (case l12 => k_is)
    (case c12 => k_is)
    (case k12 => k_is)
    (case a13 => k_is)
    (case l13 => k_is)
    (case c13 => k_is)
    (case k13 => k_is)
    (case a14 => k_is)
    (case l14 => k_is)
    (case c14 => k_is)
    (case k14 => k_is)
    (case a15 => k_is)
    (case l15 => k_is)
    (case c15 => k_is)
    (case k15 => k_is)
    (case a16 => k_is)
    (case l16 => k_is)
    (case c16 => k_is)
    (case k16 => k_is)
    (case a17 => k_is)
    (case l17 => k_is)
    (case c17 => k_is)
    (case k17 => k_is)
    (case a18 => k_is)
    (case l18 => k_is)
    (case c18 => k_is)
    (case k18 => k_is)
    (case a19 => k_is)
    (case l19 => k_is)
    (case c19 => k_is)
    (case k19 => k_is)
    (case a20 => k_is)
    (case l20 => k_is)
    (case c20 => k_is)
    (case k20 => k_is)
    (case a21 => k_is)
    (case l21 => k_is)
    (case c21 => k_is)
    (case k21 => k_is)
    (case a22 => k_is)
    (case l22 => k_is)
    (case c22 => k_is)
    (case k22 => k_is)
    (case a23 => k_is)
    (case l23 => k_is)
    (case c23 => k_is)
    (case k23 => k_is)
    (case a24 => k_is)
    (case l24 => k_is)
    (case c24 => k_is)
    (case k24 => k_is)
    (case a25 => k_is)
    (case l25 => k_is)
    (case c25 => k_is)
    (case k25 => k_is)
    (case a26 => k_is)
    (case l26 => k_is)
    (case c26 => k_is)
    (case k26 => k_is)
    (case a27 => k_is)
    (case l27 => k_is)
    (case c27 => k_is)
    (case k27 => k_is)
    (case a28 => k_is)
    (case l28 => k_is)
    (case c28 => k_is)
    (case k28 => k_is)
    (case a29 => k_is)
    (case l29 => k_is)
    (case c29 => k_is)
    (case k29 => k_is)
    (case a30 => k_is)
    (case l30 => k_is)
    (case c30 => k_is)
    (case k30 => k_is)
    (case a31 => k_is)
    (case l31 => k_is)
    (case c31 => k_is)
    (case k31 => k_is)
    (case a32 => k_is)
    (case l32 => k_is)
    (case c32 => k_is)
    (case k32 => k_is)
    (case a33 => k_is)
    (case l33 => k_is)
    (case c33 => k_is)
    (case k33 => k_is)
    (case a34 => k_is)
    (case l34 => k_is)
    (case c34 => k_is)
    (case k34 => k_is)
    (case a35 => k_is)
    (case l35 => k_is)
    (case c35 => k_is)
    (case k35 => k_is)
    (case z_all => k_is)
    (case z_bool => k_is)
    (case z_dict => k_is)
    (case z_divmod => k_is)
    (case z_int => k_is)
    (case z_isinstance => k_is)
    (case z_len => k_is)
    (case z_list => k_is)
    (case z_max => k_is)
    (case z_min => k_is)
    (case z_range => k_is)
    (case z_sorted => k_is)
    (case z_tuple => k_is)
    (case z_LONGEST_ROW => k_is)
    (case z_LONGEST_TABLED => k_is)
    (case zt_PARTS => k_is)
    (case yt_PARTS => k_is)
    (case zt_SIGNS => k_is)
    (case yt_SIGNS => k_is)
    (case gt => k_is)
    (case tk => k_is)
